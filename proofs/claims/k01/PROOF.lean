import PyProof.Rows.All
import Wide.All
import OpenK.AllK
import Wide.FinOn
import Lean
import PyProof.EqAt
import PyProof.EqKinds
import PyProof.TupleCall
import PySem.Challenge.RW_oneroom_k01_a_store
set_option Elab.async false
set_option linter.all false
set_option maxRecDepth 100000
/-! THE HAND LAYER, for ints, bools, texts, own classes, LISTS and tuples (index, slices, in, append, pop ..), calls, loops. Paste it whole ahead of your own text; what your proof does not reach may be deleted. -/
namespace L2
open PySem PySem.Spec PyProof.Rows

/-  a key: an int or a str -/
abbrev Key := Sum Int Str
def keyIs : Key → Value → Bool
  | .inl k, v => Value.isInt k v
  | .inr x, v => Value.isStrOf x v
def keyH (w : World) : Key → Int
  | .inl k => hashInt k
  | .inr x => hashStr w x
theorem keyIs_shape : ∀ {k : Key} {v : Value}, keyIs k v = true → (∃ i t, k = Sum.inl i ∧ v = Value.int i t) ∨ (∃ x t, k = Sum.inr x ∧ v = Value.str x t)
  | .inl i, v, h => by
    obtain ⟨t, e⟩ := Value.isInt_shape (k := i) (v := v) h
    exact .inl ⟨i, t, rfl, e⟩
  | .inr x, v, h => by
    obtain ⟨t, e⟩ := Value.isStrOf_shape (x := x) (v := v) h
    exact .inr ⟨x, t, rfl, e⟩
theorem key_ll (a b : Int) : decide ((Sum.inl a : Key) = Sum.inl b) = (a == b) := by
  by_cases e : a = b
  · subst e; simp
  · have h : ¬ (Sum.inl a : Key) = Sum.inl b := fun q => e (Sum.inl.inj q)
    rw [decide_eq_false h]
    exact (beq_eq_false_iff_ne.mpr e).symm
theorem key_rr (a b : Str) : decide ((Sum.inr a : Key) = Sum.inr b) = decide (a = b) := by
  by_cases e : a = b
  · subst e; simp
  · have h : ¬ (Sum.inr a : Key) = Sum.inr b := fun q => e (Sum.inr.inj q)
    rw [decide_eq_false h, decide_eq_false e]
theorem key_lr (a : Int) (b : Str) : decide ((Sum.inl a : Key) = Sum.inr b) = false := decide_eq_false (fun q => nomatch q)
theorem key_rl (a : Str) (b : Int) : decide ((Sum.inr a : Key) = Sum.inl b) = false := decide_eq_false (fun q => nomatch q)

def mixKind (prog : Program) (w : World) : PySem.KeyKind prog w Key where
  is := keyIs
  hash := keyH w
  inj := fun v a b ha hb => by
    rcases keyIs_shape ha with ⟨i, t, rfl, rfl⟩ | ⟨x, t, rfl, rfl⟩
    · rcases keyIs_shape hb with ⟨j, u, rfl, e⟩ | ⟨y, u, rfl, e⟩
      · injection e with e1 _; rw [e1]
      · exact nomatch e
    · rcases keyIs_shape hb with ⟨j, u, rfl, e⟩ | ⟨y, u, rfl, e⟩
      · exact nomatch e
      · injection e with e1 _; rw [e1]
  byValue := fun k v h => by
    rcases keyIs_shape h with ⟨i, t, rfl, rfl⟩ | ⟨x, t, rfl, rfl⟩ <;> rfl
  pyHash := fun hv h => by
    rcases keyIs_shape hv with ⟨i, t, rfl, rfl⟩ | ⟨x, t, rfl, rfl⟩
    · exact wpAny_pyHash_int h
    · exact wpAny_pyHash_str h
  eqBool := fun hu hv h => by
    rcases keyIs_shape hu with ⟨i, t, rfl, rfl⟩ | ⟨x, t, rfl, rfl⟩
    · rcases keyIs_shape hv with ⟨j, u, rfl, rfl⟩ | ⟨y, u, rfl, rfl⟩
      · rw [key_ll] at h; exact wpAny_eqBool_int h
      · rw [key_lr] at h; exact SeqAt.EqAt.int_str i t y u _ _ _ _ h
    · rcases keyIs_shape hv with ⟨j, u, rfl, rfl⟩ | ⟨y, u, rfl, rfl⟩
      · rw [key_rl] at h; exact SeqAt.EqAt.str_int x t j u _ _ _ _ h
      · rw [key_rr] at h; exact wpAny_eqBool_str h
  «strs» := fun k x t v h => by
    rcases keyIs_shape h with ⟨i, u, rfl, e⟩ | ⟨y, u, rfl, e⟩
    · exact nomatch e
    · injection e with e1 _
      subst e1
      cases v <;> rfl

end L2

namespace L2
open PySem PySem.Spec PyProof.Rows

/-  a value, without the heap -/
inductive V where
  | non | bl (b : Bool) | int (i : Int) | str (x : Str) | byt (b : Array UInt8) | flt (b : UInt64) | ref (a : Addr) | ty (n : String)
  deriving DecidableEq

def RelV : V → Value → Prop
  | .non, u => u = Value.none
  | .bl b, u => u = Value.bool b
  | .int i, u => ∃ t, u = Value.int i t
  | .str x, u => ∃ t, u = Value.str x t
  | .byt b, u => ∃ t, u = Value.bytes b t
  | .flt b, u => ∃ t, u = Value.float b t
  | .ref a, u => u = Value.ref a
  | .ty n, u => u = Value.type n

theorem RelV.fn {x y : V} {u : Value} (a : RelV x u) (b : RelV y u) : x = y := by
  cases x <;> simp only [RelV] at a <;> (first | subst a | (obtain ⟨_, rfl⟩ := a)) <;> cases y <;> simp only [RelV] at b <;> first | rfl | (cases b; done) | (cases b; rfl) | (obtain ⟨_, b⟩ := b; cases b; done) | (obtain ⟨_, b⟩ := b; cases b; rfl)
abbrev Vals : List V → List Value → Prop := Paired RelV
theorem Vals.length {xs : List V} {us : List Value} (r : Vals xs us) : xs.length = us.length := Paired.length r
theorem Vals.get : ∀ {xs : List V} {us : List Value} {i : Nat} {x : V}, Vals xs us → xs[i]? = some x → ∃ u, us[i]? = some u ∧ RelV x u
  | _, _, _, _, .nil, e => by simp at e
  | _, _, 0, _, .cons r _, e => by simp at e; subst e; exact ⟨_, rfl, r⟩
  | _, _, i + 1, x, .cons _ t, e => by
    obtain ⟨u, h1, h2⟩ := Vals.get (i := i) (x := x) t (by simpa using e)
    exact ⟨u, by simpa using h1, h2⟩
theorem Vals.set {x : V} {u : Value} (r : RelV x u) : ∀ {xs : List V} {us : List Value} (i : Nat), Vals xs us → Vals (xs.set i x) (us.set i u)
  | _, _, _, .nil => .nil
  | _, _, 0, .cons _ t => .cons r t
  | _, _, i + 1, .cons q t => .cons q (Vals.set r i t)
theorem Vals.append : ∀ {xs ys : List V} {us ws : List Value}, Vals xs us → Vals ys ws → Vals (xs ++ ys) (us ++ ws)
  | _, _, _, _, .nil, s => s
  | _, _, _, _, .cons r t, s => .cons r (Vals.append t s)
theorem Vals.take : ∀ {xs : List V} {us : List Value} (n : Nat), Vals xs us → Vals (xs.take n) (us.take n)
  | _, _, 0, _ => .nil
  | _, _, _ + 1, .nil => .nil
  | _, _, n + 1, .cons r t => .cons r (Vals.take n t)
theorem Vals.drop : ∀ {xs : List V} {us : List Value} (n : Nat), Vals xs us → Vals (xs.drop n) (us.drop n)
  | _, _, 0, r => r
  | _, _, _ + 1, .nil => .nil
  | _, _, n + 1, .cons _ t => Vals.drop n t
def RelO : Option V → Option Value → Prop
  | some v, some u => RelV v u
  | none, none => True
  | _, _ => False
def KV {κ : Type} : List (κ × V) → List (κ × Value) → Prop := Paired fun (p : κ × V) (q : κ × Value) => p.1 = q.1 ∧ RelV p.2 q.2

/-  a key of a dict (00_mix): an int or a text -/
def kV : Key → V
  | .inl i => .int i
  | .inr x => .str x

/-  what stands at a tracked address -/
inductive HO where
  /-- a list -/
  | lst (xs : List V)
  /-- a tuple (never changes) -/
  | tup (xs : List V)
  /-- a dict whose keys are ints and texts; one whose keys are tuples of ints and texts (the empty one is both) -/
  | dK (kvs : List (Key × V)) | dT (kvs : List (List Key × V))
  /-- a set of ints: its members, its size -/
  | set (S : Int → Bool) (n : Nat)
  /-- an instance of the class at C, its dict at dx, its attributes -/
  | ins (C dx : Addr) (fs : List (Str × V))
  /-- the dict of the instance at x -/
  | own (x : Addr)
  /-- the dict of an exception -/
  | xd (fs : List (Str × V))
  /-- a bound method, f of x -/
  | met (f x : Addr)
  /-- a range object lo, lo + 1, .. below hi -/
  | rng (lo hi : Int)
  /-- a thing that is known to the object (the script; a dict while a loop walks it): read, never written while it is so -/
  | frz (o : Obj) (u : HO)
  /-- a code object's table -/
  | tbl (qs : List (Pos × Str))
  | cel (v : Option V)
  /-- any other thing, by what is true of its one object (a def of one's own: SetO a S n := HO.ext fun h => ..) -/
  | ext (φ : Heap → Prop)

abbrev Hp := Addr → Option HO
def upd (H : Hp) (a : Addr) (o : HO) : Hp := fun b => if b = a then some o else H b
theorem upd_same {H : Hp} {a : Addr} {o : HO} : upd H a o a = some o := by unfold upd; rw [if_pos rfl]
theorem upd_ne {H : Hp} {a b : Addr} {o : HO} (h : b ≠ a) : upd H a o b = H b := by unfold upd; rw [if_neg h]
theorem upd_upd {H : Hp} {a : Addr} {o u : HO} : upd (upd H a o) a u = upd H a u := by
  funext b; unfold upd; split <;> rfl
/-  two objects of different content stand apart -/
theorem ne_of {H : Hp} {a b : Addr} {o u : HO} (h : H a = some o) (h' : H b = some u) (d : o ≠ u) : a ≠ b := by
  intro e; subst e; rw [h] at h'; exact d (Option.some.inj h')
theorem ne_of_none {H : Hp} {a b : Addr} {o : HO} (h : H a = some o) (h' : H b = none) : a ≠ b := by
  intro e; subst e; rw [h] at h'; cases h'

section
variable (P : Program) (w : World)
def ObjOk (H : Hp) (h : Heap) (a : Addr) : HO → Prop
  | .lst xs => xs.length ≤ sizeLine ∧ ∃ (its : List Value) (n : Nat), Vals xs its ∧ h.get? a = some { cls := .type "list", data := .seq its.toArray n }
  | .tup xs => xs.length ≤ sizeLine ∧ ∃ its : List Value, Vals xs its ∧ IsTup h a its.toArray
  | .dK kvs => kvs.length ≤ sizeLine ∧ (a == sysModules) = false ∧ ∃ vs, KV kvs vs ∧ h.DictOf (mixKind P w) a vs
  | .dT kvs => kvs.length ≤ sizeLine ∧ (a == sysModules) = false ∧ ∃ xs : List (List Key × Addr × Value),
      Paired (fun (p : List Key × V) (q : List Key × Addr × Value) => p.1 = q.1 ∧ H q.2.1 = some (.tup (p.1.map kV)) ∧ RelV p.2 q.2.2) kvs xs ∧
      ∃ o es ep, h.get? a = some o ∧ o.ExactDict ∧ o.data = .dict es ep ∧ es.toList = xs.map (entryOfKey (tupleKind (mixKind P w))) ∧ (xs.map (·.1)).Nodup
  | .set S n => h.SetOf (intKind P w) a S n
  | .ins C dx fs => H dx = some (.own a) ∧ fs.length ≤ 1000 ∧ dx ≠ a ∧ h.get? a = some (PySem.W.instObj C dx) ∧
      ∃ mA, h.Ns1 dx mA ∧ (∀ f, RelO (fs.lookup f) (mA f)) ∧ PySem.Within mA (fs.map (·.1))
  | .own _ => ∃ o, h.get? a = some o
  | .xd fs => ∃ mA, h.Ns1 a mA ∧ ∀ f, RelO (fs.lookup f) (mA f)
  | .rng lo hi => ∃ t u v, h.get? a = some { cls := .type "range", data := .fields #[.int lo t, .int hi u, .int 1 v] }
  | .frz o u => h.get? a = some o ∧ ObjOk H h a u
  | .tbl qs => ∃ ps : Array Value, h.get? a = some { cls := .none, data := .fields ps } ∧ TriplesOk ps.toList ∧ ∀ pos q, (pos, q) ∈ qs →
      codeAmong pos ps.toList = none ∨ ∃ c o u vs t, codeAmong pos ps.toList = some (.ref c) ∧ H c = some (.frz o u) ∧ o.data = .fields vs ∧ vs[1]? = some (.str q t)
  | .cel v => ∃ u, h.IsCell a u ∧ ∀ x, v = some x → ∃ y, u = some y ∧ RelV x y
  | .met f x => h.get? a = some (PySem.W.methodObj (.ref f) (.ref x))
  | .ext φ => φ h ∧ (∃ o, h.get? a = some o) ∧ ∀ h1 h2 : Heap, φ h1 → (∀ o, h1.get? a = some o → h2.get? a = some o) → φ h2
/-  the abstract heap is held -/
def HOk (H : Hp) (h : Heap) : Prop := ∀ a o, H a = some o → ObjOk P w H h a o
end

section
variable {P : Program} {w : World} {H H' : Hp} {h h' : Heap} {a : Addr} {o : HO}
def Rely : HO → Prop
  | .tup _ => True
  | .frz _ _ => True
  | _ => False
def Fix : HO → Prop
  | .tup _ => True
  | .frz _ _ => True
  | .tbl _ => True
  | .cel _ => True
  | _ => False
theorem ObjOk.lt (x : ObjOk P w H h a o) : a < h.objs.size := by
  cases o with
  | lst xs => obtain ⟨_, _, _, _, e⟩ := x; exact Heap.lt_size e
  | tup xs => obtain ⟨_, _, _, p⟩ := x; exact p.lt
  | dK kvs => obtain ⟨_, _, _, _, o, _, _, e, _⟩ := x; exact Heap.lt_size e
  | dT kvs => obtain ⟨_, _, _, _, o, _, _, e, _⟩ := x; exact Heap.lt_size e
  | set S n => obtain ⟨o, _, _, _, e, _⟩ := x; exact Heap.lt_size e
  | ins C dx fs => obtain ⟨_, _, _, e, _⟩ := x; exact Heap.lt_size e
  | own y => obtain ⟨_, e⟩ := x; exact Heap.lt_size e
  | xd fs => obtain ⟨_, ⟨_, _, _, e, _⟩, _⟩ := x; exact Heap.lt_size e
  | rng lo hi => obtain ⟨_, _, _, e⟩ := x; exact Heap.lt_size e
  | frz ob u => obtain ⟨e, _⟩ := x; exact Heap.lt_size e
  | tbl qs => obtain ⟨_, e, _⟩ := x; exact Heap.lt_size e
  | cel v => obtain ⟨_, ⟨_, e, _⟩, _⟩ := x; exact Heap.lt_size e
  | met f y => exact Heap.lt_size (show h.get? a = some _ from x)
  | ext φ => obtain ⟨_, ⟨_, e⟩, _⟩ := x; exact Heap.lt_size e
theorem Paired.mapP {α β : Type} {F G : α → β → Prop} : ∀ {l₁ : List α} {l₂ : List β}, Paired F l₁ l₂ → (∀ a b, F a b → G a b) → Paired G l₁ l₂
  | _, _, .nil, _ => .nil
  | _, _, .cons r t, f => .cons (f _ _ r) (Paired.mapP t f)
/-  what an object's description leans on: its own object, its own dict, the tuples -/
theorem ObjOk.stay (x : ObjOk P w H h a o) (k : ∀ b u, (b = a ∨ H b = some (.own a)) → h.get? b = some u → h'.get? b = some u)
    (ho : ∀ b, H b = some (.own a) → H' b = some (.own a)) (ht : ∀ b u, H b = some u → Rely u → H' b = some u) : ObjOk P w H' h' a o := by
  induction o with
  | lst xs => obtain ⟨z, its, n, r, e⟩ := x; exact ⟨z, its, n, r, k _ _ (.inl rfl) e⟩
  | tup xs => obtain ⟨z, its, r, ob, e, c⟩ := x; exact ⟨z, its, r, ob, k _ _ (.inl rfl) e, c⟩
  | dK kvs => obtain ⟨z, y, vs, r, ob, es, ep, e, c⟩ := x; exact ⟨z, y, vs, r, ob, es, ep, k _ _ (.inl rfl) e, c⟩
  | dT kvs =>
    obtain ⟨z, y, xs, r, ob, es, ep, e, c⟩ := x
    exact ⟨z, y, xs, Paired.mapP r fun p q z => ⟨z.1, ht _ _ z.2.1 trivial, z.2.2⟩, ob, es, ep, k _ _ (.inl rfl) e, c⟩
  | set S n => obtain ⟨ob, es, ep, t, e, c⟩ := x; exact ⟨ob, es, ep, t, k _ _ (.inl rfl) e, c⟩
  | ins C dx fs =>
    obtain ⟨d, z, ne, e, mA, ⟨od, es, ep, e2, c⟩, r⟩ := x
    exact ⟨ho _ d, z, ne, k _ _ (.inl rfl) e, mA, ⟨od, es, ep, k _ _ (.inr d) e2, c⟩, r⟩
  | own y => obtain ⟨ob, e⟩ := x; exact ⟨ob, k _ _ (.inl rfl) e⟩
  | xd fs => obtain ⟨mA, ⟨od, es, ep, e, c⟩, r⟩ := x; exact ⟨mA, ⟨od, es, ep, k _ _ (.inl rfl) e, c⟩, r⟩
  | rng lo hi => obtain ⟨t, u, v, e⟩ := x; exact ⟨t, u, v, k _ _ (.inl rfl) e⟩
  | frz ob u ih => obtain ⟨e, q⟩ := x; exact ⟨k _ _ (.inl rfl) e, ih q⟩
  | tbl qs =>
    obtain ⟨ps, e, tr, r⟩ := x
    refine ⟨ps, k _ _ (.inl rfl) e, tr, fun pos q m => ?_⟩
    rcases r pos q m with z | ⟨c, ob, u, vs, t, z1, z2, z3⟩
    · exact .inl z
    · exact .inr ⟨c, ob, u, vs, t, z1, ht _ _ z2 trivial, z3⟩
  | cel v => obtain ⟨u, ⟨ob, e, d⟩, r⟩ := x; exact ⟨u, ⟨ob, k _ _ (.inl rfl) e, d⟩, r⟩
  | met f y =>
    have e : h.get? a = some (PySem.W.methodObj (.ref f) (.ref y)) := x
    show h'.get? a = some (PySem.W.methodObj (.ref f) (.ref y))
    exact k a _ (.inl rfl) e
  | ext φ => obtain ⟨p, ⟨o, e⟩, st⟩ := x; exact ⟨st _ _ p fun o q => k _ _ (.inl rfl) q, ⟨o, k _ _ (.inl rfl) e⟩, st⟩
theorem HOk.lt (x : HOk P w H h) (e : H a = some o) : a < h.objs.size := (x a o e).lt
theorem HOk.fresh (x : HOk P w H h) (e : h.objs.size ≤ a) : H a = none := by
  cases q : H a with
  | none => rfl
  | some u => exact absurd (Nat.lt_of_lt_of_le (x.lt q) e) (Nat.lt_irrefl _)
/-  every object of the heap is kept -/
theorem HOk.kept (x : HOk P w H h) (k : ∀ b u, h.get? b = some u → h'.get? b = some u) : HOk P w H h' := fun a o e =>
  (x a o e).stay (fun b u _ q => k b u q) (fun _ q => q) fun _ _ q _ => q
/-  a new object is laid and tracked -/
theorem HOk.laid (x : HOk P w H h) (k : ∀ b u, h.get? b = some u → h'.get? b = some u) (hp : h.objs.size ≤ a) (new : ObjOk P w (upd H a o) h' a o) : HOk P w (upd H a o) h' := fun b u e => by
  have hn := x.fresh hp
  by_cases hb : b = a
  · subst hb; rw [upd_same] at e; cases e; exact new
  · rw [upd_ne hb] at e
    exact (x b u e).stay (fun c v _ q => k c v q) (fun c q => by rw [upd_ne (ne_of_none q hn)]; exact q) fun c xs q _ => by rw [upd_ne (ne_of_none q hn)]; exact q
end

/-  what may be read as u: it is u, or a known u -/
def Rd (H : Hp) (a : Addr) (u : HO) : Prop := H a = some u ∨ ∃ o, H a = some (.frz o u)
theorem Rd.ok {P : Program} {w : World} {H : Hp} {h : Heap} {a : Addr} {u : HO} (r : Rd H a u) (x : HOk P w H h) : ObjOk P w H h a u := by
  rcases r with r | ⟨o, r⟩
  · exact x a u r
  · obtain ⟨_, q⟩ := x a _ r
    exact q
/-  what may be written -/
def Mut : Option HO → Prop
  | some (.lst _) => True
  | some (.dK _) => True
  | some (.dT _) => True
  | some (.set _ _) => True
  | some (.ins _ _ _) => True
  | some (.ext _) => True
  | _ => False
section
variable {P : Program} {w : World} {H : Hp} {h h' : Heap} {x e : Addr} {o' : HO}
/-  the object at e is changed: x itself, or the dict of the instance x -/
theorem HOk.write (ok : HOk P w H h) (mu : Mut (H x)) (he : e = x ∨ H e = some (.own x)) (k : ∀ b u, b ≠ e → h.get? b = some u → h'.get? b = some u) (heo : ∃ u, h'.get? e = some u)
    (new : ObjOk P w (upd H x o') h' x o') : HOk P w (upd H x o') h' := fun b u q => by
  have nown : ∀ c y, H c = some (.own y) → c ≠ x := fun c y r z => by subst z; rw [r] at mu; exact mu
  have ntup : ∀ c u, H c = some u → Rely u → c ≠ x := fun c u r hf z => by
    subst z; rw [r] at mu
    cases u <;> first | exact mu | exact hf
  by_cases hb : b = x
  · subst hb; rw [upd_same] at q; cases q; exact new
  · rw [upd_ne hb] at q
    by_cases hbe : b = e
    · have q' : H b = some (.own x) := by
        rcases he with z | z
        · exact absurd (hbe.trans z) hb
        · rw [hbe]; exact z
      rw [q] at q'; cases q'
      obtain ⟨v, hv⟩ := heo
      exact ⟨v, by rw [hbe]; exact hv⟩
    · refine (ok b u q).stay (fun c v hc r => k c v ?_ r) (fun c r => by rw [upd_ne (nown c b r)]; exact r) fun c xs r hf => by rw [upd_ne (ntup c xs r hf)]; exact r
      rcases hc with rfl | hc
      · exact hbe
      · rintro rfl
        rcases he with z | z
        · exact nown c b hc z
        · rw [hc] at z; cases z; exact hb rfl
end

/-! ### kept unless tracked; of the frames at fs (the callers') the slots may change (an exception that passes writes there); of the records at ex (iterators) nothing is said -/
structure Un (fs ex : List Addr) (H H' : Hp) (h h' : Heap) : Prop where
  keep : ∀ b o, h.get? b = some o → H b = none → b ∉ fs → b ∉ ex → h'.get? b = some o
  slot : ∀ b o, h.get? b = some o → H b = none → b ∈ fs → b ∉ ex → ∃ sl, h'.get? b = some { o with slots := sl }
  free : ∀ b o, h.get? b = some o → H b = none → b ∉ ex → H' b = none
  there : ∀ b o, h.get? b = some o → b ∉ ex → ∃ o', h'.get? b = some o'
  fix : ∀ b u, H b = some u → Fix u → H' b = some u
section
variable {fs fs' ex ex' : List Addr} {H H1 H2 : Hp} {h h1 h2 h' : Heap} {a x e : Addr} {o : HO}
theorem Un.any (u : Un fs ex H H1 h h1) {b : Addr} {ob : Obj} (q : h.get? b = some ob) (n : H b = none) (hx : b ∉ ex) : ∃ sl, h1.get? b = some { ob with slots := sl } := by
  by_cases hb : b ∈ fs
  · exact u.slot b ob q n hb hx
  · exact ⟨ob.slots, u.keep b ob q n hb hx⟩
theorem Un.kept (k : ∀ b u, h.get? b = some u → h'.get? b = some u) : Un fs ex H H h h' :=
  ⟨fun b ob q _ _ _ => k b ob q, fun b ob q _ _ _ => ⟨ob.slots, k b ob q⟩, fun _ _ _ n _ => n, fun b ob q _ => ⟨ob, k b ob q⟩, fun _ _ q _ => q⟩
theorem Un.refl : Un fs ex H H h h := Un.kept fun _ _ q => q
theorem Un.laid (k : ∀ b u, h.get? b = some u → h'.get? b = some u) (hp : h.objs.size ≤ a) (hn : H a = none) : Un fs ex H (upd H a o) h h' where
  keep := fun b u q _ _ _ => k b u q
  slot := fun b u q _ _ _ => ⟨u.slots, k b u q⟩
  free := fun b u q n _ => by rw [upd_ne (Nat.ne_of_lt (Nat.lt_of_lt_of_le (Heap.lt_size q) hp))]; exact n
  there := fun b u q _ => ⟨u, k b u q⟩
  fix := fun b u q _ => by rw [upd_ne (ne_of_none q hn)]; exact q
theorem Un.write (mu : Mut (H x)) (he : e = x ∨ H e = some (.own x)) (k : ∀ b u, b ≠ e → h.get? b = some u → h'.get? b = some u) (heo : ∃ u, h'.get? e = some u) : Un fs ex H (upd H x o) h h' := by
  have hx : ∀ b, H b = none → b ≠ x := fun b n z => by subst z; rw [n] at mu; exact mu
  have hb : ∀ b, H b = none → b ≠ e := fun b n z => by
    subst z
    rcases he with r | r
    · exact hx b n r
    · rw [n] at r; cases r
  have hm : ∀ b u, H b = some u → ¬ Mut (some u) → b ≠ x := fun b u q nm z => by subst z; rw [q] at mu; exact nm mu
  refine ⟨fun b u q n _ _ => k b u (hb b n) q, fun b u q n _ _ => ⟨u.slots, k b u (hb b n) q⟩, fun b u q n _ => by rw [upd_ne (hx b n)]; exact n, fun b u q _ => ?_,
    fun b u q hf => by rw [upd_ne (hm b _ q fun z => by cases u <;> first | exact z | exact hf)]; exact q⟩
  by_cases hbe : b = e
  · subst hbe; exact heo
  · exact ⟨u, k b u hbe q⟩
end

/-! ### the heap without what is tracked -/
def trk (h : Heap) (H : Hp) : List Addr := (List.range h.objs.size).filter fun a => (H a).isSome
def hidT (h : Heap) (H : Hp) : Heap := PySem.W.hideAll h (trk h H)
theorem hidT_size (h : Heap) (H : Hp) : (hidT h H).objs.size = h.objs.size := PySem.W.hideAll_size _ _
theorem hidT_get {h : Heap} {H : Hp} {b : Addr} {o : Obj} (e : h.get? b = some o) (n : H b = none) : (hidT h H).get? b = some o :=
  PySem.W.hideAll_get _ e fun hm => by
    have q : (H b).isSome = true := (List.mem_filter.mp hm).2
    rw [n] at q; simp at q
theorem of_hidT {h : Heap} {H : Hp} {b : Addr} {o : Obj} (e : (hidT h H).get? b = some o) : h.get? b = some o ∧ H b = none := by
  have e' : h.get? b = some o := PySem.W.of_hideAll (trk h H) e
  refine ⟨e', ?_⟩
  cases q : H b with
  | none => rfl
  | some x =>
    have hm : b ∈ trk h H := List.mem_filter.mpr ⟨List.mem_range.mpr (Heap.lt_size e'), by simp [q]⟩
    have z : (hidT h H).get? b = none := PySem.W.hideAll_none (trk h H) hm
    rw [z] at e; cases e

/-! ### OpenK's ledger, filled with every new object but one -/
def allNews (g h : Heap) (L : Addr) : List (Addr × Obj) := (List.range h.objs.size).filterMap fun a => if a = L ∨ (g.get? a).isSome = true then none else (h.get? a).map fun o => (a, o)
def rest (g h : Heap) (L d : Addr) : List (Addr × Obj) := (allNews g h L).filter fun p => decide (p.1 ≠ d)
/-  behind a rule that changed d alone: all else but the frame is kept -/
end L2

namespace L2
open PySem PySem.Spec PyProof.Rows

/-  the module's facts, over the base: the heap at the law's entry without what is tracked there -/
structure Mod (K : PySem.W.Frag) (mg : Str → Option Value) (base : Heap) : Prop where
  kin : K.In base
  glob : base.Ns mainGlobals mg
  blt : ∃ mb, base.Ns builtinsNs mb ∧ ∀ x : Str, x ≠ "__name__" → mb x = bootBuiltins x
  nolimit : base.NoLimit
  bm : ∃ b o, mg "__builtins__" = some (.ref b) ∧ b ≠ builtinsNs ∧ base.get? b = some o ∧ o.cls = .type "module" ∧ o.dict = some builtinsNs ∧ o.data = .plain

/-  the context: a def's body (or a comprehension's block) running. base: fixed through the whole law; s₀, H₀: the entry; outer: the frames whose slots others may change (a def's callers); stack: all frames that run;
   ex: iterators that were made ahead of the entry and are walked here (a comprehension's); fn: the names whose cells were made at the entry (a def: all; a comprehension's block: its own); calm: not within an except suite; pn: pins that every state bears; xe: what is wanted of an exception that leaves the code -/
structure Cx where
  prog : Program
  w : World
  K : PySem.W.Frag
  mg : Str → Option Value
  base : Heap
  A : Around
  N : List Str
  s₀ : Shared
  H₀ : Hp
  env : Env
  outer : List Env
  stack : List Env
  ex : List Addr
  fn : Str → Bool
  calm : Bool
  pn : List (Addr × Obj)
  xe : Value → Shared → Prop
  cp : Str → Bool
/-  the callers' frames -/
def frs (l : List Env) : List Addr := l.filterMap (·.frame)
abbrev Cx.fs (X : Cx) : List Addr := frs X.outer

def Vis (sc : Scope) (x : Str) : Prop := sc.names.lookup x = some .local ∨ sc.names.lookup x = some .cell ∨ sc.names.lookup x = some .free
def Loc (sc : Scope) (x : Str) : Prop := sc.names.lookup x = some .local ∨ sc.names.lookup x = some .cell
def Look (env : Env) (h : Heap) (m : Str → Option Value) (x : Str) (u : Value) : Prop :=
  (env.kindOf x = some .local ∧ m x = some u) ∨ ((env.kindOf x = some .cell ∨ env.kindOf x = some .free) ∧ ∃ c, env.cells.lookup x = some c ∧ h.IsCell c (some u))

structure Cx.Ok (X : Cx) : Prop where
  mod : Mod X.K X.mg X.base
  kind : X.env.scope.kind = .function
  glob : X.env.globals = mainGlobals
  blt : X.env.builtins = builtinsNs
  above : X.s₀.heap.objs.size ≤ X.env.locals
  inj : ∀ x y c, X.env.cells.lookup x = some c → X.env.cells.lookup y = some c → x = y
  has : ∀ x, (X.env.kindOf x = some .cell ∨ X.env.kindOf x = some .free) → ∃ c, X.env.cells.lookup x = some c
  cab : ∀ x c, X.fn x = true → X.env.cells.lookup x = some c → X.s₀.heap.objs.size ≤ c
  hd : X.calm = true → X.A.handled = none
  frames : X.A.frames = some X.stack
  stk : X.stack = X.outer ∨ (X.stack = X.env :: X.outer ∧ X.env.frame = some X.env.locals)
  exf : ∀ b ∈ X.ex, b ≠ X.env.locals ∧ ∀ x c, X.env.cells.lookup x = some c → c ≠ b
  bs : ∀ b o, X.base.get? b = some o → X.s₀.heap.get? b = some o ∧ X.H₀ b = none
  bsz : X.base.objs.size ≤ X.s₀.heap.objs.size
  noex : ∀ b o, X.base.get? b = some o → b ∉ X.ex
  exfs : ∀ b ∈ X.ex, b ∉ X.fs
  funs : X.s₀.heap.FunFrames X.base X.outer
  frf : ∀ b ∈ X.fs, X.H₀ b = none
  cab2 : ∀ x c, X.cp x = true → X.env.cells.lookup x = some c → X.s₀.heap.objs.size ≤ c
  hz : ∀ b, X.s₀.heap.objs.size ≤ b → X.H₀ b = none

structure Inv (X : Cx) (pins : List (Addr × Obj)) (σ : List (Option V)) (H : Hp) (s : Shared) : Prop where
  ok : X.Ok
  os : s.os = X.s₀.os
  bare : AllBare s.gens
  base : Un X.fs X.ex X.H₀ H X.s₀.heap s.heap
  loc : ∃ m, s.heap.Ns X.env.locals m ∧ ∀ (i : Nat) (x : Str) (v : V), X.N[i]? = some x → σ[i]? = some (some v) → Vis X.env.scope x → ∃ u, RelV v u ∧ Look X.env s.heap m x u
  cell : ∀ x c, X.env.cells.lookup x = some c → ∃ v, s.heap.IsCell c v
  free : H X.env.locals = none
  freeC : ∀ x c, X.env.cells.lookup x = some c → H c = none ∨ (X.fn x = false ∧ ∃ o, H c = some (.cel o) ∧ (o = none → ∀ (i : Nat) v, X.N[i]? = some x → (X.env.kindOf x = some .cell ∨ X.env.kindOf x = some .free) → σ[i]? ≠ some (some v)))
  pin : ∀ p ∈ X.pn ++ pins, s.heap.get? p.1 = some p.2 ∧ H p.1 = none ∧ p.1 ≠ X.env.locals ∧ p.1 ∉ X.fs ∧ ∀ v, p.2.data ≠ .cell v
  hok : HOk X.prog X.w H s.heap
  len : σ.length = X.N.length

section
variable {X : Cx} {pins : List (Addr × Obj)} {σ : List (Option V)} {H H' : Hp} {s : Shared} {h' : Heap}

theorem Cx.Ok.nofr (ok : X.Ok) {b : Addr} {o : Obj} (e : X.base.get? b = some o) : b ∉ X.fs := fun hb => by
  have := (ok.funs.mem hb).1
  rw [e] at this; cases this
theorem Inv.bs (I : Inv X pins σ H s) : ∀ b o, X.base.get? b = some o → s.heap.get? b = some o ∧ H b = none := fun b o e =>
  ⟨I.base.keep b o (I.ok.bs b o e).1 (I.ok.bs b o e).2 (I.ok.nofr e) (I.ok.noex b o e), I.base.free b o (I.ok.bs b o e).1 (I.ok.bs b o e).2 (I.ok.noex b o e)⟩
theorem Inv.bk (I : Inv X pins σ H s) : ∀ b o, X.base.get? b = some o → s.heap.get? b = some o := fun b o e => (I.bs b o e).1
theorem Inv.mod (I : Inv X pins σ H s) : Mod X.K X.mg X.base := I.ok.mod
theorem Inv.kIn (I : Inv X pins σ H s) : X.K.In s.heap := I.ok.mod.kin.keeps I.bk
/-  the frame over the base: for OpenK's rules (K.In X.base is I.mod.kin) -/
theorem Inv.lt (I : Inv X pins σ H s) : X.env.locals < s.heap.objs.size := let ⟨_, hn, _⟩ := I.loc; hn.lt
theorem Inv.sz (I : Inv X pins σ H s) : X.s₀.heap.objs.size ≤ s.heap.objs.size := Nat.le_trans I.ok.above (Nat.le_of_lt I.lt)
theorem Inv.nofs (I : Inv X pins σ H s) {a : Addr} (h : s.heap.objs.size ≤ a) : a ∉ X.fs := fun hb => by
  obtain ⟨_, o, ho, _⟩ := I.ok.funs.mem hb
  exact absurd (Nat.lt_of_lt_of_le (Heap.lt_size ho) (Nat.le_trans I.sz h)) (Nat.lt_irrefl _)
theorem Inv.cne (I : Inv X pins σ H s) : ∀ x c, X.env.cells.lookup x = some c → c ≠ X.env.locals := fun x c e z => by
  obtain ⟨v, o, ho, hd⟩ := I.cell x c e
  obtain ⟨m, ⟨o', es, ep, ho', hd', _⟩, _⟩ := I.loc
  rw [z, ho'] at ho; cases ho; rw [hd'] at hd; cases hd
theorem Inv.funs (I : Inv X pins σ H s) : s.heap.FunFrames X.base X.outer := by
  have all : ∀ (l : List Env), (∀ b ∈ frs l, b ∈ X.fs) → X.s₀.heap.FunFrames X.base l → s.heap.FunFrames X.base l := by
    intro l
    induction l with
    | nil => intro _ _; trivial
    | cons env r ih =>
      intro hs hl
      obtain ⟨hk, ⟨L, o, hf, hn, ho, hd⟩, hr⟩ := hl
      have hL : L ∈ X.fs := hs L (by unfold frs; rw [List.filterMap_cons, hf]; exact List.mem_cons_self)
      obtain ⟨sl, e⟩ := I.base.slot L o ho (I.ok.frf L hL) hL fun z => I.ok.exfs L z hL
      exact ⟨hk, ⟨L, _, hf, hn, e, hd⟩, ih (fun b hb => hs b (by unfold frs; rw [List.filterMap_cons, hf]; exact List.mem_cons_of_mem _ hb)) hr⟩
  exact all X.outer (fun _ hb => hb) I.ok.funs

/-  the frames that run, for a call -/
theorem Inv.stack (I : Inv X pins σ H s) : s.heap.FunFrames X.base X.stack := by
  rcases I.ok.stk with e | ⟨e, hf⟩
  · rw [e]; exact I.funs
  · rw [e]
    obtain ⟨m, hn, _⟩ := I.loc
    refine .cons (by rw [I.ok.kind]; decide) hf hn ?_ I.funs
    exact Heap.get?_none_of_le (Nat.le_trans I.ok.bsz I.ok.above)
theorem Inv.stkSub (I : Inv X pins σ H s) : ∀ b ∈ frs X.stack, b ∈ X.env.locals :: X.fs := fun b hb => by
  rcases I.ok.stk with e | ⟨e, hf⟩
  · rw [e] at hb; exact List.mem_cons_of_mem _ hb
  · rw [e] at hb
    unfold frs at hb
    rw [List.filterMap_cons, hf] at hb
    exact hb
theorem Inv.stkFree (I : Inv X pins σ H s) : ∀ b ∈ frs X.stack, H b = none := fun b hb => by
  rcases List.mem_cons.mp (I.stkSub b hb) with e | hb
  · rw [e]; exact I.free
  · obtain ⟨_, o, ho, _⟩ := I.ok.funs.mem hb
    exact I.base.free b o ho (I.ok.frf b hb) fun z => I.ok.exfs b z hb

/-  THE STEP: the untracked objects but the frame and the records at ch are kept (the callers' frames up to slots), the frame's map is kept, the new abstract heap is held -/
theorem Inv.step {g' : Array GenState} {t' : Nat} {d' : Drawn} {ch : List Addr} (I : Inv X pins σ H s)
    (hch : ∀ b ∈ ch, (b ∈ X.ex ∨ X.s₀.heap.objs.size ≤ b) ∧ b ≠ X.env.locals ∧ (∀ x c, X.env.cells.lookup x = some c → c ≠ b) ∧ ∀ p ∈ X.pn ++ pins, p.1 ≠ b)
    (keep : ∀ b o, b ≠ X.env.locals → b ∉ X.fs → b ∉ ch → s.heap.get? b = some o → H b = none → h'.get? b = some o)
    (slot : ∀ b o, b ≠ X.env.locals → b ∈ X.fs → b ∉ ch → s.heap.get? b = some o → H b = none → ∃ sl, h'.get? b = some { o with slots := sl }) (free : ∀ b o, b ∉ ch → s.heap.get? b = some o → H b = none → H' b = none)
    (there : ∀ b o, b ∉ ch → s.heap.get? b = some o → ∃ o', h'.get? b = some o')
    (fix : ∀ b u, H b = some u → Fix u → H' b = some u)
    (ns : ∀ m, s.heap.Ns X.env.locals m → h'.Ns X.env.locals m) (hok : HOk X.prog X.w H' h') (hg : AllBare g') :
    Inv X pins σ H' { s with heap := h', gens := g', drawn := d', toks := t' } := by
  have neL : ∀ b o, X.s₀.heap.get? b = some o → b ≠ X.env.locals := fun b o e => Nat.ne_of_lt (Nat.lt_of_lt_of_le (Heap.lt_size e) I.ok.above)
  have neC : ∀ b o, X.s₀.heap.get? b = some o → b ∉ X.ex → b ∉ ch := fun b o e hx hb => by
    rcases (hch b hb).1 with z | z
    · exact hx z
    · exact absurd (Nat.lt_of_lt_of_le (Heap.lt_size e) z) (Nat.lt_irrefl _)
  have cellK : ∀ x c, X.env.cells.lookup x = some c → H c = none → ∀ v, s.heap.IsCell c v → h'.IsCell c v := fun x c e hn v ⟨o, ho, hd⟩ => by
    have nch : c ∉ ch := fun z => (hch c z).2.2.1 x c e rfl
    by_cases hc : c ∈ X.fs
    · obtain ⟨sl, q⟩ := slot c o (I.cne x c e) hc nch ho hn
      exact ⟨_, q, hd⟩
    · exact ⟨o, keep c o (I.cne x c e) hc nch ho hn, hd⟩
  refine ⟨I.ok, I.os, hg, ⟨fun b o e n hb hx => ?_, fun b o e n hb hx => ?_, fun b o e n hx => ?_, fun b o e hx => ?_, fun b u e f => fix b u (I.base.fix b u e f) f⟩, ?_, fun x c e => ?_, ?_, fun x c e => ?_, fun p hp => ?_, hok, I.len⟩
  · exact keep b o (neL b o e) hb (neC b o e hx) (I.base.keep b o e n hb hx) (I.base.free b o e n hx)
  · obtain ⟨sl, e1⟩ := I.base.slot b o e n hb hx
    obtain ⟨sl', e2⟩ := slot b _ (neL b o e) hb (neC b o e hx) e1 (I.base.free b o e n hx)
    exact ⟨sl', e2⟩
  · obtain ⟨o', e1⟩ := I.base.there b o e hx
    exact free b o' (neC b o e hx) e1 (I.base.free b o e n hx)
  · obtain ⟨o', e1⟩ := I.base.there b o e hx
    exact there b o' (neC b o e hx) e1
  · obtain ⟨m, hn, hl⟩ := I.loc
    refine ⟨m, ns m hn, fun i x v e1 e2 e3 => ?_⟩
    obtain ⟨u, r, l⟩ := hl i x v e1 e2 e3
    rcases l with l | ⟨k, c, e, z⟩
    · exact ⟨u, r, .inl l⟩
    · rcases I.freeC x c e with hn' | ⟨_, o, ho, hno⟩
      · exact ⟨u, r, .inr ⟨k, c, e, cellK x c e hn' _ z⟩⟩
      · cases o with
        | none => exact absurd e2 (hno rfl i v e1 k)
        | some v' =>
          obtain ⟨y, hy, hr⟩ := I.hok c _ ho
          obtain ⟨y', hy', hr'⟩ := hok c _ (fix c _ ho trivial)
          obtain ⟨y2, rfl, r2⟩ := hr v' rfl
          obtain ⟨y3, rfl, r3⟩ := hr' v' rfl
          have : v = v' := RelV.fn r (by
            obtain ⟨o1, q1, q2⟩ := z
            obtain ⟨o2, q3, q4⟩ := hy
            rw [q1] at q3; cases q3
            rw [q2] at q4; cases q4
            exact r2)
          subst this
          exact ⟨y3, r3, .inr ⟨k, c, e, hy'⟩⟩
  · rcases I.freeC x c e with hn' | ⟨_, o, ho, _⟩
    · obtain ⟨v, z⟩ := I.cell x c e
      exact ⟨v, cellK x c e hn' v z⟩
    · obtain ⟨y', hy', _⟩ := hok c _ (fix c _ ho trivial)
      exact ⟨y', hy'⟩
  · obtain ⟨m, ⟨o, _, _, ho, _⟩, _⟩ := I.loc
    exact free _ o (fun z => (hch _ z).2.1 rfl) ho I.free
  · rcases I.freeC x c e with hn' | ⟨hf, o, ho, hno⟩
    · obtain ⟨v, o, ho, hd⟩ := I.cell x c e
      exact .inl (free c o (fun z => (hch c z).2.2.1 x c e rfl) ho hn')
    · exact .inr ⟨hf, o, fix c _ ho trivial, hno⟩
  · obtain ⟨e, n, ne, nf, d⟩ := I.pin p hp
    have nch : p.1 ∉ ch := fun z => (hch p.1 z).2.2.2 p hp rfl
    exact ⟨keep p.1 p.2 ne nf nch e n, free p.1 p.2 nch e n, ne, nf, d⟩
/-  .. where the frame's own object is kept too -/
theorem Inv.un {t' : Nat} (I : Inv X pins σ H s) (u : Un X.fs [] H H' s.heap h') (hok : HOk X.prog X.w H' h') : Inv X pins σ H' { s with heap := h', toks := t' } := by
  obtain ⟨m, ⟨o, es, ep, ho, r⟩, _⟩ := id I.loc
  obtain ⟨sl, hL⟩ := u.any ho I.free (by simp)
  exact I.step (g' := s.gens) (d' := s.drawn) (ch := []) (fun _ z => nomatch z) (fun b o _ hb _ e n => u.keep b o e n hb (by simp)) (fun b o _ hb _ e n => u.slot b o e n hb (by simp)) (fun b o _ e n => u.free b o e n (by simp)) (fun b o _ e => u.there b o e (by simp)) u.fix (fun m' hm => by
    obtain ⟨o', es', ep', ho', r'⟩ := hm
    rw [ho] at ho'; cases ho'
    exact ⟨_, es', ep', hL, r'⟩) hok I.bare
/-  behind a call (or a comprehension's block): the slots of this frame may have changed too, the records at ch may have turned -/
theorem Inv.call {g' : Array GenState} {t' : Nat} {d' : Drawn} {ch : List Addr} (I : Inv X pins σ H s) (u : Un (frs X.stack) ch H H' s.heap h') (hok : HOk X.prog X.w H' h') (hg : AllBare g')
    (hch : ∀ b ∈ ch, (b ∈ X.ex ∨ X.s₀.heap.objs.size ≤ b) ∧ b ≠ X.env.locals ∧ (∀ x c, X.env.cells.lookup x = some c → c ≠ b) ∧ ∀ p ∈ X.pn ++ pins, p.1 ≠ b) :
    Inv X pins σ H' { s with heap := h', gens := g', drawn := d', toks := t' } := by
  obtain ⟨m, ⟨o, es, ep, ho, r⟩, _⟩ := id I.loc
  obtain ⟨sl, hL⟩ := u.any ho I.free fun z => (hch _ z).2.1 rfl
  exact I.step (ch := ch) hch (fun b o hL hb hc e n => u.keep b o e n (fun z => (List.mem_cons.mp (I.stkSub b z)).elim hL hb) hc) (fun b o _ _ hc e n => u.any e n hc) (fun b o hc e n => u.free b o e n hc) (fun b o hc e => u.there b o e hc) u.fix (fun m' hm => by
    obtain ⟨o', es', ep', ho', r'⟩ := hm
    rw [ho] at ho'; cases ho'
    exact ⟨_, es', ep', hL, r'⟩) hok hg
/-  an untracked record of ours (an iterator) has turned -/
theorem Inv.turned {t' : Nat} {it : Addr} (I : Inv X pins σ H s) (k : ∀ b o, b ≠ it → s.heap.get? b = some o → h'.get? b = some o) (hn : H it = none) (hL : it ≠ X.env.locals)
    (h1 : it ∈ X.ex ∨ X.s₀.heap.objs.size ≤ it) (h2 : ∀ x c, X.env.cells.lookup x = some c → c ≠ it) (h3 : ∀ p ∈ X.pn ++ pins, p.1 ≠ it) : Inv X pins σ H { s with heap := h', toks := t' } := by
  have nit : ∀ b u, H b = some u → b ≠ it := fun b u e z => by rw [z, hn] at e; cases e
  refine I.step (g' := s.gens) (d' := s.drawn) (ch := [it]) (fun b hb => ?_) (fun b o _ _ hc e _ => k b o (fun z => hc (by simp [z])) e) (fun b o _ _ hc e _ => ⟨o.slots, k b o (fun z => hc (by simp [z])) e⟩) (fun _ _ _ _ n => n)
    (fun b o hc e => ⟨o, k b o (fun z => hc (by simp [z])) e⟩) (fun _ _ e _ => e) (fun m hm => ?_) (fun b u e => ?_) I.bare
  · have e : b = it := by simpa using hb
    subst e
    exact ⟨h1, hL, h2, h3⟩
  · obtain ⟨o, es, ep, ho, r⟩ := hm
    exact ⟨o, es, ep, k _ o (Ne.symm hL) ho, r⟩
  · refine (I.hok b u e).stay (fun c v hc q => k c v ?_ q) (fun _ q => q) fun _ _ q _ => q
    rcases hc with z | z
    · rw [z]; exact nit b u e
    · exact nit c _ z
theorem Inv.tok (I : Inv X pins σ H s) (t : Nat) : Inv X pins σ H { s with toks := t } := I.un (h' := s.heap) (t' := t) Un.refl I.hok
/-  all objects kept -/
theorem Inv.kept {t' : Nat} (I : Inv X pins σ H s) (k : ∀ b u, s.heap.get? b = some u → h'.get? b = some u) : Inv X pins σ H { s with heap := h', toks := t' } := I.un (Un.kept k) (I.hok.kept k)
/-  a new object laid and tracked -/
theorem Inv.laid {a : Addr} {o : HO} {t' : Nat} (I : Inv X pins σ H s) (k : ∀ b u, s.heap.get? b = some u → h'.get? b = some u) (hp : s.heap.objs.size ≤ a) (new : ObjOk X.prog X.w (upd H a o) h' a o) :
    Inv X pins σ (upd H a o) { s with heap := h', toks := t' } := I.un (Un.laid k hp (I.hok.fresh hp)) (I.hok.laid k hp new)
/-  an object written -/
theorem Inv.write {x e : Addr} {o : HO} {t' : Nat} (I : Inv X pins σ H s) (mu : Mut (H x)) (he : e = x ∨ H e = some (.own x)) (k : ∀ b u, b ≠ e → s.heap.get? b = some u → h'.get? b = some u) (heo : ∃ u, h'.get? e = some u)
    (new : ObjOk X.prog X.w (upd H x o) h' x o) : Inv X pins σ (upd H x o) { s with heap := h', toks := t' } := I.un (Un.write mu he k heo) (I.hok.write mu he k heo new)
/-  forgetting slots, pins -/
theorem Inv.weak {σ' : List (Option V)} (I : Inv X pins σ H s) (hl : σ'.length = σ.length) (w : ∀ (i : Nat) v, σ'[i]? = some (some v) → σ[i]? = some (some v)) : Inv X pins σ' H s :=
  ⟨I.ok, I.os, I.bare, I.base, let ⟨m, hn, hl'⟩ := I.loc; ⟨m, hn, fun i x v e1 e2 e3 => hl' i x v e1 (w i v e2) e3⟩, I.cell, I.free, fun x c e => (I.freeC x c e).imp id fun ⟨hf, o, ho, hno⟩ => ⟨hf, o, ho, fun z i v e1 k e2 => hno z i v e1 k (w i v e2)⟩, I.pin, I.hok, hl.trans I.len⟩
theorem Inv.pins_of {pins' : List (Addr × Obj)} (I : Inv X pins σ H s) (h : ∀ p ∈ pins', s.heap.get? p.1 = some p.2 ∧ H p.1 = none ∧ p.1 ≠ X.env.locals ∧ p.1 ∉ X.fs ∧ ∀ v, p.2.data ≠ .cell v) : Inv X pins' σ H s :=
  ⟨I.ok, I.os, I.bare, I.base, I.loc, I.cell, I.free, I.freeC, fun p hp => (List.mem_append.mp hp).elim (fun z => I.pin p (List.mem_append_left _ z)) (h p), I.hok, I.len⟩

theorem nodup_ix {N : List Str} (hN : N.Nodup) {i j : Nat} {x : Str} (a : N[i]? = some x) (b : N[j]? = some x) : i = j := by
  obtain ⟨h1, e1⟩ := List.getElem?_eq_some_iff.mp a
  obtain ⟨h2, e2⟩ := List.getElem?_eq_some_iff.mp b
  exact (List.getElem_inj hN).mp (e1.trans e2.symm)

/-  a name is stored; what changed -/
theorem store_ok2 {M : Model} {A : Around} {E : Value → Shared → Prop} {i : Nat} {x : Str} {v : V} {u : Value} {Q : Unit → Shared → Prop} (I : Inv X pins σ H s) (hN : X.N.Nodup) (hi : X.N[i]? = some x) (hx : Loc X.env.scope x) (r : RelV v u)
    (h : ∀ s', Inv X pins (σ.set i (some v)) H s' → (∃ a, Heap.SameBut a s.heap s'.heap ∧ (a = X.env.locals ∨ X.env.cells.lookup x = some a)) → Q () s') (hf : X.fn x = true ∨ X.env.scope.names.lookup x = some .local := by first | exact .inl rfl | exact .inr rfl | assumption) : wpAny M A (storeName X.env x u) Q E s := by
  obtain ⟨m, hn, hl⟩ := id I.loc
  have hcls : (X.env.scope.kind == .class || (X.env.scope.kind == .module && X.env.locals != X.env.globals)) = false := by rw [I.ok.kind]; rfl
  have hiσ : i < σ.length := by rw [I.len]; exact (List.getElem?_eq_some_iff.mp hi).1
  have cne := I.cne
  have tracked : ∀ {a : Addr} {h' : Heap}, (∃ o, s.heap.get? a = some o ∧ H a = none) → Heap.SameBut a s.heap h' → HOk X.prog X.w H h' := fun {a h'} ha hs b ob e => by
    obtain ⟨_, _, hfree⟩ := ha
    refine (I.hok b ob e).stay (fun c w' hc q => (hs.2 c ?_).trans q) (fun _ q => q) fun _ _ q _ => q
    rintro rfl
    rcases hc with rfl | hc
    · rw [hfree] at e; cases e
    · rw [hfree] at hc; cases hc
  rcases hx with hk | hk
  · refine wpAny_storeName_local hk hn (fun h' hn' hs => ?_) hcls
    obtain ⟨oL, _, _, hoL, _⟩ := id hn
    refine h _ ⟨I.ok, I.os, I.bare, ⟨fun b o e n hb hx => ?_, fun b o e n hb hx => ?_, I.base.free, fun b o e hx => ?_, I.base.fix⟩, ⟨_, hn', fun j y v' e1 e2 e3 => ?_⟩, fun y c e => ?_, I.free, fun y c e => ?_, fun p hp => ?_, tracked ⟨oL, hoL, I.free⟩ hs, by simpa using I.len⟩ ⟨_, hs, .inl rfl⟩
    · exact (hs.2 b (Nat.ne_of_lt (Nat.lt_of_lt_of_le (Heap.lt_size e) I.ok.above))).trans (I.base.keep b o e n hb hx)
    · obtain ⟨sl, e1⟩ := I.base.slot b o e n hb hx
      exact ⟨sl, (hs.2 b (Nat.ne_of_lt (Nat.lt_of_lt_of_le (Heap.lt_size e) I.ok.above))).trans e1⟩
    · obtain ⟨o', e1⟩ := I.base.there b o e hx
      exact ⟨o', (hs.2 b (Nat.ne_of_lt (Nat.lt_of_lt_of_le (Heap.lt_size e) I.ok.above))).trans e1⟩
    · by_cases hj : j = i
      · subst hj
        rw [hi] at e1; cases e1
        rw [List.getElem?_set_self hiσ] at e2
        cases e2
        exact ⟨u, r, .inl ⟨hk, by simp⟩⟩
      · rw [List.getElem?_set_ne (Ne.symm hj)] at e2
        obtain ⟨u', r', q⟩ := hl j y v' e1 e2 e3
        refine ⟨u', r', ?_⟩
        rcases q with ⟨k, e⟩ | ⟨k, c, e, z⟩
        · refine .inl ⟨k, ?_⟩
          have : y ≠ x := fun e => hj (nodup_ix hN e1 (e ▸ hi))
          simp [this, e]
        · exact .inr ⟨k, c, e, z.sameBut hs (cne y c e)⟩
    · obtain ⟨w', z⟩ := I.cell y c e
      exact ⟨w', z.sameBut hs (cne y c e)⟩
    · refine (I.freeC y c e).imp id fun ⟨hf', o', ho', hno⟩ => ⟨hf', o', ho', fun z j v' e1 k e2 => ?_⟩
      by_cases hj : j = i
      · subst hj
        rw [hi] at e1; cases e1
        have hk' : X.env.kindOf x = some .local := hk
        rw [hk'] at k
        rcases k with k | k <;> cases k
      · rw [List.getElem?_set_ne (Ne.symm hj)] at e2
        exact hno z j v' e1 k e2
    · obtain ⟨e, n, ne, nf, d⟩ := I.pin p hp
      exact ⟨(hs.2 p.1 ne).trans e, n, ne, nf, d⟩
  · have hfn : X.fn x = true := by
      rcases hf with z | z
      · exact z
      · rw [z] at hk; cases hk
    obtain ⟨c, hc⟩ := I.ok.has x (.inl hk)
    have hHc : H c = none := by
      rcases I.freeC x c hc with z | ⟨z, _⟩
      · exact z
      · rw [hfn] at z; cases z
    obtain ⟨w', z⟩ := I.cell x c hc
    refine wpAny_storeName_cell I.ok.kind hk hc z (fun h' hc' hs => ?_)
    obtain ⟨oc, hoc, hocd⟩ := id z
    refine h { s with heap := h' } ⟨I.ok, I.os, I.bare, ⟨fun b o e n hb hx => ?_, fun b o e n hb hx => ?_, I.base.free, fun b o e hx => ?_, I.base.fix⟩, ⟨m, hn.sameBut hs (Ne.symm (cne x c hc)), fun j y v' e1 e2 e3 => ?_⟩, fun y c' e => ?_, I.free, fun y c' e => ?_, fun p hp => ?_, tracked ⟨oc, hoc, hHc⟩ hs, by simpa using I.len⟩ ⟨c, hs, .inr hc⟩
    · exact (hs.2 b (Nat.ne_of_lt (Nat.lt_of_lt_of_le (Heap.lt_size e) (I.ok.cab x c hfn hc)))).trans (I.base.keep b o e n hb hx)
    · obtain ⟨sl, e1⟩ := I.base.slot b o e n hb hx
      exact ⟨sl, (hs.2 b (Nat.ne_of_lt (Nat.lt_of_lt_of_le (Heap.lt_size e) (I.ok.cab x c hfn hc)))).trans e1⟩
    · obtain ⟨o', e1⟩ := I.base.there b o e hx
      exact ⟨o', (hs.2 b (Nat.ne_of_lt (Nat.lt_of_lt_of_le (Heap.lt_size e) (I.ok.cab x c hfn hc)))).trans e1⟩
    · by_cases hj : j = i
      · subst hj
        rw [hi] at e1; cases e1
        rw [List.getElem?_set_self hiσ] at e2
        cases e2
        exact ⟨u, r, .inr ⟨.inl hk, c, hc, hc'⟩⟩
      · rw [List.getElem?_set_ne (Ne.symm hj)] at e2
        obtain ⟨u', r', q⟩ := hl j y v' e1 e2 e3
        refine ⟨u', r', ?_⟩
        rcases q with q | ⟨k, c', e, z'⟩
        · exact .inl q
        · refine .inr ⟨k, c', e, z'.sameBut hs ?_⟩
          rintro rfl
          exact hj (nodup_ix hN e1 (I.ok.inj _ _ _ e hc ▸ hi))
    · by_cases hcc : c' = c
      · subst hcc; exact ⟨_, hc'⟩
      · obtain ⟨w2, z2⟩ := I.cell y c' e
        exact ⟨w2, z2.sameBut hs hcc⟩
    · refine (I.freeC y c' e).imp id fun ⟨hf', o', ho', hno⟩ => ⟨hf', o', ho', fun z j v' e1 k e2 => ?_⟩
      by_cases hj : j = i
      · subst hj
        rw [hi] at e1; cases e1
        rw [hfn] at hf'; cases hf'
      · rw [List.getElem?_set_ne (Ne.symm hj)] at e2
        exact hno z j v' e1 k e2
    · obtain ⟨e, n, ne, nf, d⟩ := I.pin p hp
      refine ⟨(hs.2 p.1 ?_).trans e, n, ne, nf, d⟩
      intro q
      rw [q, hoc] at e
      have q' : oc = p.2 := Option.some.inj e
      exact d w' (by rw [← q']; exact hocd)
theorem store_ok {M : Model} {A : Around} {E : Value → Shared → Prop} {i : Nat} {x : Str} {v : V} {u : Value} {Q : Unit → Shared → Prop} (I : Inv X pins σ H s) (hN : X.N.Nodup) (hi : X.N[i]? = some x) (hx : Loc X.env.scope x) (r : RelV v u)
    (h : ∀ s', Inv X pins (σ.set i (some v)) H s' → Q () s') (hf : X.fn x = true ∨ X.env.scope.names.lookup x = some .local := by first | exact .inl rfl | exact .inr rfl | assumption) : wpAny M A (storeName X.env x u) Q E s :=
  store_ok2 I hN hi hx r (fun s' I' _ => h s' I') hf
/-  behind a call or a block, the state as it is -/
theorem Inv.call' {s' : Shared} {ch : List Addr} (I : Inv X pins σ H s) (ho : s'.os = s.os) (u : Un (frs X.stack) ch H H' s.heap s'.heap) (hok : HOk X.prog X.w H' s'.heap) (hg : AllBare s'.gens)
    (hch : ∀ b ∈ ch, (b ∈ X.ex ∨ X.s₀.heap.objs.size ≤ b) ∧ b ≠ X.env.locals ∧ (∀ x c, X.env.cells.lookup x = some c → c ≠ b) ∧ ∀ p ∈ X.pn ++ pins, p.1 ≠ b) : Inv X pins σ H' s' := by
  obtain ⟨h', g', d', t', o'⟩ := s'
  have e : o' = s.os := ho
  subst e
  exact I.call (g' := g') (t' := t') (d' := d') u hok hg hch
end

/-! ### the judgements -/
/-  an exception: its class, its own dict's address (where it has one), the abstract heap behind it -/
abbrev XK := Value → Option Addr → Hp → Prop
abbrev St := List (Option V)
abbrev VK := V → Hp → Prop
/-  an expression's reading; a test's; an argument list's -/
abbrev TE := St → Hp → VK → Prop
abbrev TT := St → Hp → (Bool → Hp → Prop) → Prop
abbrev TA := St → Hp → (List V → Hp → Prop) → Prop
/-  what is wanted behind a statement -/
structure Ends where
  nx : St → Hp → Prop
  rt : VK
  bk : St → Hp → Prop := fun _ _ => False
  ct : St → Hp → Prop := fun _ _ => False
abbrev TS := Ends → St → Hp → Prop

def EP (X : Cx) (pins : List (Addr × Obj)) (σ : St) (Q : VK) (u : Value) (s' : Shared) : Prop := ∃ v H', Inv X pins σ H' s' ∧ RelV v u ∧ Q v H'
def TP (X : Cx) (pins : List (Addr × Obj)) (σ : St) (Q : Bool → Hp → Prop) (b : Bool) (s' : Shared) : Prop := ∃ H', Inv X pins σ H' s' ∧ Q b H'
def AP (X : Cx) (pins : List (Addr × Obj)) (σ : St) (Q : List V → Hp → Prop) (us : List Value) (s' : Shared) : Prop := ∃ vs H', Inv X pins σ H' s' ∧ Vals vs us ∧ Q vs H'
def SP (X : Cx) (pins : List (Addr × Obj)) (D : Ends) (f : Flow) (s' : Shared) : Prop :=
  match f with
  | .next => ∃ σ' H', Inv X pins σ' H' s' ∧ D.nx σ' H'
  | .brk => ∃ σ' H', Inv X pins σ' H' s' ∧ D.bk σ' H'
  | .cont => ∃ σ' H', Inv X pins σ' H' s' ∧ D.ct σ' H'
  | .ret u => ∃ v σ' H', Inv X pins σ' H' s' ∧ RelV v u ∧ D.rt v H'

def PE (X : Cx) (e : Expr) (t : TE) : Prop :=
  ∀ (pins : List (Addr × Obj)) (s : Shared) (σ : St) (H : Hp) (Q : VK), Inv X pins σ H s → t σ H Q → wpAny (model X.prog X.w) X.A (eval e X.env) (EP X pins σ Q) X.xe s
def PT (X : Cx) (e : Expr) (t : TT) : Prop :=
  ∀ (pins : List (Addr × Obj)) (s : Shared) (σ : St) (H : Hp) (Q : Bool → Hp → Prop), Inv X pins σ H s → t σ H Q → wpAny (model X.prog X.w) X.A (isTrue e X.env (eval e X.env)) (TP X pins σ Q) X.xe s
/-  a test whatever its 'whole' is (and, or) -/
def PW (X : Cx) (e : Expr) (t : TT) : Prop :=
  ∀ (whole : Sem Value) (pins : List (Addr × Obj)) (s : Shared) (σ : St) (H : Hp) (Q : Bool → Hp → Prop), Inv X pins σ H s → t σ H Q → wpAny (model X.prog X.w) X.A (isTrue e X.env whole) (TP X pins σ Q) X.xe s
theorem PW.pt {X : Cx} {e : Expr} {t : TT} (h : PW X e t) : PT X e t := h _
/-  an argument list (no star), from the left -/
def PA (X : Cx) (es : List Expr) (t : TA) : Prop :=
  ∀ (pos : Pos) (pins : List (Addr × Obj)) (s : Shared) (σ : St) (H : Hp) (Q : List V → Hp → Prop), Inv X pins σ H s → t σ H Q → wpAny (model X.prog X.w) X.A (spliced (backTo pos (starEach es X.env))) (AP X pins σ Q) X.xe s
def PS (X : Cx) (st : Stmt) (t : TS) : Prop :=
  ∀ (pins : List (Addr × Obj)) (s : Shared) (σ : St) (H : Hp) (D : Ends), Inv X pins σ H s → t D σ H → wpAny (model X.prog X.w) X.A (exec st X.env) (SP X pins D) X.xe s
def PSs (X : Cx) (st : List Stmt) (t : TS) : Prop :=
  ∀ (pins : List (Addr × Obj)) (s : Shared) (σ : St) (H : Hp) (D : Ends), Inv X pins σ H s → t D σ H → wpAny (model X.prog X.w) X.A (execs st X.env) (SP X pins D) X.xe s
/-  weaken the end -/
theorem thn {α : Type} {t : Sem α} {Q Q' : α → Shared → Prop} {M : Model} {A : Around} {E : Value → Shared → Prop} {s : Shared} (h : wpAny M A t Q E s) (hQ : ∀ a s, Q a s → Q' a s) : wpAny M A t Q' E s := wpAny_mono h hQ fun _ _ x => x
end L2

namespace L2
open PySem PySem.Spec PyProof.Rows
section
variable {X : Cx}

/-  two expressions in a row -/
/-! ### names and constants -/
def tVar (i : Nat) : TE := fun σ H Q => ∃ v, σ[i]? = some (some v) ∧ Q v H
def tC (v : V) : TE := fun _ H Q => Q v H
theorem pe_var {i : Nat} {x : Str} {pos : Pos} (hN : X.N[i]? = some x) (hv : Vis X.env.scope x) (hd : (x == ("__debug__" : Str)) = false := by decide) (hcd : (x == ("__classdict__" : Str)) = false := by decide) : PE X (.Name x pos) (tVar i) := by
  intro pins s σ H Q I h
  obtain ⟨v, e, h⟩ := h
  obtain ⟨m, hn, hl⟩ := I.loc
  obtain ⟨u, r, l⟩ := hl i x v hN e hv
  have fin : EP X pins σ Q u s := ⟨v, H, I, r, h⟩
  rcases l with ⟨hk, hm⟩ | ⟨hk, c, hc, hcell⟩
  · exact wpAny_Name (wpAny_loadName_local I.ok.kind hk hn hm fin) hd
  · rcases hk with hk | hk
    · exact wpAny_Name (wpAny_loadName_cell I.ok.kind hk hc hcell fin) hd
    · exact wpAny_Name (wpAny_loadName_free I.ok.kind hk hc hcell fin hcd) hd
theorem pe_int {i j pos} : PE X (.Constant (.int i) j pos) (tC (.int i)) := fun _ _ _ H _ I h => wpAny_Constant_int ⟨.int i, H, I.tok _, ⟨_, rfl⟩, h⟩
theorem pe_bl {b j pos} : PE X (.Constant (.bool b) j pos) (tC (.bl b)) := fun _ _ _ H _ I h => Constant_bool ⟨.bl b, H, I, rfl, h⟩
theorem pe_non {j pos} : PE X (.Constant .none j pos) (tC .non) := fun _ _ _ H _ I h => Constant_none ⟨.non, H, I, rfl, h⟩
/-  a global name of the def -/
def Gl (X : Cx) (x : Str) : Prop := X.env.kindOf x = some .globalImplicit
theorem ld_glob {E : Value → Shared → Prop} {pins : List (Addr × Obj)} {s : Shared} {σ : St} {H : Hp} {x : Str} {u : Value} {pos : Pos} {Q : Value → Shared → Prop} (I : Inv X pins σ H s) (hg : Gl X x) (hm : X.mg x = some u) (h : Q u s)
    (hd : (x == ("__debug__" : Str)) = false := by decide) : wpAny (model X.prog X.w) X.A (eval (.Name x pos) X.env) Q E s :=
  Calls.Name_function_global I.ok.kind hg (Calls.loadGlobal_global (by rw [I.ok.glob]; exact I.mod.glob.keeps I.bk) hm h) hd
theorem ld_blt {E : Value → Shared → Prop} {pins : List (Addr × Obj)} {s : Shared} {σ : St} {H : Hp} {x : Str} {u : Value} {pos : Pos} {Q : Value → Shared → Prop} (I : Inv X pins σ H s) (hg : Gl X x) (hm : X.mg x = none) (hv : bootBuiltins x = some u) (h : Q u s)
    (hn : x ≠ "__name__" := by decide) (hd : (x == ("__debug__" : Str)) = false := by decide) : wpAny (model X.prog X.w) X.A (eval (.Name x pos) X.env) Q E s := by
  obtain ⟨mb, h1, h2⟩ := I.mod.blt
  exact Calls.Name_function_global I.ok.kind hg (Calls.loadGlobal_builtin (by rw [I.ok.glob]; exact I.mod.glob.keeps I.bk) hm (by rw [I.ok.blt]; exact h1.keeps I.bk) ((h2 x hn).trans hv) h) hd
/-  a module's constant, a class, a function, as a value -/
theorem pe_glob {x : Str} {v : V} {u : Value} {pos : Pos} (hg : Gl X x) (hm : X.mg x = some u) (r : RelV v u) (hd : (x == ("__debug__" : Str)) = false := by decide) : PE X (.Name x pos) (tC v) :=
  fun _ _ _ H _ I h => ld_glob I hg hm ⟨v, H, I, r, h⟩ hd
theorem pe_bltn {x : Str} {v : V} {u : Value} {pos : Pos} (hg : Gl X x) (hm : X.mg x = none) (hv : bootBuiltins x = some u) (r : RelV v u) (hn : x ≠ "__name__" := by decide) (hd : (x == ("__debug__" : Str)) = false := by decide) : PE X (.Name x pos) (tC v) :=
  fun _ _ _ H _ I h => ld_blt I hg hm hv ⟨v, H, I, r, h⟩ hn hd

/-! ### arithmetic -/
/-  two ints -/
def t2I (ta tb : TE) (k : Int → Int → Hp → Prop) : St → Hp → Prop := fun σ H => ta σ H fun x H1 => tb σ H1 fun y H2 => ∃ i j, x = .int i ∧ y = .int j ∧ k i j H2
def tAdd (ta tb : TE) : TE := fun σ H Q => t2I ta tb (fun i j H2 => Q (.int (i + j)) H2) σ H
def tSub (ta tb : TE) : TE := fun σ H Q => t2I ta tb (fun i j H2 => Q (.int (i - j)) H2) σ H
/-  the left factor below 2^64 -/
def tMul (ta tb : TE) : TE := fun σ H Q => t2I ta tb (fun i j H2 => (-(2 ^ 64) < i ∧ i < 2 ^ 64) ∧ Q (.int (i * j)) H2) σ H
variable {a b : Expr} {ta tb : TE} {pos : Pos}
/-! ### comparisons -/
def PC (X : Cx) (op : CmpOp) (a b : Expr) (t : TE) : Prop :=
  ∀ (pins : List (Addr × Obj)) (s : Shared) (σ : St) (H : Hp) (Q : VK), Inv X pins σ H s → t σ H Q →
    wpAny (model X.prog X.w) X.A (eval a X.env) (fun v s₁ => wpAny (model X.prog X.w) X.A (eval b X.env) (fun u s₂ => wpAny (model X.prog X.w) X.A (compareOp op v u) (EP X pins σ Q) X.xe s₂) X.xe s₁) X.xe s
theorem nobehind (b : Expr) {op : CmpOp} (h : op ≠ .In) (h2 : op ≠ .NotIn) : behindInMarks op b = false := by
  have e1 : (op == CmpOp.In) = false := by cases op <;> first | rfl | exact absurd rfl h
  have e2 : (op == CmpOp.NotIn) = false := by cases op <;> first | rfl | exact absurd rfl h2
  cases b <;> simp [behindInMarks, e1, e2]
def tCmp (p : Int → Int → Bool) (ta tb : TE) : TE := fun σ H Q => t2I ta tb (fun i j H2 => Q (.bl (p i j)) H2) σ H
abbrev tLt : TE → TE → TE := tCmp fun i j => decide (i < j)
abbrev tLe : TE → TE → TE := tCmp fun i j => decide (i ≤ j)
abbrev tGt : TE → TE → TE := tCmp fun i j => decide (j < i)
abbrev tGe : TE → TE → TE := tCmp fun i j => decide (j ≤ i)
abbrev tEqI : TE → TE → TE := tCmp fun i j => decide (i = j)
abbrev tNeI : TE → TE → TE := tCmp fun i j => !decide (i = j)
/-  a comparison of two ints, by its rule -/
/-  is None -/
def tIsN (ta : TE) : TE := fun σ H Q => ta σ H fun x H1 => Q (.bl (decide (x = .non))) H1
def tNotN (ta : TE) : TE := fun σ H Q => ta σ H fun x H1 => Q (.bl (!decide (x = .non))) H1
theorem RelV.none_iff {x : V} {v : Value} (r : RelV x v) : (v == Value.none) = decide (x = .non) := by
  cases x with
  | non => cases r; rfl
  | bl _ => cases r; rfl
  | int _ => obtain ⟨t, rfl⟩ := r; rfl
  | str _ => obtain ⟨t, rfl⟩ := r; rfl
  | byt _ => obtain ⟨t, rfl⟩ := r; rfl
  | flt _ => obtain ⟨t, rfl⟩ := r; rfl
  | ref _ => cases r; rfl
  | ty _ => cases r; rfl
theorem pc_isN {j pos'} (ha : PE X a ta) : PC X .Is a (.Constant .none j pos') (tIsN ta) := by
  intro pins s σ H Q I h
  refine thn (ha pins s σ H _ I h) fun v s1 ⟨x, H1, I1, r1, q1⟩ => ?_
  exact Constant_none (is_none_gen ⟨.bl _, H1, I1, by rw [r1.none_iff]; rfl, q1⟩)
theorem pc_notN {j pos'} (ha : PE X a ta) : PC X .IsNot a (.Constant .none j pos') (tNotN ta) := by
  intro pins s σ H Q I h
  refine thn (ha pins s σ H _ I h) fun v s1 ⟨x, H1, I1, r1, q1⟩ => ?_
  exact Constant_none (isnot_none_gen ⟨.bl _, H1, I1, by rw [r1.none_iff]; rfl, q1⟩)
/-  a comparison as a value, as a test -/
def tB (t : TE) : TT := fun σ H Q => t σ H fun x H1 => ∃ c, x = .bl c ∧ Q c H1
theorem pt_cmp {op : CmpOp} {t : TE} (h : PC X op a b t) (h1 : behindInMarks op b = false := by first | exact nobehind _ (by decide) (by decide) | rfl) : PT X (.Compare a [op] [b] pos) (tB t) := by
  intro pins s σ H Q I hw
  refine wpAny_isTrue_Compare1 (thn (h pins s σ H _ I hw) fun v s1 h1 => thn h1 fun u s2 h2 => thn h2 fun c s3 ⟨x, H1, I1, r1, q1⟩ => ?_) h1
  obtain ⟨d, rfl, q⟩ := q1
  cases r1
  exact wpAny_truthy_bool ⟨H1, I1, q⟩
/-  an expression whose value is a bool, as a test -/
/-! ### and, or, not -/
variable {tA tB' : TT} {rest : List Expr}
def tAnd (t u : TT) : TT := fun σ H Q => t σ H fun c H1 => if c = true then u σ H1 Q else Q false H1
def tOr (t u : TT) : TT := fun σ H Q => t σ H fun c H1 => if c = true then Q true H1 else u σ H1 Q
def tNot (t : TT) : TT := fun σ H Q => t σ H fun c H1 => Q (!c) H1
theorem pw_and1 (ha : PT X a tA) : PW X (.BoolOp .And [a] pos) tA := by
  intro wh pins s σ H Q I h
  refine isTrue_and (thn (ha pins s σ H Q I h) fun c s1 e => ?_)
  cases c with
  | true => exact isTrue_and_nil e
  | false => exact e
theorem pw_or1 (ha : PT X a tA) : PW X (.BoolOp .Or [a] pos) tA := by
  intro wh pins s σ H Q I h
  refine isTrue_or (thn (ha pins s σ H Q I h) fun c s1 e => ?_)
  cases c with
  | false => exact isTrue_or_nil e
  | true => exact e
theorem pt_not (ha : PT X a tA) : PT X (.UnaryOp .Not a pos) (tNot tA) := by
  intro pins s σ H Q I h
  exact isTrue_not (ha pins s σ H (fun c H1 => Q (!c) H1) I h)
/-  .. as values (bools) -/
def tAndV (ta tb : TE) : TE := fun σ H Q => ta σ H fun x H1 => ∃ c, x = .bl c ∧ if c = true then tb σ H1 Q else Q (.bl false) H1
def tOrV (ta tb : TE) : TE := fun σ H Q => ta σ H fun x H1 => ∃ c, x = .bl c ∧ if c = true then Q (.bl true) H1 else tb σ H1 Q
def tNotV (ta : TE) : TE := fun σ H Q => ta σ H fun x H1 => ∃ c, x = .bl c ∧ Q (.bl (!c)) H1
/-  a if t else b -/
def tIf (t : TT) (ta tb : TE) : TE := fun σ H Q => t σ H fun c H1 => if c = true then ta σ H1 Q else tb σ H1 Q
end
end L2

namespace L2
open PySem PySem.Spec PyProof.Rows

/-! ### a list, a tuple that is read: tracked, frozen, or an object of the module -/
def SqL (K : PySem.W.Frag) (H : Hp) (a : Addr) (xs : List V) : Prop :=
  Rd H a (.lst xs) ∨
    ∃ (o : Obj) (its : Array Value) (n : Nat), K.lookup a = some o ∧ o.cls = .type "list" ∧ o.dict = none ∧ o.data = .seq its n ∧ its.size ≤ sizeLine ∧ Vals xs its.toList
def SqT (K : PySem.W.Frag) (H : Hp) (a : Addr) (xs : List V) : Prop :=
  Rd H a (.tup xs) ∨
    ∃ (o : Obj) (its : Array Value) (n : Nat), K.lookup a = some o ∧ o.cls = .type "tuple" ∧ o.data = .seq its n ∧ its.size ≤ sizeLine ∧ Vals xs its.toList
def absV : Value → Option V
  | .none => some .non
  | .bool b => some (.bl b)
  | .int i _ => some (.int i)
  | .str x _ => some (.str x)
  | .bytes b _ => some (.byt b)
  | .float b _ => some (.flt b)
  | .ref a => some (.ref a)
  | .type n => some (.ty n)
  | _ => none
theorem RelV.abs {x : V} {u : Value} (r : RelV x u) : absV u = some x := by
  cases x with
  | non => cases r; rfl
  | bl _ => cases r; rfl
  | int _ => obtain ⟨t, rfl⟩ := r; rfl
  | str _ => obtain ⟨t, rfl⟩ := r; rfl
  | byt _ => obtain ⟨t, rfl⟩ := r; rfl
  | flt _ => obtain ⟨t, rfl⟩ := r; rfl
  | ref _ => cases r; rfl
  | ty _ => cases r; rfl
theorem RelV.inj {x y : V} {u : Value} (r : RelV x u) (q : RelV y u) : x = y := Option.some.inj (r.abs.symm.trans q.abs)
theorem Vals.inj : ∀ {xs ys : List V} {us : List Value}, Vals xs us → Vals ys us → xs = ys
  | _, _, _, .nil, .nil => rfl
  | _, _, _, .cons r t, .cons r' t' => by rw [r.inj r', Vals.inj t t']
section
variable {X : Cx} {pins : List (Addr × Obj)} {σ : St} {H : Hp} {s : Shared} {a : Addr} {xs ys : List V}
theorem SqL.of {K : PySem.W.Frag} (h : H a = some (.lst xs)) : SqL K H a xs := .inl (.inl h)
theorem SqT.of {K : PySem.W.Frag} (h : H a = some (.tup xs)) : SqT K H a xs := .inl (.inl h)
theorem Inv.list (I : Inv X pins σ H s) (h : SqL X.K H a xs) : ∃ its : List Value, Vals xs its ∧ PlainL s.heap a its.toArray ∧ xs.length ≤ sizeLine := by
  rcases h with h | ⟨o, its, n, hk, hc, hd, hs, hz, r⟩
  · obtain ⟨z, its, n, r, e⟩ := h.ok I.hok
    exact ⟨its, r, ⟨_, n, e, rfl, rfl, rfl⟩, z⟩
  · refine ⟨its.toList, r, ⟨o, n, I.kIn a o hk, hc, hd, by simpa using hs⟩, ?_⟩
    have e := r.length
    simp only [Array.length_toList] at e
    omega
theorem Inv.tuple (I : Inv X pins σ H s) (h : SqT X.K H a xs) : ∃ its : List Value, Vals xs its ∧ IsTup s.heap a its.toArray ∧ xs.length ≤ sizeLine := by
  rcases h with h | ⟨o, its, n, hk, hc, hs, hz, r⟩
  · obtain ⟨z, its, r, p⟩ := h.ok I.hok
    exact ⟨its, r, p, z⟩
  · refine ⟨its.toList, r, ⟨o, I.kIn a o hk, hc, n, by simpa using hs⟩, ?_⟩
    have e := r.length
    simp only [Array.length_toList] at e
    omega
theorem Inv.list_inj (I : Inv X pins σ H s) (h : SqL X.K H a xs) (h' : SqL X.K H a ys) : xs = ys := by
  obtain ⟨its, r, ⟨o, n, e, _, _, d⟩, _⟩ := I.list h
  obtain ⟨its', r', ⟨o', n', e', _, _, d'⟩, _⟩ := I.list h'
  rw [e] at e'; cases e'
  rw [d] at d'
  injection d' with d1 _
  have : its = its' := by simpa using congrArg Array.toList d1
  subst this
  exact r.inj r'
end

/-! ### another wish about exceptions -/
abbrev Cx.wish (X : Cx) (E : Value → Shared → Prop) : Cx := { X with xe := E }
/-  no exception leaves -/
abbrev Cx.nox (X : Cx) : Cx := X.wish fun _ _ => False
theorem Cx.Ok.wish {X : Cx} (ok : X.Ok) (E : Value → Shared → Prop) : (X.wish E).Ok :=
  ⟨ok.mod, ok.kind, ok.glob, ok.blt, ok.above, ok.inj, ok.has, ok.cab, ok.hd, ok.frames, ok.stk, ok.exf, ok.bs, ok.bsz, ok.noex, ok.exfs, ok.funs, ok.frf, ok.cab2, ok.hz⟩
theorem Cx.Ok.unwish {X : Cx} {E : Value → Shared → Prop} (ok : (X.wish E).Ok) : X.Ok :=
  ⟨ok.mod, ok.kind, ok.glob, ok.blt, ok.above, ok.inj, ok.has, ok.cab, ok.hd, ok.frames, ok.stk, ok.exf, ok.bs, ok.bsz, ok.noex, ok.exfs, ok.funs, ok.frf, ok.cab2, ok.hz⟩
section
variable {X : Cx} {pins : List (Addr × Obj)} {σ : St} {H : Hp} {s : Shared} {E : Value → Shared → Prop}
theorem Inv.wish (I : Inv X pins σ H s) (E : Value → Shared → Prop) : Inv (X.wish E) pins σ H s := ⟨I.ok.wish E, I.os, I.bare, I.base, I.loc, I.cell, I.free, I.freeC, I.pin, I.hok, I.len⟩
theorem Inv.unwish (I : Inv (X.wish E) pins σ H s) : Inv X pins σ H s := ⟨I.ok.unwish, I.os, I.bare, I.base, I.loc, I.cell, I.free, I.freeC, I.pin, I.hok, I.len⟩
theorem SP.unwish {D : Ends} {f : Flow} {s' : Shared} (h : SP (X.wish E) pins D f s') : SP X pins D f s' := by
  cases f with
  | next => obtain ⟨σ', H', I, q⟩ := h; exact ⟨σ', H', I.unwish, q⟩
  | brk => obtain ⟨σ', H', I, q⟩ := h; exact ⟨σ', H', I.unwish, q⟩
  | cont => obtain ⟨σ', H', I, q⟩ := h; exact ⟨σ', H', I.unwish, q⟩
  | ret u => obtain ⟨v, σ', H', I, r, q⟩ := h; exact ⟨v, σ', H', I.unwish, r, q⟩
theorem PSs.nox {st : List Stmt} {t : TS} (h : PSs X.nox st t) : PSs X st t := fun pins s σ H D I hw =>
  wpAny_mono (h pins s σ H D (I.wish _) hw) (fun _ _ q => q.unwish) fun _ _ z => False.elim z
end

/-! ### blocks and small statements -/
section
variable {X : Cx} {st : Stmt} {rest : List Stmt} {t u : TS} {e : Expr} {te : TE} {pos : Pos}
def tNext : TS := fun D σ H => D.nx σ H
def tSeq (t u : TS) : TS := fun D σ H => t { D with nx := u D } σ H
theorem pss_nil : PSs X [] tNext := fun _ _ σ H _ I h => wpAny_execs_nil ⟨σ, H, I, h⟩
theorem pss_cons (h1 : PS X st t) (h2 : PSs X rest u) : PSs X (st :: rest) (tSeq t u) := by
  intro pins s σ H D I h
  refine wpAny_execs_cons (thn (h1 pins s σ H { D with nx := u D } I h) fun f s1 q => ?_)
  cases f with
  | next =>
    obtain ⟨σ', H', I', q⟩ := q
    exact h2 pins s1 σ' H' D I' q
  | ret v => exact q
  | brk => exact q
  | cont => exact q
theorem pss_one (h1 : PS X st t) : PSs X [st] t := by
  intro pins s σ H D I h
  refine wpAny_execs_cons (thn (h1 pins s σ H D I h) fun f s1 q => ?_)
  cases f with
  | next => exact wpAny_execs_nil q
  | ret v => exact q
  | brk => exact q
  | cont => exact q
def tBreak : TS := fun D σ H => D.bk σ H
def tCont : TS := fun D σ H => D.ct σ H
/-  in a def's body nothing is shown -/
theorem Inv.quiet {pins : List (Addr × Obj)} {σ : St} {H : Hp} {s : Shared} (I : Inv X pins σ H s) : interactive X.env = false := by simp [interactive, I.ok.kind]
/-  a docstring -/
/-  an expression whose value is dropped -/
def tDrop (te : TE) : TS := fun D σ H => te σ H fun _ H1 => D.nx σ H1
theorem ps_expr (he : PE X e te) (hs : swapsWith e none pos.line X.env = pure false := by rfl) : PS X (.Expr e pos) (tDrop te) := by
  intro pins s σ H D I h
  exact wpAny_Expr_any (thn (he pins s σ H _ I h) fun v s1 ⟨x, H1, I1, r1, q1⟩ => ⟨σ, H1, I1, q1⟩) I.quiet hs
def tRet (te : TE) : TS := fun D σ H => te σ H D.rt
theorem ps_ret (he : PE X e te) : PS X (.Return (some e) pos) (tRet te) := by
  intro pins s σ H D I h
  exact wpAny_Return_some (thn (he pins s σ H _ I h) fun v s1 ⟨x, H1, I1, r1, q1⟩ => ⟨x, σ, H1, I1, r1, q1⟩)
def tRetN : TS := fun D _ H => D.rt .non H
theorem ps_retN : PS X (.Return none pos) tRetN := fun _ _ σ H _ I h => wpAny_Return_none ⟨.non, σ, H, I, rfl, h⟩
def tIfS (c : TT) (t u : TS) : TS := fun D σ H => c σ H fun b H1 => if b = true then t D σ H1 else u D σ H1
/-  code that the proof never comes to -/
def tNever : TS := fun _ _ _ => False
end

/-! ### targets -/
abbrev TG := V → St → Hp → (St → Hp → Prop) → Prop
abbrev TGs := List V → St → Hp → (St → Hp → Prop) → Prop
def PG (X : Cx) (target : Expr) (t : TG) : Prop :=
  ∀ (pins : List (Addr × Obj)) (s : Shared) (σ : St) (H : Hp) (v : V) (u : Value) (Q : St → Hp → Prop), Inv X pins σ H s → RelV v u → t v σ H Q →
    wpAny (model X.prog X.w) X.A (assign target X.env u) (fun _ s' => ∃ σ' H', Inv X pins σ' H' s' ∧ Q σ' H') X.xe s
/-  several targets, one after another -/
def PGs (X : Cx) (ts : List Expr) (t : TGs) : Prop :=
  ∀ (pins : List (Addr × Obj)) (s : Shared) (σ : St) (H : Hp) (vs : List V) (us : List Value) (Q : St → Hp → Prop), Inv X pins σ H s → Vals vs us → t vs σ H Q →
    wpAny (model X.prog X.w) X.A (assignInOrder ((assignEach ts X.env).map (·.2)) us) (fun _ s' => ∃ σ' H', Inv X pins σ' H' s' ∧ Q σ' H') X.xe s
/-  o[i] = v, by values -/
abbrev TSet := V → V → V → Hp → (Hp → Prop) → Prop
def PSet (X : Cx) (t : TSet) : Prop :=
  ∀ (pins : List (Addr × Obj)) (s : Shared) (σ : St) (H : Hp) (o i v : V) (ov iv u : Value) (Q : Hp → Prop), Inv X pins σ H s → RelV o ov → RelV i iv → RelV v u → t o i v H Q →
    wpAny (model X.prog X.w) X.A (setItem ov iv u) (fun _ s' => ∃ H', Inv X pins σ H' s' ∧ Q H') X.xe s
/-  a op= b, by values -/
abbrev TIp := V → V → Hp → VK → Prop
def PIp (X : Cx) (op : Operator) (t : TIp) : Prop :=
  ∀ (pins : List (Addr × Obj)) (s : Shared) (σ : St) (H : Hp) (x y : V) (v u : Value) (Q : VK), Inv X pins σ H s → RelV x v → RelV y u → t x y H Q →
    wpAny (model X.prog X.w) X.A (inplaceOp op v u) (EP X pins σ Q) X.xe s
section
variable {X : Cx} {pos : Pos}
def gName (i : Nat) : TG := fun v σ H Q => Q (σ.set i (some v)) H
theorem pg_name {i : Nat} {x : Str} (hN : X.N.Nodup) (hi : X.N[i]? = some x) (hx : Loc X.env.scope x) (hf : X.fn x = true ∨ X.env.scope.names.lookup x = some .local := by first | exact .inl rfl | exact .inr rfl | assumption) : PG X (.Name x pos) (gName i) := by
  intro pins s σ H v u Q I r h
  exact wpAny_assign_Name (store_ok I hN hi hx r (fun s' I' => ⟨_, H, I', h⟩) hf)
def gNil : TGs := fun vs σ H Q => vs = [] ∧ Q σ H
def gCons (t : TG) (u : TGs) : TGs := fun vs σ H Q => ∃ v r, vs = v :: r ∧ t v σ H fun σ' H' => u r σ' H' Q
theorem pgs_nil : PGs X [] gNil := by
  intro pins s σ H vs us Q I r h
  obtain ⟨e, h⟩ := h
  subst e
  cases r
  exact assignInOrder_nil ⟨σ, H, I, h⟩
theorem pgs_cons {e : Expr} {es : List Expr} {t : TG} {u : TGs} (h1 : PG X e t) (h2 : PGs X es u)
    (hs : (assignEach (e :: es) X.env).map (·.2) = assign e X.env :: (assignEach es X.env).map (·.2) := by rfl) : PGs X (e :: es) (gCons t u) := by
  intro pins s σ H vs us Q I r h
  obtain ⟨v, vr, e1, h⟩ := h
  subst e1
  cases r with
  | cons r rr =>
    rw [hs]
    refine assignInOrder_cons (thn (h1 pins s σ H _ _ _ I r h) fun _ s1 ⟨σ1, H1, I1, q1⟩ => ?_)
    exact h2 pins s1 σ1 H1 _ _ Q I1 rr q1
/-  (a, b, ..) = a tuple of that length -/
def gTup (K : PySem.W.Frag) (n : Nat) (t : TGs) : TG := fun v σ H Q => ∃ a xs, v = .ref a ∧ SqT K H a xs ∧ xs.length = n ∧ t xs σ H Q
theorem pg_tup {es : List Expr} {k : Nat} {t : TGs} {n : Nat} (hc : X.calm = true) (h : PGs X es t)
    (hn : (assignEach es X.env).length = n := by rfl) (hst : (assignEach es X.env).findIdx? (·.1) = none := by rfl) : PG X (.Tuple es k pos) (gTup X.K n t) := by
  intro pins s σ H v u Q I r hw
  obtain ⟨a, xs, e1, hq, hl, hw⟩ := hw
  subst e1
  cases r
  obtain ⟨its, rv, ht, hz⟩ := I.tuple hq
  refine assign_Tuple_tuple (I.ok.hd hc) ht (by simp [hn, ← hl, rv.length]) hst fun h' hx => ?_
  have I1 : Inv X pins σ H { s with heap := h' } := I.kept (t' := s.toks) fun b o e => hx b o (Nat.ne_of_lt (Heap.lt_size e)) e
  exact h pins _ σ H xs _ Q I1 (by simpa using rv) hw
/-  o[i] = .. -/
def gSub (to ti : TE) (t : TSet) : TG := fun v σ H Q => to σ H fun o H1 => ti σ H1 fun i H2 => t o i v H2 fun H3 => Q σ H3
theorem pg_sub {o i : Expr} {to ti : TE} {t : TSet} (ho : PE X o to) (hi : PE X i ti) (hs : PSet X t)
    (ha : ∀ v, assign (.Subscript o i pos) X.env v = (do
      let ov ← holding [v] (eval o X.env)
      let iv ← holding [v, ov] (eval i X.env)
      standAt pos
      holding [v, ov, iv] (setItem ov iv v)
      release [v, ov, iv] []) := by intro _; rfl) : PG X (.Subscript o i pos) (gSub to ti t) := by
  intro pins s σ H v u Q I r h
  rw [ha]
  refine wpAny_bind (wpAny_holding (thn (ho pins s σ H _ I h) fun ov s1 ⟨x, H1, I1, r1, q1⟩ => ?_))
  refine wpAny_bind (wpAny_holding (thn (hi pins s1 σ H1 _ I1 q1) fun iv s2 ⟨y, H2, I2, r2, q2⟩ => ?_))
  refine wpAny_bind (wpAny_standAt (wpAny_bind (wpAny_holding (thn (hs pins s2 σ H2 x y v ov iv u _ I2 r1 r2 r q2) fun _ s3 ⟨H3, I3, q3⟩ => ?_))))
  exact wpAny_release ⟨σ, H3, I3, q3⟩
/-  target = value -/
def tAsg (te : TE) (g : TG) : TS := fun D σ H => te σ H fun x H1 => g x σ H1 D.nx
theorem ps_asg {tg e : Expr} {te : TE} {g : TG} (he : PE X e te) (hg : PG X tg g) (hs : swapsWithSole [tg] e pos.line X.env = pure false := by rfl) (hw : swappedStores [tg] e X.env = pure none := by rfl)
    (h1 : (assignEach [tg] X.env).map (·.2) = [assign tg X.env] := by rfl) : PS X (.Assign [tg] e pos) (tAsg te g) := by
  intro pins s σ H D I h
  refine wpAny_Assign_stores (thn (he pins s σ H _ I h) fun v s1 ⟨x, H1, I1, r1, q1⟩ => ?_) hs hw
  rw [h1]
  exact thn (hg pins s1 σ H1 x v _ I1 r1 q1) fun _ s2 q => q
/-  name = value -/
theorem ps_set {i : Nat} {x : Str} {e : Expr} {te : TE} {pos' : Pos} (hN : X.N.Nodup) (hi : X.N[i]? = some x) (hx : Loc X.env.scope x) (he : PE X e te) (hs : swapsWith e (some (.Name x pos')) pos.line X.env = pure false := by rfl) (hf : X.fn x = true ∨ X.env.scope.names.lookup x = some .local := by first | exact .inl rfl | exact .inr rfl | assumption) :
    PS X (.Assign [.Name x pos'] e pos) (tAsg te (gName i)) := by
  intro pins s σ H D I h
  refine wpAny_Assign_Name (thn (he pins s σ H _ I h) fun v s1 ⟨y, H1, I1, r1, q1⟩ => ?_) hs
  exact store_ok I1 hN hi hx r1 (fun s2 I2 => ⟨_, H1, I2, q1⟩) hf
/-  a, b = x, y with plain local names: stored from the right; the pair itself is not tracked (the opening rows as in PyProof/Rows/TupAssign.lean:23) -/
def tPar (i j : Nat) (ta : TA) : TS := fun D σ H => ta σ H fun vs H1 => ∃ v w, vs = [v, w] ∧ D.nx ((σ.set i (some v)).set j (some w)) H1
/-  name op= e -/
def tAug (i : Nat) (te : TE) (ti : TIp) : TS := fun D σ H => ∃ x, σ[i]? = some (some x) ∧ te σ H fun y H1 => ti x y H1 fun z H2 => D.nx (σ.set i (some z)) H2
/-  o[i] op= e -/
def tAugS (to ti te : TE) (tget : V → V → Hp → VK → Prop) (tip : TIp) (tset : TSet) : TS := fun D σ H => to σ H fun o H1 => ti σ H1 fun i H2 => tget o i H2 fun x H3 => te σ H3 fun y H4 => tip x y H4 fun z H5 => tset o i z H5 fun H6 => D.nx σ H6
/-  o[i], by values -/
def PGet (X : Cx) (t : V → V → Hp → VK → Prop) : Prop :=
  ∀ (pins : List (Addr × Obj)) (s : Shared) (σ : St) (H : Hp) (o i : V) (ov iv : Value) (Q : VK), Inv X pins σ H s → RelV o ov → RelV i iv → t o i H Q →
    wpAny (model X.prog X.w) X.A (getItem ov iv) (EP X pins σ Q) X.xe s
/-  ints -/
def ipI (f : Int → Int → Int) : TIp := fun x y H Q => ∃ i j, x = .int i ∧ y = .int j ∧ Q (.int (f i j)) H
end

/-! ### while -/
section
variable {X : Cx} {pos : Pos}
/-  the invariant W with its measure -/
def tWhile (c : TT) (tb : TS) : TS := fun D σ H => ∃ W : Nat → St → Hp → Prop, (∃ m, W m σ H) ∧ ∀ m σ H, W m σ H →
  c σ H fun b H1 => if b = true then ∃ N : St → Hp → Prop, (∀ σ' H', N σ' H' → ∃ m', m' < m ∧ W m' σ' H') ∧ tb { D with nx := N, ct := N, bk := D.nx } σ H1 else D.nx σ H1
end

/-! ### what a loop or a comprehension walks -/
/-  at turn i: it yields x (the heap may grow), or it stops -/
structure It where
  go : Nat → Hp → Prop
  yld : Nat → Hp → V → Hp → Prop
  stop : Nat → Hp → Prop
/-  the iterator's own objects may turn: they are not the frame's, not pinned, younger than the entry (or a comprehension's own) -/
def FpOk (X : Cx) (pins : List (Addr × Obj)) (H : Hp) (b : Addr) : Prop :=
  H b = none ∧ b ≠ X.env.locals ∧ b ∉ X.fs ∧ (b ∈ X.ex ∨ X.s₀.heap.objs.size ≤ b) ∧ (∀ x c, X.env.cells.lookup x = some c → c ≠ b) ∧ ∀ p ∈ X.pn ++ pins, p.1 ≠ b
theorem Inv.fpOk {X : Cx} {pins : List (Addr × Obj)} {σ : St} {H H' : Hp} {s : Shared} {b : Addr} (I : Inv X pins σ H s) (hb : s.heap.objs.size ≤ b) (hn : H' b = none) : FpOk X pins H' b := by
  refine ⟨hn, Nat.ne_of_gt (Nat.lt_of_lt_of_le I.lt hb), I.nofs hb, .inr (Nat.le_trans I.sz hb), fun x c e z => ?_, fun p hp z => ?_⟩
  · obtain ⟨v, q⟩ := I.cell x c e
    exact absurd (Nat.lt_of_lt_of_le q.lt (by rw [z]; exact hb)) (Nat.lt_irrefl _)
  · exact absurd (Nat.lt_of_lt_of_le (Heap.lt_size (I.pin p hp).1) (by rw [z]; exact hb)) (Nat.lt_irrefl _)
structure Turn (P : Program) (w : World) (K : PySem.W.Frag) (tg : Expr) (J : It) (fp : List Addr) (it : Addr) (tn : Nat → Heap → Prop) : Prop where
  mem : it ∈ fp
  obj : ∀ i h, tn i h → ∀ b ∈ fp, ∃ o, h.get? b = some o ∧ ∀ v, o.data ≠ .cell v
  keep : ∀ i h h', tn i h → (∀ b ∈ fp, ∀ o, h.get? b = some o → h'.get? b = some o) → tn i h'
  item : ∀ (X : Cx), X.prog = P → X.w = w → X.K = K → X.calm = true → ∀ (i : Nat) (pins : List (Addr × Obj)) (s : Shared) (σ : St) (H : Hp) (E : Value → Shared → Prop), Inv X pins σ H s → (∀ b ∈ fp, FpOk X pins H b) → tn i s.heap → J.go i H →
    wpAny (model P w) X.A (pyNext (.ref it)) (fun r s1 => ∃ u, r = some u ∧
      wpAny (model P w) X.A (letOwnedTupleGo tg (.ref it) u) (fun _ s2 => ∃ x H', Inv X pins σ H' s2 ∧ RelV x u ∧ J.yld i H x H' ∧ tn (i + 1) s2.heap ∧ ∀ b ∈ fp, H' b = none) E s1) E s
  done : ∀ (X : Cx), X.prog = P → X.w = w → X.K = K → X.calm = true → ∀ (i : Nat) (pins : List (Addr × Obj)) (s : Shared) (σ : St) (H : Hp) (E : Value → Shared → Prop), Inv X pins σ H s → (∀ b ∈ fp, FpOk X pins H b) → tn i s.heap → J.stop i H →
    wpAny (model P w) X.A (pyNext (.ref it)) (fun r s1 => r = none ∧ Inv X pins σ H s1) E s
  self : ∀ (A : Around) (i : Nat) (s : Shared) (Q : Value → Shared → Prop) (E : Value → Shared → Prop), tn i s.heap → Q (.ref it) s → wpAny (model P w) A (pyIter (.ref it)) Q E s
abbrev TI := St → Hp → (It → Hp → Prop) → Prop
/-  an iterator has come -/
def PIE (X : Cx) (pins : List (Addr × Obj)) (σ : St) (tg : Expr) (R : It → Hp → Prop) (itv : Value) (s2 : Shared) : Prop :=
  ∃ (it : Addr) (fp : List Addr) (tn : Nat → Heap → Prop) (J : It) (H' : Hp), itv = .ref it ∧ Inv X pins σ H' s2 ∧ Turn X.prog X.w X.K tg J fp it tn ∧ tn 0 s2.heap ∧ (∀ b ∈ fp, FpOk X pins H' b) ∧ R J H'
def PI (X : Cx) (tg iter : Expr) (wi : TI) : Prop :=
  ∀ (pins : List (Addr × Obj)) (s : Shared) (σ : St) (H : Hp) (R : It → Hp → Prop), Inv X pins σ H s → wi σ H R →
    wpAny (model X.prog X.w) X.A (eval iter X.env) (fun v s1 => wpAny (model X.prog X.w) X.A (pyIter v) (PIE X pins σ tg R) X.xe s1) X.xe s

/-  the step ahead of the store is nothing for an iterator that keeps no tuple -/
theorem go_of {M : Model} {A : Around} {E : Value → Shared → Prop} {s : Shared} {tg : Expr} {it : Addr} {u : Value} {o : Obj} {n : String} {vs : Array Value} {Q : Unit → Shared → Prop} (ho : s.heap.get? it = some o) (hc : o.cls = .type n) (hd : o.data = .fields vs)
    (hn : ["enumerate", "zip", "dict_itemiterator", "dict_reverseitemiterator", "odict_iterator", "itertools.zip_longest", "itertools.pairwise"].contains n = false) (hQ : Q () s) : wpAny M A (letOwnedTupleGo tg (.ref it) u) Q E s := by
  unfold letOwnedTupleGo
  cases tg <;> first
    | exact wpAny_pure hQ
    | (cases u <;> first
        | exact wpAny_pure hQ
        | (refine wpAny_bind (wpAny_load ho ?_)
           rw [hc, hd]
           show wpAny M A (if (["enumerate", "zip", "dict_itemiterator", "dict_reverseitemiterator", "odict_iterator", "itertools.zip_longest", "itertools.pairwise"].contains n && vs[0]? == some (rawInt _)) = true then _ else _) Q E s
           rw [if_neg (by intro h; rw [hn, Bool.false_and] at h; cases h)]
           exact wpAny_pure hQ))

/-  the list at a, as it stands at each turn (a loop may append to it) -/
def Itl (K : PySem.W.Frag) (a : Addr) : It :=
  ⟨fun i H => ∃ xs x, SqL K H a xs ∧ xs[i]? = some x, fun i H x H' => H' = H ∧ ∀ xs, SqL K H a xs → xs[i]? = some x, fun i H => ∃ xs, SqL K H a xs ∧ xs.length ≤ i⟩
def Itt (K : PySem.W.Frag) (a : Addr) : It :=
  ⟨fun i H => ∃ xs x, SqT K H a xs ∧ xs[i]? = some x, fun i H x H' => H' = H ∧ ∀ xs, SqT K H a xs → xs[i]? = some x, fun i H => ∃ xs, SqT K H a xs ∧ xs.length ≤ i⟩
/-  lo, lo + 1, .. (n of them) -/
def Itr (lo : Int) (n : Nat) : It := ⟨fun i _ => i < n, fun i H x H' => H' = H ∧ x = .int (lo + i), fun i _ => n ≤ i⟩
theorem turn_list {P : Program} {w : World} {K : PySem.W.Frag} {tg : Expr} (a it : Addr) : Turn P w K tg (Itl K a) [it] it (fun i h => h.IsListIter it a i) where
  mem := by simp
  obj := fun i h st b hb => by
    have e : b = it := by simpa using hb
    subst e
    obtain ⟨o, e, c, d⟩ := st
    exact ⟨o, e, fun v z => by rw [d] at z; cases z⟩
  keep := fun i h h' st k => st.at fun o e => k it (by simp) o e
  item := by
    intro X hP hw hK hc i pins s σ H E I hf st hg
    subst hP hw hK
    obtain ⟨xs, x, hq, hx⟩ := hg
    obtain ⟨its, rv, p, hz⟩ := I.list hq
    obtain ⟨u, hu, ru⟩ := rv.get hx
    obtain ⟨f0, f1, f2, f3, f4, f5⟩ := hf it (by simp)
    refine wpAny_pyNext_list_item st p.isList (x := u) (by simpa using hu) fun h' st' sb => ?_
    have I1 : Inv X pins σ H { s with heap := h' } := I.turned (t' := s.toks) (fun b o hb e => (sb.2 b hb).trans e) f0 f1 f3 f4 f5
    obtain ⟨o, e, c, d⟩ := id st'
    exact ⟨u, rfl, go_of (s := { s with heap := h' }) e c d (by decide) ⟨x, H, I1, ru, ⟨rfl, fun ys hy => by rw [I.list_inj hy hq]; exact hx⟩, st', fun b hb => (hf b hb).1⟩⟩
  done := by
    intro X hP hw hK hc i pins s σ H E I hf st hg
    subst hP hw hK
    obtain ⟨xs, hq, hx⟩ := hg
    obtain ⟨its, rv, p, hz⟩ := I.list hq
    obtain ⟨f0, f1, f2, f3, f4, f5⟩ := hf it (by simp)
    have hl := rv.length
    exact wpAny_pyNext_list_end (I.ok.hd hc) st p.isList (by simp; omega) fun h' eb => ⟨rfl, I.turned (t' := s.toks) (fun b o hb e => eb b o hb e) f0 f1 f3 f4 f5⟩
  self := fun _ _ _ _ _ st h => wpAny_pyIter_listiter st h
end L2

namespace L2
open PySem PySem.Spec PyProof.Rows
section
variable {X : Cx} {tg : Expr}
def iList (K : PySem.W.Frag) (tl : TE) : TI := fun σ H R => tl σ H fun x H1 => ∃ a, x = .ref a ∧ (∃ xs, SqL K H1 a xs) ∧ R (Itl K a) H1
def iTup (K : PySem.W.Frag) (tl : TE) : TI := fun σ H R => tl σ H fun x H1 => ∃ a, x = .ref a ∧ (∃ xs, SqT K H1 a xs) ∧ R (Itt K a) H1
theorem pi_list {l : Expr} {tl : TE} (hl : PE X l tl) : PI X tg l (iList X.K tl) := by
  intro pins s σ H R I h
  refine thn (hl pins s σ H _ I h) fun v s1 ⟨x, H1, I1, r1, q1⟩ => ?_
  obtain ⟨a, e, ⟨xs, hq⟩, q⟩ := q1
  subst e
  cases r1
  obtain ⟨its, rv, p, hz⟩ := I1.list hq
  refine wpAny_pyIter_list p.isList ?_
  refine ⟨s1.heap.objs.size, [s1.heap.objs.size], _, _, H1, rfl, I1.kept (t' := s1.toks) fun b o e => Heap.get?_push_of_some _ e, turn_list a _, ⟨_, Heap.get?_push_size _ rfl, rfl, rfl⟩, fun b hb => ?_, q⟩
  have e : b = s1.heap.objs.size := by simpa using hb
  subst e
  exact I1.fpOk (Nat.le_refl _) (I1.hok.fresh (Nat.le_refl _))
/-  a range object just made, walked -/
def iRng1 (ta : TA) : TI := fun σ H R => ta σ H fun vs H1 => ∃ j : Int, vs = [.int j] ∧ -(2 ^ 62) ≤ j ∧ j < 2 ^ 62 ∧ R (Itr 0 j.toNat) H1
def iRng2 (ta : TA) : TI := fun σ H R => ta σ H fun vs H1 => ∃ i j : Int, vs = [.int i, .int j] ∧ (-(2 ^ 62) ≤ i ∧ i < 2 ^ 62 ∧ -(2 ^ 62) ≤ j ∧ j < 2 ^ 62) ∧ R (Itr i (j - i).toNat) H1
/-! ### for -/
/-  W: the invariant by the turn and a measure; N: what the body is to reach -/
def tFor (wi : TI) (g : TG) (tb : TS) : TS := fun D σ H => wi σ H fun J H1 => ∃ W : Nat → Nat → St → Hp → Prop, (∃ m, W 0 m σ H1) ∧ ∀ i m σ H, W i m σ H →
  (J.stop i H ∧ D.nx σ H) ∨ (J.go i H ∧ ∃ N : St → Hp → Prop, (∀ σ' H', N σ' H' → ∃ m', m' < m ∧ W (i + 1) m' σ' H') ∧ ∀ x H', J.yld i H x H' → g x σ H' fun σ2 H2 => tb { D with nx := N, ct := N, bk := D.nx } σ2 H2)
/-  the records at fp as they stand -/
def pinsAt (fp : List Addr) (h : Heap) : List (Addr × Obj) := fp.filterMap fun b => (h.get? b).map fun o => (b, o)
theorem mem_pinsAt {fp : List Addr} {h : Heap} {b : Addr} {o : Obj} (hb : b ∈ fp) (e : h.get? b = some o) : (b, o) ∈ pinsAt fp h := List.mem_filterMap.mpr ⟨b, hb, by rw [e]; rfl⟩
theorem of_pinsAt {fp : List Addr} {h : Heap} {p : Addr × Obj} (hp : p ∈ pinsAt fp h) : p.1 ∈ fp ∧ h.get? p.1 = some p.2 := by
  obtain ⟨b, hb, e⟩ := List.mem_filterMap.mp hp
  cases q : h.get? b with
  | none => rw [q] at e; cases e
  | some o =>
    rw [q] at e
    have e' : (b, o) = p := Option.some.inj e
    subst e'
    exact ⟨hb, q⟩
theorem Inv.pinned {pins : List (Addr × Obj)} {σ : St} {H : Hp} {s : Shared} {fp : List Addr} (I : Inv X pins σ H s) (hf : ∀ b ∈ fp, FpOk X pins H b) (ho : ∀ b ∈ fp, ∃ o, s.heap.get? b = some o ∧ ∀ v, o.data ≠ .cell v) : Inv X (pins ++ pinsAt fp s.heap) σ H s :=
  I.pins_of fun p hp => (List.mem_append.mp hp).elim (fun z => I.pin p (List.mem_append_right _ z)) fun z => by
    obtain ⟨hb, e⟩ := of_pinsAt z
    obtain ⟨f0, f1, f2, _⟩ := hf p.1 hb
    obtain ⟨o, e', d⟩ := ho p.1 hb
    rw [e] at e'; cases e'
    exact ⟨e, f0, f1, f2, d⟩
theorem Inv.unpinned {pins pl : List (Addr × Obj)} {σ : St} {H : Hp} {s : Shared} (I : Inv X (pins ++ pl) σ H s) : Inv X pins σ H s := I.pins_of fun p hp => I.pin p (List.mem_append_right _ (List.mem_append_left _ hp))
theorem ps_for {iter : Expr} {body : List Stmt} {wi : TI} {g : TG} {tb : TS} {pos : Pos} (hp : PassesOwn (model X.prog X.w) X.A X.env X.xe) (hc : X.calm = true) (hi : PI X tg iter wi) (hg : PG X tg g) (hb : PSs X body tb)
    (hs : ∀ x, foldedSetIterable iter X.env x = pure x := by intro _; rfl) : PS X (.For tg iter body [] pos) (tFor wi g tb) := by
  intro pins s σ H D I h
  refine wpAny_For (thn (hi pins s σ H _ I h) fun v s1 h1 => thn h1 fun itv s2 h2 => ?_) hs
  obtain ⟨it, fp, tn, J, H2, e, I2, T, st2, f2, W, ⟨m0, w0⟩, turn⟩ := h2
  subst e
  -- what stays true of the iterator's objects through the loop
  have stat : ∀ {H' : Hp}, (∀ b ∈ fp, H' b = none) → ∀ b ∈ fp, FpOk X pins H' b := fun hn b hb => ⟨hn b hb, (f2 b hb).2⟩
  refine codeAny_forLoop_any (fun n s' => ∃ i σ' H', Inv X pins σ' H' s' ∧ tn i s'.heap ∧ (∀ b ∈ fp, H' b = none) ∧ W i n σ' H') ?_ m0 ⟨0, σ, H2, I2, st2, fun b hb => (f2 b hb).1, w0⟩
  rintro n s3 ⟨i, σ3, H3, I3, st3, fr3, w3⟩
  rcases turn i n σ3 H3 w3 with ⟨stop, qn⟩ | ⟨go, N, hN, step⟩
  · refine wpAny_passesOwn hp (thn (T.done X rfl rfl rfl hc i pins s3 σ3 H3 X.xe I3 (stat fr3) st3 stop) fun r s4 ⟨hr, I4⟩ => ?_)
    subst hr
    exact wpAny_execs_nil ⟨σ3, H3, I4, qn⟩
  · refine wpAny_passesOwn hp (thn (T.item X rfl rfl rfl hc i pins s3 σ3 H3 X.xe I3 (stat fr3) st3 go) fun r s4 ⟨u, hr, h4⟩ => ?_)
    subst hr
    refine wpAny_passesOwn hp (thn h4 fun _ s5 ⟨x, H5, I5, r5, y5, st5, fr5⟩ => ?_)
    have I5' := I5.pinned (stat fr5) (T.obj _ _ st5)
    refine wpAny_passesOwn hp (thn (hg _ s5 σ3 H5 x u _ I5' r5 (step x H5 y5)) fun _ s6 ⟨σ6, H6, I6, q6⟩ => ?_)
    refine wpAny_passesOwn hp (thn (hb _ s6 σ6 H6 _ I6 q6) fun f s7 q7 => ?_)
    have again : ∀ {σ7 : St} {H7 : Hp}, Inv X (pins ++ pinsAt fp s5.heap) σ7 H7 s7 → N σ7 H7 → ∃ m, m < n ∧ ∃ i σ' H', Inv X pins σ' H' s7 ∧ tn i s7.heap ∧ (∀ b ∈ fp, H' b = none) ∧ W i m σ' H' := fun {σ7 H7} I7 n7 => by
      obtain ⟨m', hm, w7⟩ := hN σ7 H7 n7
      refine ⟨m', hm, i + 1, σ7, H7, I7.unpinned, T.keep _ _ _ st5 fun b hb o e => (I7.pin (b, o) (List.mem_append_right _ (List.mem_append_right _ (mem_pinsAt hb e)))).1, fun b hb => ?_, w7⟩
      obtain ⟨o, e, d⟩ := T.obj _ _ st5 b hb
      exact (I7.pin (b, o) (List.mem_append_right _ (List.mem_append_right _ (mem_pinsAt hb e)))).2.1
    cases f with
    | next => obtain ⟨σ7, H7, I7, n7⟩ := q7; exact again I7 n7
    | cont => obtain ⟨σ7, H7, I7, n7⟩ := q7; exact again I7 n7
    | brk => obtain ⟨σ7, H7, I7, q7⟩ := q7; exact ⟨σ7, H7, I7.unpinned, q7⟩
    | ret v => obtain ⟨x7, σ7, H7, I7, r7, q7⟩ := q7; exact ⟨x7, σ7, H7, I7.unpinned, r7, q7⟩
end

/-! ### the forms one uses -/
/-  over a list that the body leaves as it is -/
/-  while, by a word and a measure of the state -/
end L2

namespace L2
open PySem PySem.Spec PyProof.Rows

abbrev R2 := V → V → Hp → VK → Prop
/-  a two-place operation on values: f is binaryOp op, inplaceOp op or compareOp op -/
def OpR (X : Cx) (f : Value → Value → Sem Value) (r : R2) : Prop :=
  ∀ (pins : List (Addr × Obj)) (s : Shared) (σ : St) (H : Hp) (x y : V) (v u : Value) (Q : VK), Inv X pins σ H s → RelV x v → RelV y u → r x y H Q →
    wpAny (model X.prog X.w) X.A (f v u) (EP X pins σ Q) X.xe s
/-  a one-place operation -/
def UnR (X : Cx) (f : Value → Sem Value) (r : V → Hp → VK → Prop) : Prop :=
  ∀ (pins : List (Addr × Obj)) (s : Shared) (σ : St) (H : Hp) (x : V) (v : Value) (Q : VK), Inv X pins σ H s → RelV x v → r x H Q →
    wpAny (model X.prog X.w) X.A (f v) (EP X pins σ Q) X.xe s
/-  a call of a value that is known (a builtin, a type) with values -/
def CallR (X : Cx) (f : Value) (r : List V → Hp → VK → Prop) : Prop :=
  ∀ (pins : List (Addr × Obj)) (s : Shared) (σ : St) (H : Hp) (xs : List V) (us : List Value) (Q : VK), Inv X pins σ H s → Vals xs us → r xs H Q →
    wpAny (model X.prog X.w) X.A (call f us) (EP X pins σ Q) X.xe s
/-  a value's truth -/
def TruR (X : Cx) (r : V → Hp → (Bool → Hp → Prop) → Prop) : Prop :=
  ∀ (pins : List (Addr × Obj)) (s : Shared) (σ : St) (H : Hp) (x : V) (v : Value) (Q : Bool → Hp → Prop), Inv X pins σ H s → RelV x v → r x H Q →
    wpAny (model X.prog X.w) X.A (truthy v) (TP X pins σ Q) X.xe s

def tOp (r : R2) (ta tb : TE) : TE := fun σ H Q => ta σ H fun x H1 => tb σ H1 fun y H2 => r x y H2 Q
def tUn (r : V → Hp → VK → Prop) (ta : TE) : TE := fun σ H Q => ta σ H fun x H1 => r x H1 Q
/-  ints in, under C, and a value out -/
def rI (C : Int → Int → Prop) (g : Int → Int → V) : R2 := fun x y H Q => ∃ i j, x = .int i ∧ y = .int j ∧ C i j ∧ Q (g i j) H
def rI0 (g : Int → Int → V) : R2 := fun x y H Q => ∃ i j, x = .int i ∧ y = .int j ∧ Q (g i j) H
def rU (g : Int → V) : V → Hp → VK → Prop := fun x H Q => ∃ i, x = .int i ∧ Q (g i) H

section
variable {X : Cx} {a b c : Expr} {ta tb tc : TE} {pos : Pos}

theorem binT (ha : PE X a ta) (hb : PE X b tb) {pins : List (Addr × Obj)} {s : Shared} {σ : St} {H : Hp} {R : V → V → Hp → Prop} (I : Inv X pins σ H s)
    (h : ta σ H fun x H1 => tb σ H1 fun y H2 => R x y H2) {Q : Value → Shared → Prop} {f : Value → Value → Sem Value}
    (hf : ∀ v u s2 x y H2, Inv X pins σ H2 s2 → RelV x v → RelV y u → R x y H2 → wpAny (model X.prog X.w) X.A (f v u) Q X.xe s2) :
    wpAny (model X.prog X.w) X.A (eval a X.env) (fun v s₁ => wpAny (model X.prog X.w) X.A (eval b X.env) (fun u s₂ => wpAny (model X.prog X.w) X.A (f v u) Q X.xe s₂) X.xe s₁) X.xe s := by
  refine thn (ha pins s σ H _ I h) fun v s1 ⟨x, H1, I1, r1, q1⟩ => ?_
  refine thn (hb pins s1 σ H1 _ I1 q1) fun u s2 ⟨y, H2, I2, r2, q2⟩ => ?_
  exact hf v u s2 x y H2 I2 r1 r2 q2

theorem pe_op {op : Operator} {r : R2} (ho : OpR X (binaryOp op) r) (ha : PE X a ta) (hb : PE X b tb) : PE X (.BinOp a op b pos) (tOp r ta tb) := by
  intro pins s σ H Q I h
  exact wpAny_BinOp (binT ha hb I h fun v u s2 x y H2 I2 rx ry q => ho pins s2 σ H2 x y v u Q I2 rx ry q)
theorem pe_un {op : UnaryOp} {r : V → Hp → VK → Prop} (ho : UnR X (unaryOp op) r) (ha : PE X a ta) : PE X (.UnaryOp op a pos) (tUn r ta) := by
  intro pins s σ H Q I h
  exact UnaryOp_ (thn (ha pins s σ H _ I h) fun v s1 ⟨x, H1, I1, r1, q1⟩ => ho pins s1 σ H1 x v Q I1 r1 q1)
/-  a op= e at a name: the name's slot i -/
/-! ### ints -/
theorem opI {f : Value → Value → Sem Value} {C : Int → Int → Prop} {g : Int → Int → Int}
    (rule : ∀ (i j : Int) (t u : Tok) (s : Shared) (Q : Value → Shared → Prop) (E : Value → Shared → Prop), C i j → Q (.int (g i j) s.toks) { s with toks := s.toks + 1 } → wpAny (model X.prog X.w) X.A (f (.int i t) (.int j u)) Q E s) :
    OpR X f (rI C fun i j => .int (g i j)) := by
  intro pins s σ H x y v u Q I rx ry h
  obtain ⟨i, j, rfl, rfl, hc, q⟩ := h
  obtain ⟨t, rfl⟩ := rx
  obtain ⟨t', rfl⟩ := ry
  exact rule i j t t' s _ _ hc ⟨.int (g i j), H, I.tok _, ⟨_, rfl⟩, q⟩
theorem opI0 {f : Value → Value → Sem Value} {g : Int → Int → Int}
    (rule : ∀ (i j : Int) (t u : Tok) (s : Shared) (Q : Value → Shared → Prop) (E : Value → Shared → Prop), Q (.int (g i j) s.toks) { s with toks := s.toks + 1 } → wpAny (model X.prog X.w) X.A (f (.int i t) (.int j u)) Q E s) :
    OpR X f (rI0 fun i j => .int (g i j)) := by
  intro pins s σ H x y v u Q I rx ry h
  obtain ⟨i, j, rfl, rfl, q⟩ := h
  obtain ⟨t, rfl⟩ := rx
  obtain ⟨t', rfl⟩ := ry
  exact rule i j t t' s _ _ ⟨.int (g i j), H, I.tok _, ⟨_, rfl⟩, q⟩
theorem opB0 {f : Value → Value → Sem Value} {g : Int → Int → Bool}
    (rule : ∀ (i j : Int) (t u : Tok) (s : Shared) (Q : Value → Shared → Prop) (E : Value → Shared → Prop), Q (.bool (g i j)) s → wpAny (model X.prog X.w) X.A (f (.int i t) (.int j u)) Q E s) :
    OpR X f (rI0 fun i j => .bl (g i j)) := by
  intro pins s σ H x y v u Q I rx ry h
  obtain ⟨i, j, rfl, rfl, q⟩ := h
  obtain ⟨t, rfl⟩ := rx
  obtain ⟨t', rfl⟩ := ry
  exact rule i j t t' s _ _ ⟨.bl (g i j), H, I, rfl, q⟩

def CDiv (i j : Int) : Prop := 0 < j ∧ j < 1073741824
def CDivN (i j : Int) : Prop := j ≠ 0 ∧ j.natAbs < 1073741824
def CPow (i j : Int) : Prop := 0 ≤ j ∧ j ≤ 1000000 ∧ i.natAbs < 2 ^ 64
def CMul (i j : Int) : Prop := (-(2 ^ 64) < i ∧ i < 2 ^ 64) ∨ (-(2 ^ 64) < j ∧ j < 2 ^ 64)
theorem CMul.ok {i j : Int} (h : CMul i j) : IntMulOk i j := by
  rcases h with ⟨h1, h2⟩ | ⟨h1, h2⟩
  · exact .of_left (intBits_le_64 h1 h2)
  · exact .of_right (intBits_le_64 h1 h2)
theorem op_add : OpR X (binaryOp .Add) (rI0 fun i j => .int (i + j)) := opI0 fun _ _ _ _ _ _ _ q => add_int q
theorem op_sub : OpR X (binaryOp .Sub) (rI0 fun i j => .int (i - j)) := opI0 fun _ _ _ _ _ _ _ q => sub_int q
theorem op_mul : OpR X (binaryOp .Mult) (rI CMul fun i j => .int (i * j)) := opI fun _ _ _ _ _ _ _ hc q => mul_int q hc.ok
/-  // by a positive divisor -/
/-  % by a positive divisor of any size -/
theorem op_mod : OpR X (binaryOp .Mod) (rI (fun _ j => 0 < j) fun i j => .int (i % j)) := opI fun i j _ _ _ _ _ hc q => by
  have h1 : (0 : Int) < j := hc
  exact mod_int' (by omega) (by rw [Int.fmod_eq_emod_of_nonneg i (by omega)]; exact q)
theorem op_pow : OpR X (binaryOp .Pow) (rI CPow fun i j => .int (i ^ j.toNat)) := opI fun _ _ _ _ _ _ _ hc q => pow_int_small hc.1 hc.2.1 hc.2.2 q
theorem unI {f : Value → Sem Value} {g : Int → Int}
    (rule : ∀ (i : Int) (t : Tok) (s : Shared) (Q : Value → Shared → Prop) (E : Value → Shared → Prop), Q (.int (g i) s.toks) { s with toks := s.toks + 1 } → wpAny (model X.prog X.w) X.A (f (.int i t)) Q E s) :
    UnR X f (rU fun i => .int (g i)) := by
  intro pins s σ H x v Q I rx h
  obtain ⟨i, rfl, q⟩ := h
  obtain ⟨t, rfl⟩ := rx
  exact rule i t s _ _ ⟨.int (g i), H, I.tok _, ⟨_, rfl⟩, q⟩
theorem un_neg : UnR X (unaryOp .USub) (rU fun i => .int (-i)) := unI fun _ _ _ _ _ q => neg_int q
/-! ### bools among ints: n += (a < b) -/
end

/-! ### comparisons -/
/-  the scalars that == tells apart as data does -/
def scal : V → V → Bool
  | .non, .non => true | .non, .int _ => true | .int _, .non => true | .non, .bl _ => true | .bl _, .non => true | .non, .str _ => true | .str _, .non => true
  | .int _, .int _ => true | .bl _, .bl _ => true | .str _, .str _ => true | .byt _, .byt _ => true
  | .int _, .str _ => true | .str _, .int _ => true | .bl _, .str _ => true | .str _, .bl _ => true
  | _, _ => false
def rEq : R2 := fun x y H Q => scal x y = true ∧ Q (.bl (decide (x = y))) H
def rNe : R2 := fun x y H Q => scal x y = true ∧ Q (.bl (!decide (x = y))) H

theorem dec_int {i j : Int} : decide (V.int i = V.int j) = (i == j) := by
  rw [Bool.eq_iff_iff]
  simp
theorem dec_bl {i j : Bool} : decide (V.bl i = V.bl j) = (i == j) := by
  rw [Bool.eq_iff_iff]
  simp
theorem dec_str {i j : Str} : decide (V.str i = V.str j) = (i == j) := by
  rw [Bool.eq_iff_iff]
  simp
theorem dec_byt {i j : Array UInt8} : decide (V.byt i = V.byt j) = (i.toList == j.toList) := by
  rw [Bool.eq_iff_iff]
  cases i
  cases j
  simp

section
variable {X : Cx} {a b c : Expr} {ta tb tc : TE} {pos : Pos}
theorem fin_bl {pins : List (Addr × Obj)} {σ : St} {H : Hp} {s : Shared} {Q : VK} {k k' : Bool} (I : Inv X pins σ H s) (q : Q (.bl k) H) (e : k = k') : EP X pins σ Q (.bool k') s := by
  subst e
  exact ⟨.bl k, H, I, rfl, q⟩
theorem op_eq : OpR X (compareOp .Eq) rEq := by
  intro pins s σ H x y v u Q I rx ry h
  obtain ⟨hs, q⟩ := h
  cases x with
  | non =>
    cases rx
    cases y with
    | non => cases ry; exact PySem.EqNone.eq_none_none (fin_bl I q (by simp))
    | bl j => cases ry; exact PySem.EqNone.eq_none_bool (fin_bl I q (by simp))
    | int j => obtain ⟨t', rfl⟩ := ry; exact PySem.EqNone.eq_none_int (fin_bl I q (by simp))
    | str j => obtain ⟨t', rfl⟩ := ry; exact PySem.EqNone.eq_none_str (fin_bl I q (by simp))
    | _ => exact absurd (show false = true from hs) Bool.false_ne_true
  | bl i =>
    cases rx
    cases y with
    | non => cases ry; exact PySem.EqNone.eq_bool_none (fin_bl I q (by simp))
    | bl j => cases ry; exact eq_bool (fin_bl I q dec_bl)
    | str j => obtain ⟨t', rfl⟩ := ry; exact PySem.EqMixed.eq_bool_str (fin_bl I q (by simp))
    | _ => exact absurd (show false = true from hs) Bool.false_ne_true
  | int i =>
    obtain ⟨t, rfl⟩ := rx
    cases y with
    | non => cases ry; exact PySem.EqNone.eq_int_none (fin_bl I q (by simp))
    | int j => obtain ⟨t', rfl⟩ := ry; exact eq_int (fin_bl I q dec_int)
    | str j => obtain ⟨t', rfl⟩ := ry; exact PySem.EqMixed.eq_int_str (fin_bl I q (by simp))
    | _ => exact absurd (show false = true from hs) Bool.false_ne_true
  | str i =>
    obtain ⟨t, rfl⟩ := rx
    cases y with
    | non => cases ry; exact PySem.EqNone.eq_str_none (fin_bl I q (by simp))
    | bl j => cases ry; exact PySem.EqMixed.eq_str_bool (fin_bl I q (by simp))
    | int j => obtain ⟨t', rfl⟩ := ry; exact PySem.EqMixed.eq_str_int (fin_bl I q (by simp))
    | str j => obtain ⟨t', rfl⟩ := ry; exact eq_str (fin_bl I q dec_str)
    | _ => exact absurd (show false = true from hs) Bool.false_ne_true
  | byt i =>
    obtain ⟨t, rfl⟩ := rx
    cases y with
    | byt j => obtain ⟨t', rfl⟩ := ry; exact PySem.W.eq_bytes (fin_bl I q dec_byt)
    | _ => exact absurd (show false = true from hs) Bool.false_ne_true
  | _ => cases y <;> exact absurd (show false = true from hs) Bool.false_ne_true
theorem op_ne : OpR X (compareOp .NotEq) rNe := by
  intro pins s σ H x y v u Q I rx ry h
  obtain ⟨hs, q⟩ := h
  cases x with
  | non =>
    cases rx
    cases y with
    | non => cases ry; exact PySem.EqNone.ne_none_none (fin_bl I q (by simp))
    | bl j => cases ry; exact PySem.EqNone.ne_none_bool (fin_bl I q (by simp))
    | int j => obtain ⟨t', rfl⟩ := ry; exact PySem.EqNone.ne_none_int (fin_bl I q (by simp))
    | str j => obtain ⟨t', rfl⟩ := ry; exact PySem.EqNone.ne_none_str (fin_bl I q (by simp))
    | _ => exact absurd (show false = true from hs) Bool.false_ne_true
  | bl i =>
    cases rx
    cases y with
    | non => cases ry; exact PySem.EqNone.ne_bool_none (fin_bl I q (by simp))
    | bl j => cases ry; exact ne_bool (fin_bl I q (congrArg not dec_bl))
    | str j => obtain ⟨t', rfl⟩ := ry; exact PySem.EqMixed.ne_bool_str (fin_bl I q (by simp))
    | _ => exact absurd (show false = true from hs) Bool.false_ne_true
  | int i =>
    obtain ⟨t, rfl⟩ := rx
    cases y with
    | non => cases ry; exact PySem.EqNone.ne_int_none (fin_bl I q (by simp))
    | int j => obtain ⟨t', rfl⟩ := ry; exact ne_int (fin_bl I q (congrArg not dec_int))
    | str j => obtain ⟨t', rfl⟩ := ry; exact PySem.EqMixed.ne_int_str (fin_bl I q (by simp))
    | _ => exact absurd (show false = true from hs) Bool.false_ne_true
  | str i =>
    obtain ⟨t, rfl⟩ := rx
    cases y with
    | non => cases ry; exact PySem.EqNone.ne_str_none (fin_bl I q (by simp))
    | bl j => cases ry; exact PySem.EqMixed.ne_str_bool (fin_bl I q (by simp))
    | int j => obtain ⟨t', rfl⟩ := ry; exact PySem.EqMixed.ne_str_int (fin_bl I q (by simp))
    | str j => obtain ⟨t', rfl⟩ := ry; exact ne_str (fin_bl I q (congrArg not dec_str))
    | _ => exact absurd (show false = true from hs) Bool.false_ne_true
  | byt i =>
    obtain ⟨t, rfl⟩ := rx
    cases y with
    | byt j => obtain ⟨t', rfl⟩ := ry; exact PySem.W.ne_bytes (fin_bl I q (congrArg not dec_byt))
    | _ => exact absurd (show false = true from hs) Bool.false_ne_true
  | _ => cases y <;> exact absurd (show false = true from hs) Bool.false_ne_true

theorem op_lt : OpR X (compareOp .Lt) (rI0 fun i j => .bl (decide (i < j))) := opB0 fun _ _ _ _ _ _ _ q => lt_int q
theorem op_gt : OpR X (compareOp .Gt) (rI0 fun i j => .bl (decide (j < i))) := opB0 fun _ _ _ _ _ _ _ q => gt_int q
theorem op_ge : OpR X (compareOp .GtE) (rI0 fun i j => .bl (decide (j ≤ i))) := opB0 fun _ _ _ _ _ _ _ q => ge_int q
/-  the one string within the other -/
/-  is None, is not None: the right side a value none -/
/-  is, is not of two objects that are tracked lists or instances -/
def isObj : HO → Bool
  | .lst _ => true
  | .ins _ _ _ => true
  | _ => false
/-  two rules for one operation: by cases -/
theorem nomark (b : Expr) {op : CmpOp} (h : op ≠ .In := by decide) (h2 : op ≠ .NotIn := by decide) : behindInMarks op b = false := by
  have e1 : (op == CmpOp.In) = false := by cases op <;> first | rfl | exact absurd rfl h
  have e2 : (op == CmpOp.NotIn) = false := by cases op <;> first | rfl | exact absurd rfl h2
  cases b <;> simp [behindInMarks, e1, e2]
/-  a comparison as a value; hm: nomark b, or (for in, not in) by with_unfolding_all rfl -/
theorem pe_cmpR {op : CmpOp} {r : R2} (ho : OpR X (compareOp op) r) (ha : PE X a ta) (hb : PE X b tb) (hm : behindInMarks op b = false) : PE X (.Compare a [op] [b] pos) (tOp r ta tb) := by
  intro pins s σ H Q I h
  exact wpAny_Compare1 (binT ha hb I h fun v u s2 x y H2 I2 rx ry q => ho pins s2 σ H2 x y v u Q I2 rx ry q) hm
/-  a reading of a value as a test -/
def tTest (t : TE) : TT := fun σ H Q => t σ H fun x H' => ∃ k, x = .bl k ∧ Q k H'
/-  a op1 b op2 c -/
def tChain (r r' : R2) (ta tb tc : TE) : TE := fun σ H Q => ta σ H fun x H1 => tb σ H1 fun y H2 => r x y H2 fun z H3 => ∃ k, z = .bl k ∧
  (if k = true then tc σ H3 fun w' H4 => r' y w' H4 Q else Q (.bl false) H3)
/-! ### truth -/
/-  a value's truth by the abstract heap -/
def TruV (K : PySem.W.Frag) (x : V) (H : Hp) (k : Bool) : Prop :=
  match x with
  | .non => k = false
  | .bl b => k = b
  | .int i => k = (i != 0)
  | .str y => y.length ≤ sizeLine ∧ k = ((y.length : Int) != 0)
  | .byt y => y.size ≤ sizeLine ∧ k = ((y.size : Int) != 0)
  | .ref p => (∃ xs, SqL K H p xs ∧ k = !xs.isEmpty) ∨ (∃ xs, SqT K H p xs ∧ k = !xs.isEmpty) ∨ ∃ kvs, H p = some (.dK kvs) ∧ k = !kvs.isEmpty
  | _ => False
theorem line63 : (sizeLine : Nat) < 2 ^ 63 := by rw [sizeLine_eq]; decide
/-  any expression whose test is its value's truth (a name, a call, a subscript, a field ..: he by fun _ => rfl) -/
/-! ### strs and bytes -/
def PlainIxT (b : Expr) : Prop := ∀ o i, subscripted b false o i = operate [o, i] (getItem o i)
/-  s[i], 0 ≤ i < len -/
/-  b[i], 0 ≤ i < len -/
/-! ### scalar builtins, by CallR -/
theorem vals1 {x : V} {us : List Value} (r : Vals [x] us) : ∃ u, us = [u] ∧ RelV x u := by
  cases r with
  | cons r1 r2 => cases r2; exact ⟨_, rfl, r1⟩
theorem vals2 {x y : V} {us : List Value} (r : Vals [x, y] us) : ∃ u w', us = [u, w'] ∧ RelV x u ∧ RelV y w' := by
  cases r with
  | cons r1 r2 =>
    cases r2 with
    | cons r3 r4 => cases r4; exact ⟨_, _, rfl, r1, r3⟩
theorem call_max2 (hc : X.calm = true) : CallR X (.builtin "max") (fun xs H Q => ∃ i j, xs = [.int i, .int j] ∧ Q (.int (if j > i then j else i)) H) := by
  intro pins s σ H xs us Q I r h
  obtain ⟨i, j, rfl, q⟩ := h
  obtain ⟨u, w', rfl, ⟨t, rfl⟩, ⟨t', rfl⟩⟩ := vals2 r
  refine max_two_ints (I.ok.hd hc) fun h' tk k => ⟨_, H, I.kept k, ?_, q⟩
  by_cases hj : j > i
  · rw [if_pos hj, if_pos hj]; exact ⟨_, rfl⟩
  · rw [if_neg hj, if_neg hj]; exact ⟨_, rfl⟩
theorem call_min2 (hc : X.calm = true) : CallR X (.builtin "min") (fun xs H Q => ∃ i j, xs = [.int i, .int j] ∧ Q (.int (if j < i then j else i)) H) := by
  intro pins s σ H xs us Q I r h
  obtain ⟨i, j, rfl, q⟩ := h
  obtain ⟨u, w', rfl, ⟨t, rfl⟩, ⟨t', rfl⟩⟩ := vals2 r
  refine min_two_ints (I.ok.hd hc) fun h' tk k => ⟨_, H, I.kept k, ?_, q⟩
  by_cases hj : j < i
  · rw [if_pos hj, if_pos hj]; exact ⟨_, rfl⟩
  · rw [if_neg hj, if_neg hj]; exact ⟨_, rfl⟩
/-  len of a str, a bytes, a list, a tuple -/
def LenV (K : PySem.W.Frag) (x : V) (H : Hp) (n : Nat) : Prop :=
  match x with
  | .str y => y.length ≤ sizeLine ∧ n = y.length
  | .byt y => y.size ≤ sizeLine ∧ n = y.size
  | .ref p => (∃ xs, SqL K H p xs ∧ n = xs.length) ∨ ∃ xs, SqT K H p xs ∧ n = xs.length
  | _ => False
/-  divmod: a new tuple -/
end
end L2

namespace L2
open PySem PySem.Spec PyProof.Rows

/-! ### an instance, its attributes a map -/
structure ObjM (h : Heap) (x dx C : Addr) (mA : Str → Option Value) : Prop where
  obj : h.get? x = some (PySem.W.instObj C dx)
  ns : h.Ns1 dx mA
  ne : dx ≠ x

theorem lookIn_ns {h : Heap} {dx : Addr} {mA : Str → Option Value} (n : h.Ns1 dx mA) : ∃ od, h.get? dx = some od ∧ ∀ name, PySem.W.lookIn name od = some (mA name) := by
  obtain ⟨o, es, ep, ho, hd, hk, _, hm⟩ := n
  refine ⟨o, ho, fun name => ?_⟩
  have e := hm name
  unfold nsFind findBy at e
  rw [← Array.find?_toList] at e
  unfold PySem.W.lookIn
  rw [hd]
  dsimp only
  split
  · rename_i y q
    rw [q] at e
    exact congrArg some e
  · rename_i q
    rw [q] at e
    have a : es.toList.any (·.refKey) = false := by
      rw [List.any_eq_false]
      intro y hy
      obtain ⟨z, t, hkey⟩ := hk y (Array.mem_toList_iff.mp hy)
      simp [DictEntry.refKey, hkey]
    have a' : ¬ es.toList.any (·.refKey) = true := by rw [a]; exact Bool.false_ne_true
    rw [if_neg a']
    exact congrArg some e

theorem ObjM.look {h : Heap} {x dx C : Addr} {mA : Str → Option Value} (I : ObjM h x dx C mA) : ∃ od, PySem.W.InstAt h x (PySem.W.instObj C dx) C (some od) ∧ ∀ name, PySem.W.lookIn name od = some (mA name) :=
  let ⟨od, ho, hl⟩ := lookIn_ns I.ns
  ⟨od, ⟨I.obj, rfl, rfl, ho⟩, hl⟩

section
variable {prog : Program} {w : World} {A : Around} {E : Value → Shared → Prop} {s : Shared} {K : PySem.W.Frag} {x dx C f : Addr} {mA : Str → Option Value} {name : Str} {v : Value}

theorem get_map {expr : Bool} {Q : Value → Shared → Prop} (X : K.In s.heap) (I : ObjM s.heap x dx C mA) (hg : PySem.W.plainGet K C name = true) (hh : PySem.W.hasDictIn K C = true)
    (ha : PySem.W.findIn K (.ref C) name = some none) (hv : mA name = some v) (hv' : PySem.W.handedIn v = true) (h : Q v { s with toks := s.toks + 1 }) :
    wpAny (model prog w) A (getAttr (.ref x) name expr) Q E s := by
  obtain ⟨od, J, hl⟩ := I.look
  exact PySem.W.get_value X J (PySem.W.plainGet_of hg).1 (PySem.W.findObj_own hh ha rfl (by rw [hl, hv])) hv' h

theorem get_meth {pl : Sem Bool} {Q : Value × List Value → Shared → Prop} (X : K.In s.heap) (I : ObjM s.heap x dx C mA) (hg : PySem.W.plainGet K C name = true)
    (hf : PySem.W.findIn K (.ref C) name = some (some (.ref f))) (ht : PySem.W.isFn K (.ref f) = true) (hv : mA name = none) (h : Q (.ref f, [.ref x]) s) :
    wpAny (model prog w) A (getMethod (.ref x) name pl) Q E s := by
  obtain ⟨od, J, hl⟩ := I.look
  exact PySem.W.method_fn X J (PySem.W.plainGet_of hg).1 (PySem.W.plainGet_of hg).2 hf (beq_iff_eq.mp ht) (by show (PySem.W.lookIn name od).map (·.isSome) = some false; rw [hl, hv]; rfl) h

theorem set_map {ns : List Str} {Q : Unit → Shared → Prop} (X : K.In s.heap) (I : ObjM s.heap x dx C mA)
    (hs : PySem.W.findIn K (.ref C) "__setattr__" = some (some (.builtin "object.__setattr__"))) (hp : PySem.W.plainOver K C = true) (ht : PySem.W.takerIn K C name = some none) (hh : PySem.W.hasDictIn K C = true)
    (hw : PySem.Within mA ns) (hsz : ns.length ≤ sizeLine)
    (h : ∀ h', ObjM h' x dx C (fun y => if y = name then some v else mA y) → Heap.SameBut dx s.heap h' → Q () { s with heap := h', toks := s.toks + 2 }) :
    wpAny (model prog w) A (setAttr (.ref x) name v) Q E s := by
  obtain ⟨od, J, hl⟩ := I.look
  refine PySem.W.set_plain X J hs (PySem.W.osa_open (s := { s with toks := s.toks + 1 }) (r := none) X J hp ht fun b => ?_)
  obtain ⟨cd, hc, hd'⟩ := PySem.W.any_some hh
  have hx : s.heap.get? x = some ⟨.ref C, some dx, .plain, #[]⟩ := I.obj
  refine wpAny_bind (wpAny_pure (wpAny_bind (wpAny_bind (wpAny_loadPart hx (wpAny_bind (PySem.W.Looks.here (s := { s with toks := s.toks + 1 }) (PySem.W.looks_clsIn X hc) ?_))))))
  rw [hd']
  refine wpAny_pure (a := some dx) (wpAny_bind (wpAny_pure (wpAny_bind ?_)))
  refine wpAny_nsSet1 (s := { s with toks := s.toks + 1 }) I.ns fun h' hn2 hs2 => ?_
  obtain ⟨oD, esD, epD, hoD, hdD, hcD⟩ := hn2.count (PySem.Within.cons name v hw)
  refine wpAny_bind (wpAny_lookBehind hoD (by rw [hdD]; exact pastItsLine_dict (Nat.le_trans hcD (by rw [List.length_cons]; omega))) ?_)
  exact wpAny_pure (h _ ⟨(hs2.2 _ (Ne.symm I.ne)).trans I.obj, hn2, I.ne⟩ hs2)

/-  C(..): the dict at the heap's end, the instance behind it; then its __init__ -/
theorem make_map {R : Result → Shared → Prop} {vs : List Value} {kw : List (Str × Value)} (X : K.In s.heap) (hm : PySem.W.makesIn K C = true)
    (hi : PySem.W.findIn K (.ref C) "__init__" = some (some (.ref f))) (hf : PySem.W.typeIn K (.ref f) = some (.type "function"))
    (h : codeAny (model prog w) (A.under (.builtin "type.__call__" ⟨.ref C :: vs, kw⟩)) (.call (.ref f) ⟨.ref (s.heap.objs.size + 1) :: vs, kw⟩) (PySem.W.InitBack (s.heap.objs.size + 1) R)
      { s with heap := (s.heap.push PySem.W.emptyDict).push (PySem.W.instObj C s.heap.objs.size) }) :
    codeAny (model prog w) A (.call (.ref C) ⟨vs, kw⟩) R s := by
  obtain ⟨hh, g, d, t, os⟩ := s
  exact PySem.W.make_core (PySem.W.makes_of X hm) (PySem.W.looks_findIn X hi) (fun self => PySem.W.bind_fn X self hf) (.inl rfl) h
/-  C() where there is no __init__ but object's -/
end

/-! ### the attributes as a list of pairs -/
def putF (f : Str) (v : V) : List (Str × V) → List (Str × V)
  | [] => [(f, v)]
  | (g, x) :: r => if g = f then (g, v) :: r else (g, x) :: putF f v r
theorem lookup_putF (f g : Str) (v : V) : ∀ fs : List (Str × V), (putF f v fs).lookup g = if g = f then some v else fs.lookup g
  | [] => by
    show List.lookup g [(f, v)] = _
    by_cases h : g = f
    · have hb : (g == f) = true := beq_iff_eq.mpr h
      simp only [List.lookup, hb, if_pos h]
    · have hb : (g == f) = false := beq_eq_false_iff_ne.mpr h
      simp only [List.lookup, hb, if_neg h]
  | (k, x) :: r => by
    have ih := lookup_putF f g v r
    rw [show putF f v ((k, x) :: r) = (if k = f then (k, v) :: r else (k, x) :: putF f v r) from rfl]
    by_cases hk : k = f
    · rw [if_pos hk]
      by_cases h : g = k
      · have hb : (g == k) = true := beq_iff_eq.mpr h
        simp only [List.lookup, hb, if_pos (h.trans hk)]
      · have hb : (g == k) = false := beq_eq_false_iff_ne.mpr h
        simp only [List.lookup, hb, if_neg (fun e : g = f => h (e.trans hk.symm))]
    · rw [if_neg hk]
      by_cases h : g = k
      · have hb : (g == k) = true := beq_iff_eq.mpr h
        simp only [List.lookup, hb, if_neg (fun e : g = f => hk (h.symm.trans e))]
      · have hb : (g == k) = false := beq_eq_false_iff_ne.mpr h
        simp only [List.lookup, hb]
        exact ih
theorem keys_putF (f : Str) (v : V) : ∀ fs : List (Str × V), f ∈ (putF f v fs).map (·.1) ∧ ∀ g, g ∈ fs.map (·.1) → g ∈ (putF f v fs).map (·.1)
  | [] => ⟨by simp [putF], fun g h => by simp at h⟩
  | (k, x) :: r => by
    obtain ⟨i1, i2⟩ := keys_putF f v r
    rw [show putF f v ((k, x) :: r) = (if k = f then (k, v) :: r else (k, x) :: putF f v r) from rfl]
    by_cases hk : k = f
    · rw [if_pos hk]
      subst hk
      exact ⟨by simp, fun g h => by simpa using h⟩
    · rw [if_neg hk]
      refine ⟨?_, fun g h => ?_⟩
      · rw [List.map_cons]
        exact List.mem_cons_of_mem _ i1
      · rw [List.map_cons] at h ⊢
        rcases List.mem_cons.mp h with e | e
        · exact List.mem_cons.mpr (.inl e)
        · exact List.mem_cons_of_mem _ (i2 g e)
theorem length_putF (f : Str) (v : V) : ∀ fs : List (Str × V), (putF f v fs).length ≤ fs.length + 1
  | [] => by simp [putF]
  | (k, x) :: r => by
    have ih := length_putF f v r
    rw [show putF f v ((k, x) :: r) = (if k = f then (k, v) :: r else (k, x) :: putF f v r) from rfl]
    by_cases hk : k = f
    · rw [if_pos hk, List.length_cons, List.length_cons]; omega
    · rw [if_neg hk, List.length_cons, List.length_cons]; omega

theorem RelO.some_of {v : V} {o : Option Value} (r : RelO (some v) o) : ∃ u, o = some u ∧ RelV v u := by
  cases o with
  | none => exact (show False from r).elim
  | some u => exact ⟨u, rfl, r⟩
theorem RelO.none_of {o : Option Value} (r : RelO none o) : o = none := by
  cases o with
  | none => rfl
  | some u => exact (show False from r).elim
theorem handed_of {v : V} {u : Value} (r : RelV v u) : PySem.W.handedIn u = true := by
  cases v with
  | non => cases (show u = Value.none from r); rfl
  | bl b => cases (show u = Value.bool b from r); rfl
  | int i => obtain ⟨t, e⟩ := (show ∃ t, u = Value.int i t from r); cases e; rfl
  | str x => obtain ⟨t, e⟩ := (show ∃ t, u = Value.str x t from r); cases e; rfl
  | byt b => obtain ⟨t, e⟩ := (show ∃ t, u = Value.bytes b t from r); cases e; rfl
  | flt b => obtain ⟨t, e⟩ := (show ∃ t, u = Value.float b t from r); cases e; rfl
  | ref a => cases (show u = Value.ref a from r); rfl
  | ty n => cases (show u = Value.type n from r); rfl

section
variable {P : Program} {w : World} {H H' : Hp} {h h' : Heap} {a C dx : Addr} {fs fs' : List (Str × V)}
theorem ins_get (hok : HOk P w H h) (e : H a = some (.ins C dx fs)) : ∃ mA, ObjM h a dx C mA ∧ (∀ f, RelO (fs.lookup f) (mA f)) ∧ PySem.Within mA (fs.map (·.1)) ∧ fs.length ≤ 1000 ∧ H dx = some (.own a) := by
  obtain ⟨d, z, ne, ob, mA, n, r, q⟩ := (show ObjOk P w H h a (.ins C dx fs) from hok a _ e)
  exact ⟨mA, ⟨ob, n, ne⟩, r, q, z, d⟩
end

/-! ### what of the text a class must have -/
structure Cls (K : PySem.W.Frag) (C : Addr) : Prop where
  pg : PySem.W.plainGet K C Str.empty = true
  hd : PySem.W.hasDictIn K C = true
  po : PySem.W.plainOver K C = true
  sa : PySem.W.findIn K (.ref C) "__setattr__" = some (some (.builtin "object.__setattr__"))
theorem Cls.get {K : PySem.W.Frag} {C : Addr} (c : Cls K C) (f : Str) : PySem.W.plainGet K C f = true := c.pg
/-  no class of it has the name -/
def NoAttr (K : PySem.W.Frag) (C : Addr) (f : Str) : Prop := PySem.W.findIn K (.ref C) f = some none
theorem NoAttr.taker {K : PySem.W.Frag} {C : Addr} {f : Str} (n : NoAttr K C f) : PySem.W.takerIn K C f = some none := by
  unfold PySem.W.takerIn
  rw [show PySem.W.findIn K (.ref C) f = some none from n]
  rfl
/-  a constant of the class -/
structure Con (K : PySem.W.Frag) (C : Addr) (f : Str) (v : V) (u : Value) : Prop where
  at_ : PySem.W.findIn K (.ref C) f = some (some u)
  rel : RelV v u
  get : PySem.W.specialIn K u "__get__" = some none
  cp : PySem.W.copiedNames.contains f = false
/-  a method: a plain def of the class or of one above it -/
structure Meth (K : PySem.W.Frag) (C : Addr) (m : Str) (f : Addr) : Prop where
  at_ : PySem.W.findIn K (.ref C) m = some (some (.ref f))
  fn : PySem.W.isFn K (.ref f) = true
  kp : PySem.W.keepIn K (.ref f) = true

section
variable {X : Cx} {pins : List (Addr × Obj)} {σ : St} {H : Hp} {s : Shared} {a C dx : Addr} {fs : List (Str × V)} {f : Str} {v : V} {A : Around} {E : Value → Shared → Prop}

theorem getattr_ok {b : Bool} {Q : Value → Shared → Prop} (I : Inv X pins σ H s) (e : H a = some (.ins C dx fs)) (c : Cls X.K C) (n : NoAttr X.K C f) (l : fs.lookup f = some v)
    (h : ∀ u s', Inv X pins σ H s' → RelV v u → Q u s') : wpAny (model X.prog X.w) A (getAttr (.ref a) f b) Q E s := by
  obtain ⟨mA, O, r, _, _, _⟩ := ins_get I.hok e
  obtain ⟨u, hu, ru⟩ := RelO.some_of (v := v) (o := mA f) (by rw [← l]; exact r f)
  exact get_map I.kIn O (c.get f) c.hd n hu (handed_of ru) (h u _ (I.tok _) ru)

theorem getmeth_ok {m : Str} {g : Addr} {pl : Sem Bool} {Q : Value × List Value → Shared → Prop} (I : Inv X pins σ H s) (e : H a = some (.ins C dx fs)) (c : Cls X.K C) (k : Meth X.K C m g) (l : fs.lookup m = none)
    (h : Q (.ref g, [.ref a]) s) : wpAny (model X.prog X.w) A (getMethod (.ref a) m pl) Q E s := by
  obtain ⟨mA, O, r, _, _, _⟩ := ins_get I.hok e
  have hn : mA m = none := RelO.none_of (by rw [← l]; exact r m)
  exact get_meth I.kIn O (c.get m) k.at_ k.fn hn h

theorem setattr_ok {y : V} {u : Value} {Q : Unit → Shared → Prop} (I : Inv X pins σ H s) (e : H a = some (.ins C dx fs)) (c : Cls X.K C) (n : NoAttr X.K C f) (hl : fs.length < 1000) (ry : RelV y u)
    (h : ∀ s', Inv X pins σ (upd H a (.ins C dx (putF f y fs))) s' → Q () s') : wpAny (model X.prog X.w) A (setAttr (.ref a) f u) Q E s := by
  obtain ⟨mA, O, r, wi, _, ho⟩ := ins_get I.hok e
  have hz : (fs.map (·.1)).length ≤ sizeLine := by rw [List.length_map, sizeLine_eq]; omega
  refine set_map I.kIn O c.sa c.po n.taker c.hd wi hz fun h' O' sb => h _ ?_
  have hd : ∃ o, h'.get? dx = some o := let ⟨o, _, _, e', _⟩ := O'.ns; ⟨o, e'⟩
  refine I.write (x := a) (e := dx) (by rw [e]; exact True.intro) (.inr ho) (fun b q hb z => (sb.2 b hb).trans z) hd ?_
  refine ⟨by rw [upd_ne O.ne]; exact ho, ?_, O.ne, O'.obj, _, O'.ns, fun g => ?_, fun g hg => ?_⟩
  · have := length_putF f y fs; omega
  · show RelO ((putF f y fs).lookup g) (if g = f then some u else mA g)
    rw [lookup_putF]
    by_cases q : g = f
    · rw [if_pos q, if_pos q]; exact ry
    · rw [if_neg q, if_neg q]; exact r g
  · by_cases q : g = f
    · rw [q]; exact (keys_putF f y fs).1
    · refine (keys_putF f y fs).2 g (wi g fun z => hg ?_)
      show (if g = f then some u else mA g) = none
      rw [if_neg q]; exact z

/-  a new instance, tracked, without attributes -/
theorem Inv.made (I : Inv X pins σ H s) : Inv X pins σ (upd (upd H s.heap.objs.size (.own (s.heap.objs.size + 1))) (s.heap.objs.size + 1) (.ins C s.heap.objs.size []))
    { s with heap := (s.heap.push PySem.W.emptyDict).push (PySem.W.instObj C s.heap.objs.size) } := by
  have e1 : (s.heap.push PySem.W.emptyDict).get? s.heap.objs.size = some PySem.W.emptyDict := Heap.get?_push_size s.heap rfl
  have e2 : ((s.heap.push PySem.W.emptyDict).push (PySem.W.instObj C s.heap.objs.size)).get? (s.heap.objs.size + 1) = some (PySem.W.instObj C s.heap.objs.size) := by
    have := Heap.get?_push_size (s.heap.push PySem.W.emptyDict) (o := PySem.W.instObj C s.heap.objs.size) rfl
    rwa [Heap.size_push] at this
  have e3 : (s.heap.push PySem.W.emptyDict).Ns s.heap.objs.size (fun _ => none) := ⟨PySem.W.emptyDict, #[], _, e1, rfl, (fun e he => absurd he (by simp)), fun _ => rfl⟩
  have I1 := I.laid (a := s.heap.objs.size) (o := .own (s.heap.objs.size + 1)) (h' := s.heap.push PySem.W.emptyDict) (t' := s.toks) (fun b u q => Heap.get?_push_of_some _ q) (Nat.le_refl _) ⟨_, e1⟩
  refine I1.laid (a := s.heap.objs.size + 1) (o := .ins C s.heap.objs.size []) (t' := s.toks) (fun b u q => Heap.get?_push_of_some _ q) (Nat.le_of_eq (Heap.size_push _ _)) ?_
  have ne : s.heap.objs.size ≠ s.heap.objs.size + 1 := Nat.ne_of_lt (Nat.lt_succ_self _)
  refine ⟨by rw [upd_ne ne, upd_same], Nat.zero_le _, ne, e2, fun _ => none, (Heap.Ns1.of_empty e3).at fun o q => Heap.get?_push_of_some _ q, fun _ => True.intro, fun y hy => absurd rfl hy⟩

/-  e.f where nothing but the object is asked: through attributeBase (super) and the last hold -/
theorem attr_of {prog : Program} {w : World} {env : Env} {e : Expr} {f : Str} {pos : Pos} {s : Shared} {Q : Value → Shared → Prop} (hb : attributeBase e f env (eval e env) = eval e env)
    (h : wpAny (model prog w) A (eval e env) (fun o s₁ => wpAny (model prog w) A (getAttr o f true) Q E s₁) E s) : wpAny (model prog w) A (eval (.Attribute e f pos) env) Q E s :=
  Attribute_any_ h (by rw [arm_eval_Attribute, hb])
end

/-! ### readings and rules -/
/-  e.f, an attribute of the instance -/
def tFld (K : PySem.W.Frag) (ta : TE) (f : Str) : TE := fun σ H Q => ta σ H fun x H1 => ∃ a C dx fs v, x = .ref a ∧ H1 a = some (.ins C dx fs) ∧ Cls K C ∧ NoAttr K C f ∧ fs.lookup f = some v ∧ Q v H1
/-  e.f, a constant of the class -/
def tCon (K : PySem.W.Frag) (ta : TE) (f : Str) : TE := fun σ H Q => ta σ H fun x H1 => ∃ a C dx fs v u, x = .ref a ∧ H1 a = some (.ins C dx fs) ∧ Cls K C ∧ Con K C f v u ∧ fs.lookup f = none ∧ Q v H1
/-  e.f = value -/
def sFld (K : PySem.W.Frag) (ta tv : TE) (f : Str) : TS := fun D σ H => tv σ H fun y H1 => ta σ H1 fun x H2 => ∃ a C dx fs, x = .ref a ∧ H2 a = some (.ins C dx fs) ∧ Cls K C ∧ NoAttr K C f ∧ fs.length < 1000 ∧
  D.nx σ (upd H2 a (.ins C dx (putF f y fs)))
/-  an augmented operator on two values -/
def InOp (X : Cx) (op : Operator) (rd : V → V → Hp → VK → Prop) : Prop :=
  ∀ (pins : List (Addr × Obj)) (s : Shared) (σ : St) (H : Hp) (x y : V) (u v : Value) (Q : VK), Inv X pins σ H s → RelV x u → RelV y v → rd x y H Q → wpAny (model X.prog X.w) X.A (inplaceOp op u v) (EP X pins σ Q) X.xe s
/-  e.f op= value -/
def sFldAug (K : PySem.W.Frag) (ta tv : TE) (rd : V → V → Hp → VK → Prop) (f : Str) : TS := fun D σ H => ta σ H fun x H1 => ∃ a C dx fs v, x = .ref a ∧ H1 a = some (.ins C dx fs) ∧ Cls K C ∧ NoAttr K C f ∧ fs.lookup f = some v ∧
  tv σ H1 fun y H2 => rd v y H2 fun z H3 => ∃ dx' fs', H3 a = some (.ins C dx' fs') ∧ fs'.length < 1000 ∧ D.nx σ (upd H3 a (.ins C dx' (putF f z fs')))

section
variable {X : Cx} {o e value : Expr} {f : Str} {pos pos' tpos : Pos} {ta tv : TE}
theorem pe_fld (he : PE X e ta) (hb : attributeBase e f X.env (eval e X.env) = eval e X.env) : PE X (.Attribute e f pos) (tFld X.K ta f) := by
  intro pins s σ H Q I h
  refine attr_of hb (thn (he pins s σ H _ I h) fun u s1 ⟨x, H1, I1, rx, a, C, dx, fs, v, ex, ea, c, n, l, q⟩ => ?_)
  subst ex
  obtain rfl : u = Value.ref a := rx
  exact getattr_ok I1 ea c n l fun u' s2 I2 ru => ⟨v, H1, I2, ru, q⟩
theorem ps_fld (ha : PE X o ta) (hv : PE X value tv) (hs : swapsWith value (some (.Attribute o f pos')) pos.line X.env = pure false) : PS X (.Assign [.Attribute o f pos'] value pos) (sFld X.K ta tv f) := by
  intro pins s σ H D I h
  refine plainObj_wpAny_Assign_Attribute (thn (hv pins s σ H _ I h) fun u s1 ⟨y, H1, I1, ry, q⟩ => thn (ha pins s1 σ H1 _ I1 q) fun ov s2 ⟨x, H2, I2, rx, a, C, dx, fs, ex, ea, c, n, l, q2⟩ => ?_) hs
  subst ex
  obtain rfl : ov = Value.ref a := rx
  exact setattr_ok I2 ea c n l ry fun s3 I3 => ⟨σ, _, I3, q2⟩
def rAdd : V → V → Hp → VK → Prop := fun x y H Q => ∃ i j, x = .int i ∧ y = .int j ∧ Q (.int (i + j)) H
def rSub : V → V → Hp → VK → Prop := fun x y H Q => ∃ i j, x = .int i ∧ y = .int j ∧ Q (.int (i - j)) H
/-  what is between an instance and its method: the tree of a method call -/
end

/-! ### isinstance -/
section
variable {X : Cx} {pins : List (Addr × Obj)} {σ : St} {H : Hp} {s : Shared} {A : Around} {E : Value → Shared → Prop} {Q : Value → Shared → Prop} {c : Value} {b : Bool}
/-  the type of a value, as the fragment's deciders take it; for an instance its class -/
inductive TyOf (K : PySem.W.Frag) (H : Hp) : V → Value → Prop where
  | non : TyOf K H .non (.type "NoneType")
  | bl (x : Bool) : TyOf K H (.bl x) (.type "bool")
  | int (i : Int) : TyOf K H (.int i) (.type "int")
  | str (x : Str) : TyOf K H (.str x) (.type "str")
  | flt (x : UInt64) : TyOf K H (.flt x) (.type "float")
  | lst {a : Addr} {xs : List V} (e : H a = some (.lst xs)) : TyOf K H (.ref a) (.type "list")
  | frz {a : Addr} {o : Obj} {xs : List V} (e : H a = some (.frz o (.lst xs))) : TyOf K H (.ref a) (.type "list")
  | tup {a : Addr} {xs : List V} (e : H a = some (.tup xs)) : TyOf K H (.ref a) (.type "tuple")
  | dK {a : Addr} {kvs : List (Key × V)} (e : H a = some (.dK kvs)) : TyOf K H (.ref a) (.type "dict")
  | dT {a : Addr} {kvs : List (List Key × V)} (e : H a = some (.dT kvs)) : TyOf K H (.ref a) (.type "dict")
  | ins {a C dx : Addr} {fs : List (Str × V)} (e : H a = some (.ins C dx fs)) (cl : Cls K C) (ha : PySem.W.findIn K (.ref C) "__class__" = some (some (.builtin "object.__class__")))
      (hn : PySem.W.specialIn K (.builtin "object.__class__") "__get__" = some (some (.builtin "getset_descriptor.__get__"))) (htk : PySem.W.takesIn K (.builtin "object.__class__") = some true)
      (hm : PySem.W.mroIn K C (.type "object") = some true) : TyOf K H (.ref a) (.ref C)
/-  isinstance(x, c) for one class c, a built-in or an own one: kitOne's answer -/
theorem isinst_ok {x : V} {u t : Value} (I : Inv X pins σ H s) (rx : RelV x u) (ty : TyOf X.K H x t) (e : PySem.W.kitOne X.K t c = some b) (h : ∀ tk, Q (.bool b) { s with toks := tk }) :
    wpAny (model X.prog X.w) A (call (.builtin "isinstance") [u, c]) Q E s := by
  cases ty with
  | non => cases (show u = Value.none from rx); exact PySem.W.kia_one PySem.W.kitx_none I.kIn True.intro e (fun z => nomatch z) h
  | bl y => cases (show u = Value.bool y from rx); exact PySem.W.kia_one PySem.W.kitx_bool I.kIn True.intro e (fun z => nomatch z) h
  | int i => obtain ⟨t, q⟩ := (show ∃ t, u = Value.int i t from rx); cases q; exact PySem.W.kia_one PySem.W.kitx_int I.kIn True.intro e (fun z => nomatch z) h
  | str y => obtain ⟨t, q⟩ := (show ∃ t, u = Value.str y t from rx); cases q; exact PySem.W.kia_one PySem.W.kitx_str I.kIn True.intro e (fun z => nomatch z) h
  | flt y => obtain ⟨t, q⟩ := (show ∃ t, u = Value.float y t from rx); cases q; exact PySem.W.kia_one PySem.W.kitx_float I.kIn True.intro e (fun z => nomatch z) h
  | @lst a xs ea =>
    cases (show u = Value.ref a from rx)
    obtain ⟨_, _, n, _, h1⟩ := (show ObjOk X.prog X.w H s.heap a (.lst xs) from I.hok a _ ea)
    exact PySem.W.kia_one PySem.W.kitx_list I.kIn ⟨_, h1, rfl⟩ e (fun z => nomatch z) h
  | @frz a ob xs ea =>
    cases (show u = Value.ref a from rx)
    obtain ⟨_, _, _, n, _, h1⟩ := (show ObjOk X.prog X.w H s.heap a (.frz ob (.lst xs)) from I.hok a _ ea)
    exact PySem.W.kia_one PySem.W.kitx_list I.kIn ⟨_, h1, rfl⟩ e (fun z => nomatch z) h
  | @tup a xs ea =>
    cases (show u = Value.ref a from rx)
    obtain ⟨_, _, _, p⟩ := (show ObjOk X.prog X.w H s.heap a (.tup xs) from I.hok a _ ea)
    obtain ⟨o, h1, h2, _⟩ := p
    exact PySem.W.kia_one PySem.W.kitx_tuple I.kIn ⟨o, h1, h2⟩ e (fun z => nomatch z) h
  | @dK a kvs ea =>
    cases (show u = Value.ref a from rx)
    obtain ⟨_, _, vs, _, p⟩ := (show ObjOk X.prog X.w H s.heap a (.dK kvs) from I.hok a _ ea)
    obtain ⟨o, es, ep, h1, h2, _⟩ := p
    exact PySem.W.kia_one PySem.W.kitx_dict I.kIn ⟨o, h1, h2.1⟩ e (fun z => nomatch z) h
  | @dT a kvs ea =>
    cases (show u = Value.ref a from rx)
    obtain ⟨_, _, xs, _, o, es, ep, h1, h2, _⟩ := (show ObjOk X.prog X.w H s.heap a (.dT kvs) from I.hok a _ ea)
    exact PySem.W.kia_one PySem.W.kitx_dict I.kIn ⟨o, h1, h2.1⟩ e (fun z => nomatch z) h
  | @ins a C dx fs ea cl ha hn htk hm =>
    cases (show u = Value.ref a from rx)
    obtain ⟨mA, O, _⟩ := ins_get I.hok ea
    obtain ⟨od, J, _⟩ := O.look
    exact PySem.W.kia_one (PySem.W.kitx_own (cl.get _) cl.hd ha hn htk hm) I.kIn J e (fun z => nomatch z) h
end
end L2

namespace L2
open PySem PySem.Spec PyProof.Rows

/-! ### room -/
structure Room (k : Nat) (A : Around) : Prop where
  hd : A.handled = none
  dp : A.depth + 3 * k + 5 < recursionLimit
  un : A.units + 16 * k + 200 < cLine
theorem Room.mono {j k : Nat} {A : Around} (r : Room k A) (h : j ≤ k) : Room j A := ⟨r.hd, by have := r.dp; omega, by have := r.un; omega⟩
theorem Room.deeper {k : Nat} {A : Around} (r : Room (k + 1) A) (env : Env) : Room k (A.deeper env) :=
  ⟨r.hd, by have := r.dp; show A.depth + 1 + 3 * k + 5 < _; omega, by have := r.un; show A.units + 3 + 16 * k + 200 < _; omega⟩
theorem make_depth {A : Around} {C : Addr} {us : List Value} {kw : List (Str × Value)} : (A.under (.builtin "type.__call__" ⟨.ref C :: us, kw⟩)).depth = A.depth + 1 := by
  first | rfl | simp [Around.under, Code.weight, Code.isCreation, Code.isGuard, Code.isCaller, Code.frames, Code.isFrame, guardIds]
theorem make_units {A : Around} {C : Addr} {us : List Value} {kw : List (Str × Value)} : (A.under (.builtin "type.__call__" ⟨.ref C :: us, kw⟩)).units = A.units + 1 := by
  first | rfl | simp [Around.under, Code.cUnits, Code.frames, Code.isFrame]
theorem Room.make {k : Nat} {A : Around} (r : Room (k + 1) A) (C : Addr) (us : List Value) (kw : List (Str × Value)) : Room k (A.under (.builtin "type.__call__" ⟨.ref C :: us, kw⟩)) :=
  ⟨r.hd, by have := r.dp; rw [make_depth]; omega, by have := r.un; rw [make_units]; omega⟩
theorem Room.depth {k : Nat} {A : Around} (r : Room k A) : A.depth < recursionLimit := by have := r.dp; omega
theorem Room.units {k : Nat} {A : Around} (r : Room k A) : A.units + 64 < cLine := by have := r.un; omega
/-! ### argument lists and displays -/
def tNil : TA := fun _ H Q => Q [] H
def tCons (ta : TE) (tr : TA) : TA := fun σ H Q => ta σ H fun x H1 => tr σ H1 fun xs H2 => Q (x :: xs) H2
section
variable {X : Cx} {e : Expr} {es : List Expr} {te : TE} {t : TA} {pos : Pos}
theorem pa_nil : PA X [] tNil := fun _ _ _ _ H Q I h => Calls.spliced_nil ⟨[], H, I, .nil, h⟩
theorem pa_cons (ha : PE X e te) (hr : PA X es t) (hs : starEach (e :: es) X.env = (false, eval e X.env) :: starEach es X.env := by rfl) : PA X (e :: es) (tCons te t) := by
  intro pos pins s σ H Q I h
  rw [hs]
  show wpAny _ _ (spliced ((false, eval e X.env) :: backTo pos (starEach es X.env))) _ _ s
  refine Calls.spliced_cons (thn (ha pins s σ H _ I h) fun u s1 ⟨x, H1, I1, r1, q1⟩ => ?_)
  exact thn (hr pos pins s1 σ H1 _ I1 q1) fun us s2 ⟨xs, H2, I2, r2, q2⟩ => ⟨x :: xs, H2, I2, .cons r1 r2, q2⟩

/-  a tuple, a list of written items -/
def tTup (t : TA) : TE := fun σ H Q => t σ H fun xs H1 => xs.length ≤ sizeLine ∧ ∀ p, H1 p = none → Q (.ref p) (upd H1 p (.tup xs))
def tLst (t : TA) : TE := fun σ H Q => t σ H fun xs H1 => xs.length ≤ sizeLine ∧ ∀ p, H1 p = none → Q (.ref p) (upd H1 p (.lst xs))
theorem pe_tup {x1} (h : PA X es t) : PE X (.Tuple es x1 pos) (tTup t) := by
  intro pins s σ H Q I hq
  refine wpAny_Tuple_spliced (thn (h pos pins s σ H _ I hq) fun us s1 ⟨xs, H1, I1, r, z, q⟩ => ⟨by rw [← r.length]; exact z, ?_⟩)
  have hf : H1 s1.heap.objs.size = none := I1.hok.fresh (Nat.le_refl _)
  refine ⟨.ref s1.heap.objs.size, upd H1 s1.heap.objs.size (.tup xs), I1.laid (t' := s1.toks) (fun b u e => Heap.get?_push_of_some _ e) (Nat.le_refl _) ?_, rfl, q _ hf⟩
  exact ⟨z, us, r, ⟨_, Heap.get?_push_size _ rfl, rfl, _, rfl⟩⟩
theorem pe_lst (h : PA X es t) : PE X (.List es pos) (tLst t) := by
  intro pins s σ H Q I hq
  refine wpAny_List_spliced (thn (h pos pins s σ H _ I hq) fun us s1 ⟨xs, H1, I1, r, z, q⟩ => ⟨by rw [← r.length]; exact z, ?_⟩)
  have hf : H1 s1.heap.objs.size = none := I1.hok.fresh (Nat.le_refl _)
  refine ⟨.ref s1.heap.objs.size, upd H1 s1.heap.objs.size (.lst xs), I1.laid (t' := s1.toks) (fun b u e => Heap.get?_push_of_some _ e) (Nat.le_refl _) ?_, rfl, q _ hf⟩
  exact ⟨z, us, 0, r, Heap.get?_push_size _ rfl⟩
end

/-! ### what a def promises -/
/-  a def's promise: the bound arguments in the parameters' order, the heap, the wanted end, the wanted exception -/
abbrev Sp := List V → Hp → VK → XK → Prop
/-  how an exception lies behind a call (file 08 gives it): the callers' frames, abstract heap and state ahead of the call, the wish, the exception, the state -/
abbrev CXT := List Env → Hp → Shared → XK → Value → Shared → Prop

/-  the state at a call -/
structure Env0 (P : Program) (w : World) (K : PySem.W.Frag) (mg : Str → Option Value) (base : Heap) (A : Around) (outer : List Env) (s : Shared) (H : Hp) : Prop where
  frames : A.frames = some outer
  mod : Mod K mg base
  bs : ∀ b o, base.get? b = some o → s.heap.get? b = some o ∧ H b = none
  bsz : base.objs.size ≤ s.heap.objs.size
  funs : s.heap.FunFrames base outer
  frf : ∀ b ∈ frs outer, H b = none
  hok : HOk P w H s.heap
  bare : AllBare s.gens
/-  a call's end -/
def CE (outer : List Env) (P : Program) (w : World) (H : Hp) (s : Shared) (Q : VK) (u : Value) (s' : Shared) : Prop :=
  ∃ v H', s'.os = s.os ∧ AllBare s'.gens ∧ Un (frs outer) [] H H' s.heap s'.heap ∧ HOk P w H' s'.heap ∧ RelV v u ∧ Q v H'
def CR (CX : CXT) (outer : List Env) (P : Program) (w : World) (H : Hp) (s : Shared) (Q : VK) (E : XK) (r : Result) (s' : Shared) : Prop :=
  match r with
  | .ok (.ret u) => CE outer P w H s Q u s'
  | .ok _ => False
  | .error e => CX outer H s E e s'
structure FnOk (P : Program) (w : World) (K : PySem.W.Frag) (mg : Str → Option Value) (base : Heap) (CX : CXT) (k : Nat) (f : Addr) (fd : FuncData) (ps : List Str) (sp : Sp) : Prop where
  len : ∀ vs H Q E, sp vs H Q E → vs.length = ps.length
  run : ∀ (A : Around) (outer : List Env) (s : Shared) (H : Hp) (args : Args) (us : List Value) (vs : List V) (Q : VK) (E : XK), Room k A → Env0 P w K mg base A outer s H → BindsTo s fd args (ps.zip us) → Vals vs us → sp vs H Q E →
    codeAny (model P w) A (.call (.ref f) args) (CR CX outer P w H s Q E) s
/-  a weaker promise -/
theorem Env0.make {P : Program} {w : World} {K : PySem.W.Frag} {mg : Str → Option Value} {base : Heap} {A : Around} {outer : List Env} {s : Shared} {H : Hp} (e : Env0 P w K mg base A outer s H) (C : Addr) (us : List Value) (kw : List (Str × Value)) :
    Env0 P w K mg base (A.under (.builtin "type.__call__" ⟨.ref C :: us, kw⟩)) outer s H := ⟨by first | exact e.frames | (simpa [Around.under, Code.envs, Code.isFrame, pushEnvs] using e.frames), e.mod, e.bs, e.bsz, e.funs, e.frf, e.hok, e.bare⟩
section
variable {X : Cx} {pins : List (Addr × Obj)} {σ : St} {H : Hp} {s s' : Shared}
/-  from a body: what a callee wants -/
theorem Inv.env0 (I : Inv X pins σ H s) : Env0 X.prog X.w X.K X.mg X.base X.A X.stack s H :=
  ⟨I.ok.frames, I.ok.mod, I.bs, Nat.le_trans I.ok.bsz I.sz, I.stack, I.stkFree, I.hok, I.bare⟩
/-  behind a call -/
theorem Inv.after {Q : VK} {u : Value} (I : Inv X pins σ H s) (h : CE X.stack X.prog X.w H s Q u s') : EP X pins σ Q u s' := by
  obtain ⟨v, H', os, bare, un, hok, r, q⟩ := h
  obtain ⟨hh, g, d, t, os'⟩ := s'
  obtain rfl : os' = s.os := os
  exact ⟨v, H', I.call (h' := hh) (g' := g) (d' := d) (t' := t) (ch := []) un hok bare (fun b z => absurd z (by simp)), r, q⟩
end

/-! ### calls -/
/-  f(..): the written arguments, then the defaults dvs; E: what is wanted of an exception -/
def tCall (sp : Sp) (dvs : List V) (E : XK) (t : TA) : TE := fun σ H Q => t σ H fun vs H1 => sp (vs ++ dvs) H1 Q E
/-  o.m(..) of an instance of the class at C -/
def tMeth (C : Addr) (m : Str) (sp : Sp) (dvs : List V) (E : XK) (ta : TE) (t : TA) : TE := fun σ H Q => ta σ H fun x H1 => ∃ a dx fs, x = .ref a ∧ H1 a = some (.ins C dx fs) ∧ fs.lookup m = none ∧
  t σ H1 fun vs H2 => sp (x :: (vs ++ dvs)) H2 Q E
/-  C(..): a new instance and its dict, then __init__ -/
def tMake (C : Addr) (sp : Sp) (dvs : List V) (E : XK) (t : TA) : TE := fun σ H Q => t σ H fun vs H1 => ∀ x dx, H1 x = none → H1 dx = none → dx ≠ x →
  sp (.ref x :: (vs ++ dvs)) (upd (upd H1 dx (.own x)) x (.ins C dx [])) (fun v H2 => v = .non ∧ Q (.ref x) H2) E

/-  how the parameters are bound: us the positional arguments, kw the keywords' values by name, ds the defaults that fill up -/
def Binds (K : PySem.W.Frag) (fd : FuncData) (ps : List Str) (ds : List Value) : Prop :=
  ∀ (s : Shared) (us : List Value), K.In s.heap → (us ++ ds).length = ps.length → BindsTo s fd ⟨us, []⟩ (ps.zip (us ++ ds))
/-  every parameter is given -/
theorem Binds.all {K : PySem.W.Frag} {fd : FuncData} {ps : List Str} (h : ∀ us : List Value, us.length = ps.length → bindArgs fd ⟨us, []⟩ = pure (ps.zip us)) : Binds K fd ps [] := fun s us _ hl => by
  rw [List.append_nil] at hl ⊢
  exact .of_eq (h us hl)

/-  an exception of a callee reaches what this body wants of exceptions -/
def Passes (CX : CXT) (X : Cx) (E : XK) : Prop := ∀ (pins : List (Addr × Obj)) (σ : St) (H : Hp) (s : Shared) (e : Value) (s' : Shared), Inv X pins σ H s → CX X.stack H s E e s' → X.xe e s'

section
variable {X : Cx} {CX : CXT} {k : Nat} {f C : Addr} {fd : FuncData} {ps : List Str} {sp : Sp} {dvs : List V} {ds : List Value} {E : XK} {x m : Str} {p pos apos : Pos} {e o : Expr} {es : List Expr} {ta : TE} {t : TA}

/-  the callee runs -/
theorem run_fn {pins : List (Addr × Obj)} {σ : St} {H : Hp} {s : Shared} {Q : VK} {us : List Value} {vs : List V} (F : FnOk X.prog X.w X.K X.mg X.base CX k f fd ps sp) (hr : Room k X.A) (hb : Binds X.K fd ps ds) (hd : Vals dvs ds) (hx : Passes CX X E)
    (I : Inv X pins σ H s) (r : Vals vs us) (h : sp (vs ++ dvs) H Q E) : wpAny (model X.prog X.w) X.A (call (.ref f) us) (EP X pins σ Q) X.xe s := by
  have r2 : Vals (vs ++ dvs) (us ++ ds) := r.append hd
  have hl : (us ++ ds).length = ps.length := by rw [← r2.length]; exact F.len _ _ _ _ h
  refine wpAny_call (codeAny_mono (F.run X.A X.stack s H ⟨us, []⟩ (us ++ ds) (vs ++ dvs) Q E hr I.env0 (hb s us I.kIn hl) r2 h) fun r s' hq => ?_)
  cases r with
  | error e => exact hx pins σ H s e s' I hq
  | ok fl =>
    cases fl with
    | ret u => exact I.after hq
    | next => exact False.elim hq
    | brk => exact False.elim hq
    | cont => exact False.elim hq

theorem pe_call (F : FnOk X.prog X.w X.K X.mg X.base CX k f fd ps sp) (hr : Room k X.A) (hg : Gl X x) (hm : X.mg x = some (.ref f)) (hk : PySem.W.keepIn X.K (.ref f) = true) (hb : Binds X.K fd ps ds) (hd : Vals dvs ds) (hx : Passes CX X E)
    (ha : PA X (e :: es) t) (hdb : (x == ("__debug__" : Str)) = false := by decide) (he : starEach (e :: es) X.env = (false, eval e X.env) :: starEach es X.env := by rfl) (hpl : (backTo pos (starEach es X.env)).any (·.1) = false := by rfl) :
    PE X (.Call (.Name x p) (e :: es) [] pos) (tCall sp dvs E t) := by
  intro pins s σ H Q I h
  refine wpAny_Call_Name_kw (ld_glob I hg hm ?_ hdb)
  refine PySem.W.callWith_K (h₀ := X.base) I.ok.mod.kin hk (thn (ha pos pins s σ H _ I h) fun us s1 ⟨vs, H1, I1, r, q⟩ => ⟨I1.kIn, ?_⟩) he hpl
  exact run_fn F hr hb hd hx I1 r q
/-  o.m(e, ..) -/
theorem pe_meth {pl : Sem Bool} (he : PE X o ta) (c : Cls X.K C) (hm : Meth X.K C m f) (F : FnOk X.prog X.w X.K X.mg X.base CX k f fd ps sp) (hr : Room k X.A) (hb : Binds X.K fd ps ds) (hd : Vals dvs ds) (hx : Passes CX X E) (ha : PA X (e :: es) t)
    (hst : starEach (e :: es) X.env = (false, eval e X.env) :: starEach es X.env := by rfl) (hpl : (backTo pos (starEach es X.env)).any (·.1) = false := by rfl)
    (ht : eval (.Call (.Attribute o m apos) (e :: es) [] pos) X.env = (do
      let ov ← eval o X.env
      standAt apos.atName
      let (f, first) ← holding [ov] (getMethod ov m pl)
      callWith pos f first (backTo pos (starEach (e :: es) X.env)) (backToKw pos (keywordEach [] X.env))) := by rfl) :
    PE X (.Call (.Attribute o m apos) (e :: es) [] pos) (tMeth C m sp dvs E ta t) := by
  intro pins s σ H Q I h
  refine PySem.W.methodCall_KW (pl := pl) (thn (he pins s σ H _ I h) fun u s1 ⟨x, H1, I1, rx, a, dx, fs, ex, ea, l, q⟩ => ?_) ht
  subst ex
  obtain rfl : u = Value.ref a := rx
  refine getmeth_ok I1 ea c hm l ?_
  refine PySem.W.callWith_K (first := [.ref a]) (h₀ := X.base) I.ok.mod.kin hm.kp (thn (ha pos pins s1 σ H1 _ I1 q) fun us s2 ⟨vs, H2, I2, r, q2⟩ => ⟨I2.kIn, ?_⟩) hst hpl
  exact run_fn (us := .ref a :: us) (vs := .ref a :: vs) F hr hb hd hx I2 (.cons rfl r) q2
/-  o.m() -/
theorem pe_meth0 {pl : Sem Bool} (he : PE X o ta) (c : Cls X.K C) (hm : Meth X.K C m f) (F : FnOk X.prog X.w X.K X.mg X.base CX k f fd ps sp) (hr : Room k X.A) (hb : Binds X.K fd ps ds) (hd : Vals dvs ds) (hx : Passes CX X E)
    (ht : eval (.Call (.Attribute o m apos) [] [] pos) X.env = (do
      let ov ← eval o X.env
      standAt apos.atName
      let (f, first) ← holding [ov] (getMethod ov m pl)
      callWith pos f first (backTo pos (starEach [] X.env)) (backToKw pos (keywordEach [] X.env))) := by rfl) :
    PE X (.Call (.Attribute o m apos) [] [] pos) (tMeth C m sp dvs E ta tNil) := by
  intro pins s σ H Q I h
  refine PySem.W.methodCall_KW (pl := pl) (thn (he pins s σ H _ I h) fun u s1 ⟨x, H1, I1, rx, a, dx, fs, ex, ea, l, q⟩ => ?_) ht
  subst ex
  obtain rfl : u = Value.ref a := rx
  refine getmeth_ok I1 ea c hm l ?_
  exact PySem.W.callWith_K0 (first := [.ref a]) I1.kIn hm.kp (run_fn (us := [.ref a]) (vs := [.ref a]) F hr hb hd hx I1 (.cons rfl .nil) q)

/-  what a class must have to be made -/
structure Mk (K : PySem.W.Frag) (C f : Addr) : Prop where
  makes : PySem.W.makesIn K C = true
  init : PySem.W.findIn K (.ref C) "__init__" = some (some (.ref f))
  fn : PySem.W.isFn K (.ref f) = true
  kp : PySem.W.keepIn K (.ref C) = true

theorem run_make {pins : List (Addr × Obj)} {σ : St} {H : Hp} {s : Shared} {Q : VK} {us : List Value} {vs : List V} (M : Mk X.K C f) (F : FnOk X.prog X.w X.K X.mg X.base CX k f fd ps sp) (hr : Room (k + 1) X.A) (hb : Binds X.K fd ps ds) (hd : Vals dvs ds)
    (hx : Passes CX X E) (I : Inv X pins σ H s) (r : Vals vs us)
    (h : ∀ x dx, H x = none → H dx = none → dx ≠ x → sp (.ref x :: (vs ++ dvs)) (upd (upd H dx (.own x)) x (.ins C dx [])) (fun v H2 => v = .non ∧ Q (.ref x) H2) E) :
    wpAny (model X.prog X.w) X.A (call (.ref C) us) (EP X pins σ Q) X.xe s := by
  have hq := h (s.heap.objs.size + 1) s.heap.objs.size (I.hok.fresh (Nat.le_succ _)) (I.hok.fresh (Nat.le_refl _)) (Nat.ne_of_lt (Nat.lt_succ_self _))
  have I2 := Inv.made (C := C) I
  have r2 : Vals (V.ref (s.heap.objs.size + 1) :: (vs ++ dvs)) (Value.ref (s.heap.objs.size + 1) :: (us ++ ds)) := .cons rfl (r.append hd)
  have hl : (Value.ref (s.heap.objs.size + 1) :: us ++ ds).length = ps.length := by
    have e := r2.length
    rw [F.len _ _ _ _ hq] at e
    exact e.symm
  refine wpAny_call (make_map (f := f) I.kIn M.makes M.init (beq_iff_eq.mp M.fn) (codeAny_mono (F.run _ X.stack _ _ ⟨Value.ref (s.heap.objs.size + 1) :: us, []⟩ (Value.ref (s.heap.objs.size + 1) :: (us ++ ds)) _ _ E (hr.make C us [])
    (I2.env0.make C us []) (hb _ (Value.ref (s.heap.objs.size + 1) :: us) I2.kIn hl) r2 hq) fun r s' hq' => ?_))
  cases r with
  | error e => exact hx pins σ _ _ e s' I2 hq'
  | ok fl =>
    cases fl with
    | ret u =>
      obtain ⟨v, H', I3, rv, ev, q3⟩ := I2.after hq'
      subst ev
      exact ⟨rv, ⟨V.ref (s.heap.objs.size + 1), H', I3, rfl, q3⟩⟩
    | next => exact False.elim hq'
    | brk => exact False.elim hq'
    | cont => exact False.elim hq'
theorem pe_make (M : Mk X.K C f) (F : FnOk X.prog X.w X.K X.mg X.base CX k f fd ps sp) (hr : Room (k + 1) X.A) (hg : Gl X x) (hm : X.mg x = some (.ref C)) (hb : Binds X.K fd ps ds) (hd : Vals dvs ds) (hx : Passes CX X E)
    (ha : PA X (e :: es) t) (hdb : (x == ("__debug__" : Str)) = false := by decide) (he : starEach (e :: es) X.env = (false, eval e X.env) :: starEach es X.env := by rfl) (hpl : (backTo pos (starEach es X.env)).any (·.1) = false := by rfl) :
    PE X (.Call (.Name x p) (e :: es) [] pos) (tMake C sp dvs E t) := by
  intro pins s σ H Q I h
  refine wpAny_Call_Name_kw (ld_glob I hg hm ?_ hdb)
  refine PySem.W.callWith_K (h₀ := X.base) I.ok.mod.kin M.kp (thn (ha pos pins s σ H _ I h) fun us s1 ⟨vs, H1, I1, r, q⟩ => ⟨I1.kIn, ?_⟩) he hpl
  exact run_make M F hr hb hd hx I1 r q
end

/-! ### keywords -/
/-  the values of the keywords, from the left -/
def PK (X : Cx) (kws : List Keyword) (t : TA) : Prop :=
  ∀ (pos : Pos) (pins : List (Addr × Obj)) (s : Shared) (σ : St) (H : Hp) (Q : List V → Hp → Prop), Inv X pins σ H s → t σ H Q → wpAny (model X.prog X.w) X.A (evalAll ((backToKw pos (keywordEach kws X.env)).map (·.2))) (AP X pins σ Q) X.xe s
section
variable {X : Cx} {CX : CXT} {k : Nat} {f C : Addr} {fd : FuncData} {ps ks : List Str} {sp : Sp} {E : XK} {x m : Str} {p pos apos kpos : Pos} {e o : Expr} {es : List Expr} {kws : List Keyword} {te ta : TE} {t tk : TA} {nm : Option Str}
/-  how a call with keywords binds: g puts the positional values us and the keywords' values ws (names ks) in the parameters' order, defaults among them -/
structure KBinds (K : PySem.W.Frag) (fd : FuncData) (ps ks : List Str) (g : List Value → List Value → List Value) (gV : List V → List V → List V) : Prop where
  to : ∀ (s : Shared) (us ws : List Value), K.In s.heap → (g us ws).length = ps.length → BindsTo s fd ⟨us, ks.zip ws⟩ (ps.zip (g us ws))
  rel : ∀ {vs : List V} {us : List Value} {zs : List V} {ws : List Value}, Vals vs us → Vals zs ws → Vals (gV vs zs) (g us ws)
def tCallK (sp : Sp) (gV : List V → List V → List V) (E : XK) (t tk : TA) : TE := fun σ H Q => t σ H fun vs H1 => tk σ H1 fun zs H2 => sp (gV vs zs) H2 Q E
variable {g : List Value → List Value → List Value} {gV : List V → List V → List V}
/-  f(e, .., k = v, ..) -/
end

/-! ### a def's body keeps its promise -/
/-  names: the parameters first -/
structure FnScope (N P : List Str) (sc : Scope) : Prop where
  kind : sc.kind = .function
  co : sc.isCoroutine = false
  gen : sc.isGenerator = false
  nd : N.Nodup
  pre : N.take P.length = P
  par : ∀ x ∈ P, sc.names.lookup x = some .local ∨ sc.names.lookup x = some .cell
  nofree : ∀ y ∈ sc.names, y.2 ≠ .free

theorem bindL_out {kindOf : Str → Option NameKind} {x : Str} : ∀ {binds : List (Str × Value)} {m : Str → Option Value}, (∀ v, (x, v) ∉ binds) → bindL kindOf binds m x = m x
  | [], _, _ => rfl
  | (n, v) :: r, m, h => by
    unfold bindL
    rw [bindL_out fun w hw => h w (List.mem_cons_of_mem _ hw)]
    split
    · have : x ≠ n := by rintro rfl; exact h v List.mem_cons_self
      simp [this]
    · rfl
theorem bindC_out {kindOf : Str → Option NameKind} {x : Str} : ∀ {binds : List (Str × Value)} {m : Str → Option Value}, (∀ v, (x, v) ∉ binds) → bindC kindOf binds m x = m x
  | [], _, _ => rfl
  | (n, v) :: r, m, h => by
    unfold bindC
    rw [bindC_out fun w hw => h w (List.mem_cons_of_mem _ hw)]
    split
    · rfl
    · have : x ≠ n := by rintro rfl; exact h v List.mem_cons_self
      simp [this]
theorem bindL_get {kindOf : Str → Option NameKind} {x : Str} {v : Value} : ∀ {P : List Str} {vs : List Value} {i : Nat} {m : Str → Option Value}, P.Nodup → P[i]? = some x → vs[i]? = some v → kindOf x = some .local →
    bindL kindOf (P.zip vs) m x = some v
  | [], _, _, _, _, h, _, _ => by simp at h
  | _ :: _, [], _, _, _, _, h, _ => by simp at h
  | p :: P, w :: vs, 0, m, nd, h1, h2, hk => by
    simp at h1 h2; subst h1; subst h2
    show bindL kindOf ((p, w) :: P.zip vs) m p = _
    unfold bindL
    rw [bindL_out fun v hv => (List.nodup_cons.mp nd).1 (List.of_mem_zip hv).1, if_pos hk]
    simp
  | p :: P, w :: vs, i + 1, m, nd, h1, h2, hk => by
    show bindL kindOf ((p, w) :: P.zip vs) m x = _
    unfold bindL
    exact bindL_get (i := i) (List.nodup_cons.mp nd).2 (by simpa using h1) (by simpa using h2) hk
theorem bindC_get {kindOf : Str → Option NameKind} {x : Str} {v : Value} : ∀ {P : List Str} {vs : List Value} {i : Nat} {m : Str → Option Value}, P.Nodup → P[i]? = some x → vs[i]? = some v → kindOf x ≠ some .local →
    bindC kindOf (P.zip vs) m x = some v
  | [], _, _, _, _, h, _, _ => by simp at h
  | _ :: _, [], _, _, _, _, h, _ => by simp at h
  | p :: P, w :: vs, 0, m, nd, h1, h2, hk => by
    simp at h1 h2; subst h1; subst h2
    show bindC kindOf ((p, w) :: P.zip vs) m p = _
    unfold bindC
    rw [bindC_out fun v hv => (List.nodup_cons.mp nd).1 (List.of_mem_zip hv).1, if_neg hk]
    simp
  | p :: P, w :: vs, i + 1, m, nd, h1, h2, hk => by
    show bindC kindOf ((p, w) :: P.zip vs) m x = _
    unfold bindC
    exact bindC_get (i := i) (List.nodup_cons.mp nd).2 (by simpa using h1) (by simpa using h2) hk

/-  the names' values at the entry -/
def start (N : List Str) (vs : List V) : St := vs.map some ++ List.replicate (N.length - vs.length) none

/-  the context of a def's body, at its entry; an exception leaves the frame, then lies as CX says -/
def cxOf (CX : CXT) (P : Program) (w : World) (K : PySem.W.Frag) (mg : Str → Option Value) (base : Heap) (N : List Str) (qual : Str) (scope : Scope) (f : Addr) (cd : Value) (A : Around) (outer : List Env) (s : Shared) (H : Hp) (E : XK) : Cx where
  prog := P
  w := w
  K := K
  mg := mg
  base := base
  A := A.deeper (envOfC qual scope s.heap.objs.size f cd)
  N := N
  s₀ := s
  H₀ := H
  env := envOfC qual scope s.heap.objs.size f cd
  outer := outer
  stack := envOfC qual scope s.heap.objs.size f cd :: outer
  ex := []
  calm := true
  cp := fun _ => true
  fn := fun _ => true
  pn := []
  xe := fun e s' => wpAny (model P w) (A.deeper (envOfC qual scope s.heap.objs.size f cd)) (leaving (envOfC qual scope s.heap.objs.size f cd) e) (fun _ s'' => CX outer H s E e s'') (fun e' s'' => CX outer H s E e' s'') s'

theorem cell_has {sc : Scope} {n : Nat} {x : Str} (h : sc.names.lookup x = some .cell) : ∃ c, (cellsFrom n sc.names []).lookup x = some c := by
  have q := PySem.W.cellsFrom_some sc.names n [] (.inl h)
  exact Option.isSome_iff_exists.mp q

theorem inv_start {CX : CXT} {P : Program} {w : World} {K : PySem.W.Frag} {mg : Str → Option Value} {base : Heap} {N ps : List Str} {qual : Str} {scope : Scope} {f : Addr} {cd : Value} {A : Around} {outer : List Env} {s s1 : Shared} {H : Hp} {E : XK} {us : List Value} {vs : List V}
    (S : FnScope N ps scope) (hd : A.handled = none) (e0 : Env0 P w K mg base A outer s H) (hl : vs.length = ps.length) (r : Vals vs us)
    (x : InCallC s s.heap.objs.size (bindL (envOfC qual scope s.heap.objs.size f cd).kindOf (ps.zip us) fun _ => none) (cellsFrom (s.heap.objs.size + 1) scope.names []) (bindC (envOfC qual scope s.heap.objs.size f cd).kindOf (ps.zip us) fun _ => none) s1) :
    Inv (cxOf CX P w K mg base N qual scope f cd A outer s H E) [] (start N vs) H s1 := by
  have hpl : ps.length ≤ N.length := by have := congrArg List.length S.pre; rw [List.length_take] at this; omega
  obtain ⟨h1, tk, rfl, hk⟩ := x.done
  have noA : ∀ b : Addr, b ∉ (cxOf CX P w K mg base N qual scope f cd A outer s H E).ex := fun b z => absurd (show b ∈ ([] : List Addr) from z) (by simp)
  refine ⟨⟨e0.mod, S.kind, rfl, rfl, Nat.le_refl _, fun y z c h1 h2 => ?_, fun y hy => ?_, fun y c _ h => ?_, fun _ => hd, Around.frames_deeper e0.frames, .inr ⟨rfl, rfl⟩, fun b z => absurd z (noA b), e0.bs, e0.bsz, fun b _ _ => noA b, fun b z => absurd z (noA b), e0.funs, e0.frf, fun y c _ h => Nat.le_of_lt (x.above y c (PySem.mem_of_lookup h)), fun b hb => e0.hok.fresh hb⟩,
    rfl, e0.bare, Un.kept hk, ⟨_, x.toInCall.ns, fun i y v h1 h2 h3 => ?_⟩, fun y c h => ⟨_, x.cell y c h⟩, e0.hok.fresh (Nat.le_refl _), fun y c h => .inl ?_, fun p hp => absurd (show p ∈ ([] : List (Addr × Obj)) from hp) (by simp), e0.hok.kept hk, ?_⟩
  · exact name_of_addr x.apart (PySem.mem_of_lookup h1) (PySem.mem_of_lookup h2)
  · have hy : scope.names.lookup y = some .cell ∨ scope.names.lookup y = some .free := hy
    rcases hy with hy | hy
    · exact cell_has hy
    · exact absurd rfl (S.nofree _ (PySem.mem_of_lookup hy))
  · exact Nat.le_of_lt (x.above y c (PySem.mem_of_lookup h))
  · have hi : i < vs.length := by
      unfold start at h2
      by_cases hi : i < vs.length
      · exact hi
      · rw [List.getElem?_append_right (by simpa using hi)] at h2
        rw [List.getElem?_replicate] at h2
        split at h2 <;> cases h2
    have ha : vs[i]? = some v := by
      unfold start at h2
      rw [List.getElem?_append_left (by simpa using hi), List.getElem?_map] at h2
      cases e : vs[i]? with
      | none => rw [e] at h2; cases h2
      | some a => rw [e] at h2; cases h2; rfl
    obtain ⟨u, hu, rv⟩ := r.get ha
    have hp : ps[i]? = some y := by
      rw [← S.pre, List.getElem?_take_of_lt (by omega)]; exact h1
    have ndP : ps.Nodup := by rw [← S.pre]; exact S.nd.sublist (List.take_sublist _ _)
    refine ⟨u, rv, ?_⟩
    rcases S.par y (List.mem_of_getElem? hp) with k | k
    · exact .inl ⟨k, bindL_get ndP hp hu k⟩
    · obtain ⟨c, e⟩ := cell_has (n := s.heap.objs.size + 1) k
      refine .inr ⟨.inl k, c, e, ?_⟩
      have q := x.cell y c e
      rw [bindC_get ndP hp hu (by show scope.names.lookup y ≠ _; rw [k]; decide)] at q
      exact q
  · exact e0.hok.fresh (Nat.le_of_lt (x.above y c (PySem.mem_of_lookup h)))
  · unfold start
    show _ = N.length
    rw [List.length_append, List.length_map, List.length_replicate]
    omega

/-  THE RULE: a def (or a method) of the text, by its body. The body's reading t is chosen for each entry; it is run at the parameters' values -/
theorem fn_of {CX : CXT} {P : Program} {w : World} {K : PySem.W.Frag} {mg : Str → Option Value} {base : Heap} {k : Nat} {f : Addr} {name qual : Str} {params : Arguments} {body : List Stmt} {scope : Scope} {dV kV doc pm cdv ct oc : Value} {an od : Option Addr}
    {osl : Array (Option Value)} {N ps : List Str} {sp : Sp} (lk : K.lookup f = some ⟨oc, od, .func (PySem.W.fnOf name qual params body scope dV kV doc pm an cdv ct), osl⟩) (hcd : PySem.W.codeIn K cdv qual = true) (S : FnScope N ps scope)
    (len : ∀ vs H Q E, sp vs H Q E → vs.length = ps.length)
    (hbody : ∀ (A : Around) (outer : List Env) (s : Shared) (H : Hp) (vs : List V) (Q : VK) (E : XK), Room k (A.deeper (envOfC qual scope s.heap.objs.size f cdv)) → sp vs H Q E →
      ∃ t, PSs (cxOf CX P w K mg base N qual scope f cdv A outer s H E) body t ∧ t { nx := fun _ H' => Q .non H', rt := Q } (start N vs) H) :
    FnOk P w K mg base CX (k + 1) f (PySem.W.fnOf name qual params body scope dV kV doc pm an cdv ct) ps sp := by
  refine ⟨len, fun A outer s H args us vs Q E hr e0 hb r hsp => ?_⟩
  have hl := len _ _ _ _ hsp
  have KX : K.In s.heap := e0.mod.kin.keeps fun b o e => (e0.bs b o e).1
  have lim : s.heap.NoLimit := e0.mod.nolimit.keeps fun b o e => (e0.bs b o e).1
  have hkind : ∀ y ∈ ps.zip us, scope.names.lookup y.1 = some .local ∨ (scope.names.lookup y.1 = some .cell ∧ ((cellsFrom (s.heap.objs.size + 1) scope.names []).lookup y.1).isSome = true) := fun ⟨n, v⟩ hy => by
    rcases S.par n (List.of_mem_zip hy).1 with q | q
    · exact .inl q
    · exact .inr ⟨q, PySem.W.cellsFrom_some _ _ _ (.inl q)⟩
  refine codeAny_call_function hr.depth (KX _ _ lk) rfl S.co S.gen rfl (PySem.W.codeRec_of KX hcd) (hb _ _ _ _ ?_)
  refine wpAny_newFunctionEnv_cells S.kind hkind fun env he s1 x => ?_
  subst he
  refine ⟨lim.keeps x.toInCall.keep, codeAny_func ?_⟩
  obtain ⟨t, ht, hq⟩ := hbody A outer s H vs Q E (hr.deeper _) hsp
  have I : Inv (cxOf CX P w K mg base N qual scope f cdv A outer s H E) [] (start N vs) H s1 := inv_start S hr.hd e0 hl r x
  refine wpAny_mono (ht [] s1 (start N vs) H _ I hq) (fun fl s' hs => ?_) fun e s' hs => hs
  have fin : ∀ {σ' : St} {H' : Hp} {v : V} {u : Value}, Inv (cxOf CX P w K mg base N qual scope f cdv A outer s H E) [] σ' H' s' → RelV v u → Q v H' → CE outer P w H s Q u s' :=
    fun {σ' H' v u} J rv q => ⟨v, H', J.os, J.bare, J.base, J.hok, rv, q⟩
  cases fl with
  | ret u =>
    obtain ⟨v, σ', H', J, rv, q⟩ := hs
    exact fin J rv q
  | next =>
    obtain ⟨σ', H', J, q⟩ := hs
    exact fin (v := V.non) (u := Value.none) J rfl q
  | brk =>
    obtain ⟨_, _, _, q⟩ := hs
    exact False.elim q
  | cont =>
    obtain ⟨_, _, _, q⟩ := hs
    exact False.elim q
end L2

namespace L2
open PySem PySem.Spec PyProof.Rows
section
variable {X : Cx} {x : Str} {p pos : Pos} {e : Expr} {es : List Expr} {t : TA} {id T : String} {r : List V → Hp → VK → Prop}

def tCB (r : List V → Hp → VK → Prop) (t : TA) : TE := fun σ H Q => t σ H fun vs H1 => r vs H1 Q
/-  f(e, ..), f a built-in function -/
theorem pe_callB (hc : CallR X (.builtin id) r) (hg : Gl X x) (hm : X.mg x = none) (hv : bootBuiltins x = some (.builtin id)) (ha : PA X (e :: es) t) (hn : x ≠ "__name__" := by decide) (hdb : (x == ("__debug__" : Str)) = false := by decide)
    (he : starEach (e :: es) X.env = (false, eval e X.env) :: starEach es X.env := by rfl) (hpl : (backTo pos (starEach es X.env)).any (·.1) = false := by rfl) : PE X (.Call (.Name x p) (e :: es) [] pos) (tCB r t) := by
  intro pins s σ H Q I h
  refine wpAny_Call_Name_kw (ld_blt I hg hm hv ?_ hn hdb)
  exact PyProof.Rows.callWith_builtin1 (thn (ha pos pins s σ H _ I h) fun us s1 ⟨vs, H1, I1, r1, q1⟩ => hc pins s1 σ H1 vs us Q I1 r1 q1) he hpl
/-  T(e, ..), T a built-in type -/
theorem pe_callTy (hc : CallR X (.type T) r) (hg : Gl X x) (hm : X.mg x = none) (hv : bootBuiltins x = some (.type T)) (ha : PA X (e :: es) t) (hn : x ≠ "__name__" := by decide) (hdb : (x == ("__debug__" : Str)) = false := by decide)
    (he : starEach (e :: es) X.env = (false, eval e X.env) :: starEach es X.env := by rfl) (hpl : (backTo pos (starEach es X.env)).any (·.1) = false := by rfl) : PE X (.Call (.Name x p) (e :: es) [] pos) (tCB r t) := by
  intro pins s σ H Q I h
  refine wpAny_Call_Name_kw (ld_blt I hg hm hv ?_ hn hdb)
  exact PyProof.Rows.callWith_type1 (thn (ha pos pins s σ H _ I h) fun us s1 ⟨vs, H1, I1, r1, q1⟩ => hc pins s1 σ H1 vs us Q I1 r1 q1) he hpl
/-  T() -/
end
end L2

namespace HT
open PySem PyProof.Rows

/-  t < u of tuples of ints -/
def lexLt : List Int → List Int → Bool
  | [], [] => false
  | [], _ :: _ => true
  | _ :: _, [] => false
  | x :: xs, y :: ys => if x = y then lexLt xs ys else decide (x < y)
section
open PySem.SeqAt
open PySem.AutoSeq1 (wpAny_loadPart')
open PySem.MeetsSeq PySem.MeetsSeq2 PySem.MeetsSeq3

end

section
variable {prog : Program} {w : World} {A : Around} {E : Value → Shared → Prop} {s : Shared}

/-  t + u, t not empty -/
/-! ### t[a:b], not the whole -/
/-  a slice's bound as a place among n (d where it is left out) -/
def sIx (n d : Nat) : Option Int → Nat
  | none => d
  | some v => if v < 0 then (v + (n : Int)).toNat else min v.toNat n
theorem sIx_none (n d : Nat) : sIx n d none = d := rfl
end
end HT

namespace L2
open PySem PySem.Spec PyProof.Rows

/-! ### the parts of a slice -/
abbrev TO := St → Hp → (Option Int → Hp → Prop) → Prop
/-  a slice's part (left out, or an int) -/
def PO (X : Cx) (e : Option Expr) (t : TO) : Prop :=
  ∀ (pins : List (Addr × Obj)) (s : Shared) (σ : St) (H : Hp) (Q : Option Int → Hp → Prop), Inv X pins σ H s → t σ H Q →
    wpAny (model X.prog X.w) X.A (evalPart e X.env) (fun u s' => ∃ o H', Inv X pins σ H' s' ∧ IsPart u o ∧ Q o H') X.xe s
def tNoPart : TO := fun _ H Q => Q none H
def tPart (t : TE) : TO := fun σ H Q => t σ H fun x H1 => ∃ i, x = .int i ∧ Q (some i) H1

theorem intsAre_of {ns : List Int} : ∀ {us : List Value}, Vals (ns.map V.int) us → IntsAre us ns := by
  induction ns with
  | nil => intro us r; rw [List.map_nil] at r; cases r; exact .nil
  | cons n ns ih =>
    intro us r
    rw [List.map_cons] at r
    cases r with
    | cons r1 r2 =>
      obtain ⟨t, e⟩ := r1
      subst e
      exact .cons n t (ih r2)

section
variable {X : Cx} {e : Expr} {te : TE} {lo hi : Option Expr} {tl th : TO} {pos p2 : Pos}

theorem po_none : PO X none tNoPart := by
  intro pins s σ H Q I h
  rw [evalPart_none]
  exact wpAny_pure ⟨none, H, I, .none, h⟩
theorem po_some (h : PE X e te) : PO X (some e) (tPart te) := by
  intro pins s σ H Q I hw
  rw [evalPart_some]
  refine thn (h pins s σ H _ I hw) fun u s1 ⟨x, H1, I1, r1, q1⟩ => ?_
  obtain ⟨i, rfl, q⟩ := q1
  obtain ⟨t, rfl⟩ := r1
  exact ⟨some i, H1, I1, .int i t, q⟩

/-  what a slice of a value is, by values: the slice object stands at sl -/
def SlR (X : Cx) (r : V → Option Int → Option Int → Hp → VK → Prop) : Prop :=
  ∀ (pins : List (Addr × Obj)) (s : Shared) (σ : St) (H : Hp) (x : V) (v vl vu : Value) (lo hi : Option Int) (sl : Addr) (Q : VK), Inv X pins σ H s → RelV x v → s.heap.IsSliceOf sl vl vu .none → IsPart vl lo → IsPart vu hi → r x lo hi H Q →
    ∃ T id, typeLookup (.type T) "__getitem__" = pure (some (.builtin id)) ∧ s.TypeIs v T ∧ wpAny (model X.prog X.w) X.A (getItem v (.ref sl)) (EP X pins σ Q) X.xe s
def tSl (r : V → Option Int → Option Int → Hp → VK → Prop) (te : TE) (tl th : TO) : TE := fun σ H Q => te σ H fun x H1 => tl σ H1 fun l H2 => th σ H2 fun u H3 => r x l u H3 Q
/-  a[lo:hi], any a -/
theorem pe_slice {r : V → Option Int → Option Int → Hp → VK → Prop} (hr : SlR X r) (he : PE X e te) (hl : PO X lo tl) (hu : PO X hi th) : PE X (.Subscript e (.Slice lo hi none p2) pos) (tSl r te tl th) := by
  intro pins s σ H Q I h
  refine Subscript_ (thn (he pins s σ H _ I h) fun v s1 ⟨x, H1, I1, r1, q1⟩ => ?_)
  refine wpAny_Slice (thn (hl pins s1 σ H1 _ I1 q1) fun vl s2 ⟨l, H2, I2, pl, q2⟩ => thn (hu pins s2 σ H2 _ I2 q2) fun vu s3 ⟨u, H3, I3, pu, q3⟩ => ?_)
  rw [evalPart_none]
  refine wpAny_pure ?_
  have I4 : Inv X pins σ H3 { s3 with heap := s3.heap.push { cls := .type "slice", data := .fields #[vl, vu, .none] } } := I3.kept (t' := s3.toks) fun b ob q => Heap.get?_push_of_some _ q
  obtain ⟨T, id, hT, ht, hg⟩ := hr pins { s3 with heap := s3.heap.push { cls := .type "slice", data := .fields #[vl, vu, .none] } } σ H3 x v vl vu l u s3.heap.objs.size Q I4 r1 (Heap.IsSliceOf.new ..) pl pu q3
  show wpAny (model X.prog X.w) X.A (subscriptTail e (.Slice lo hi none p2) v (.ref s3.heap.objs.size)) (EP X pins σ Q) X.xe { s3 with heap := s3.heap.push { cls := .type "slice", data := .fields #[vl, vu, .none] } }
  exact tail_any (ops := [.ref s3.heap.objs.size, v]) ht hT hg (by with_unfolding_all rfl)

/-  the items of xs[lo:hi] -/
def cutV (xs : List V) (lo hi : Option Int) : List V := (xs.drop (HT.sIx xs.length 0 lo)).take (HT.sIx xs.length xs.length hi - HT.sIx xs.length 0 lo)
theorem cutV_length (xs : List V) (lo hi : Option Int) : (cutV xs lo hi).length ≤ xs.length := by
  unfold cutV
  rw [List.length_take, List.length_drop]
  omega
/-  t[lo:hi], not the whole of it (the whole would be t itself) -/
def rSlT (K : PySem.W.Frag) : V → Option Int → Option Int → Hp → VK → Prop := fun x lo hi H Q => ∃ a xs, x = .ref a ∧ SqT K H a xs ∧
  ¬ (HT.sIx xs.length 0 lo = 0 ∧ HT.sIx xs.length xs.length hi = xs.length) ∧ ∀ p, H p = none → Q (.ref p) (upd H p (.tup (cutV xs lo hi)))
/-! ### t < u, t + u -/
def rLtT (K : PySem.W.Frag) : R2 := fun x y H Q => ∃ a b ns ms, x = .ref a ∧ y = .ref b ∧ SqT K H a (ns.map V.int) ∧ SqT K H b (ms.map V.int) ∧ Q (.bl (HT.lexLt ns ms)) H
/-  t + u, t not empty: u empty gives t itself -/
def rCatT (K : PySem.W.Frag) : R2 := fun x y H Q => ∃ a b xs ys, x = .ref a ∧ y = .ref b ∧ SqT K H a xs ∧ SqT K H b ys ∧ xs ≠ [] ∧ xs.length + ys.length ≤ sizeLine ∧
  (ys = [] → Q (.ref a) H) ∧ (ys ≠ [] → ∀ p, H p = none → Q (.ref p) (upd H p (.tup (xs ++ ys))))
/-  tuple(t) -/
end
end L2

namespace L2
open PySem PySem.Spec PyProof.Rows

/-! ### places -/
/-  the place that an index of any sign means -/
def ixN (n : Nat) (i : Int) : Option Nat := if 0 ≤ i then (if i < n then some i.toNat else none) else if -(n : Int) ≤ i then some (i + n).toNat else none
def atI {α : Type} (xs : List α) (i : Int) : Option α := (ixN xs.length i).bind fun j => xs[j]?
theorem ixN_seq {n : Nat} {i : Int} {j : Nat} (h : ixN n i = some j) : seqIndex? i n = some j ∧ j < n ∧ -(n : Int) ≤ i ∧ i < n := by
  unfold ixN at h
  by_cases h0 : 0 ≤ i
  · rw [if_pos h0] at h
    by_cases h1 : i < n
    · rw [if_pos h1] at h
      have e : i.toNat = j := Option.some.inj h
      exact ⟨by rw [seqIndex_of h0 h1, e], by omega, by omega, h1⟩
    · rw [if_neg h1] at h; cases h
  · rw [if_neg h0] at h
    by_cases h1 : -(n : Int) ≤ i
    · rw [if_pos h1] at h
      have e : (i + n).toNat = j := Option.some.inj h
      exact ⟨by rw [seqIndex_neg (by omega) h1, e], by omega, h1, by omega⟩
    · rw [if_neg h1] at h; cases h
theorem atI_get {α : Type} {xs : List α} {i : Int} {v : α} (h : atI xs i = some v) : ∃ j, seqIndex? i xs.length = some j ∧ xs[j]? = some v ∧ j < xs.length ∧ -(xs.length : Int) ≤ i ∧ i < xs.length := by
  unfold atI at h
  cases e : ixN xs.length i with
  | none => rw [e] at h; cases h
  | some j =>
    rw [e] at h
    obtain ⟨h1, h2, h3, h4⟩ := ixN_seq e
    exact ⟨j, h1, h, h2, h3, h4⟩
theorem atI_nat {α : Type} {xs : List α} {j : Nat} {v : α} (h : xs[j]? = some v) : atI xs (j : Int) = some v := by
  have hj : j < xs.length := (List.getElem?_eq_some_iff.mp h).1
  have e : ixN xs.length (j : Int) = some j := by
    unfold ixN
    rw [if_pos (by omega), if_pos (by omega)]; simp
  unfold atI; rw [e]; exact h
/-! ### what may be subscripted -/
/-  what stands as an index of a plain subscript -/
def PlainIx (b : Expr) : Prop := ∀ o i, subscripted b false o i = operate [o, i] (getItem o i)
/-  a subscript by values -/
def IxR (X : Cx) (r : R2) : Prop :=
  ∀ (value slice : Expr) (pins : List (Addr × Obj)) (s : Shared) (σ : St) (H : Hp) (x y : V) (v u : Value) (Q : VK), Inv X pins σ H s → RelV x v → RelV y u → r x y H Q →
    subscripted slice false v u = operate [v, u] (getItem v u) → wpAny (model X.prog X.w) X.A (subscriptTail value slice v u) (EP X pins σ Q) X.xe s
/-  a call of a builtin's method by values: the receiver, the arguments -/
def MtR (X : Cx) (id : String) (r : V → List V → Hp → VK → Prop) : Prop :=
  ∀ (pins : List (Addr × Obj)) (s : Shared) (σ : St) (H : Hp) (x : V) (xs : List V) (v : Value) (us : List Value) (Q : VK), Inv X pins σ H s → RelV x v → Vals xs us → r x xs H Q →
    wpAny (model X.prog X.w) X.A (call (.builtin id) (v :: us)) (EP X pins σ Q) X.xe s
section
variable {X : Cx} {a b : Expr} {ta tb : TE} {pos : Pos}
/-  a[b] -/
theorem pe_ix {r : R2} (hr : IxR X r) (ha : PE X a ta) (hb : PE X b tb) (hs : PlainIx b) : PE X (.Subscript a b pos) (tOp r ta tb) := by
  intro pins s σ H Q I h
  exact Subscript_ (binT ha hb I h fun v u s2 x y H2 I2 rx ry q => hr a b pins s2 σ H2 x y v u Q I2 rx ry q (hs _ _))

def rIxL (K : PySem.W.Frag) : R2 := fun x y H Q => ∃ p xs i v, x = .ref p ∧ y = .int i ∧ SqL K H p xs ∧ atI xs i = some v ∧ Q v H
def rIxT (K : PySem.W.Frag) : R2 := fun x y H Q => ∃ p xs i v, x = .ref p ∧ y = .int i ∧ SqT K H p xs ∧ atI xs i = some v ∧ Q v H
def rIxS : R2 := fun x y H Q => ∃ z i c, x = .str z ∧ y = .int i ∧ z.length ≤ sizeLine ∧ atI z.cps.toList i = some c ∧ Q (.str ⟨#[c]⟩) H
theorem ix_list : IxR X (rIxL X.K) := by
  intro value slice pins s σ H x y v u Q I rx ry h hs
  obtain ⟨p, xs, i, z, rfl, rfl, hq, he, q⟩ := h
  cases rx
  obtain ⟨t, rfl⟩ := ry
  obtain ⟨its, r, pl, hz⟩ := I.list hq
  obtain ⟨j, h1, h2, h3, h4, h5⟩ := atI_get he
  obtain ⟨w, ew, rw'⟩ := r.get h2
  have hl := r.length
  have hn := line63
  have fin : EP X pins σ Q w s := ⟨z, H, I, rw', q⟩
  by_cases h0 : 0 ≤ i
  · have hj : i.toNat = j := by
      rw [seqIndex_of h0 h5] at h1
      exact Option.some.inj h1
    exact item_listR pl.isList h0 (by omega) (by rw [hj]; simpa using ew) fin hs
  · have hj : (i + (its.toArray.size : Int)).toNat = j := by
      rw [seqIndex_neg (by omega) h4] at h1
      rw [List.size_toArray, ← hl]
      exact Option.some.inj h1
    exact subscriptTail_builtinR (x := w) pl.isList.typeIs slot_list_getitem.lookup
      (wpAny_getItem_list_neg (Q := fun r s' => r = w ∧ EP X pins σ Q r s') pl.isList (by omega) (by rw [List.size_toArray] <;> omega) (by omega) (by rw [hj]; simpa using ew) ⟨rfl, fin⟩) hs
theorem ix_tup : IxR X (rIxT X.K) := by
  intro value slice pins s σ H x y v u Q I rx ry h hs
  obtain ⟨p, xs, i, z, rfl, rfl, hq, he, q⟩ := h
  cases rx
  obtain ⟨t, rfl⟩ := ry
  obtain ⟨its, r, pl, hz⟩ := I.tuple hq
  obtain ⟨j, h1, h2, h3, h4, h5⟩ := atI_get he
  obtain ⟨w, ew, rw'⟩ := r.get h2
  have hl := r.length
  have hn := line63
  have fin : EP X pins σ Q w s := ⟨z, H, I, rw', q⟩
  exact subscriptTail_builtinR (x := w) pl.typeIs slot_tuple_getitem.lookup
    (getItem_tuple (j := j) (Q := fun r s' => r = w ∧ EP X pins σ Q r s') pl (by omega) (by omega) (by rw [List.size_toArray, ← hl]; exact h1) (by simpa using ew) ⟨rfl, fin⟩) hs
/-  list, tuple or str -/
def rIx (K : PySem.W.Frag) : R2 := fun x y H Q => rIxL K x y H Q ∨ rIxT K x y H Q ∨ rIxS x y H Q
/-! ### xs[i] = v, any sign -/
/-  the list's object behind a store -/
theorem mapSeq_set (its : List Value) (n j : Nat) (u : Value) : Obj.mapSeq (·.setIfInBounds j u) { cls := .type "list", data := .seq its.toArray n } = { cls := .type "list", data := .seq (its.set j u).toArray n } := by
  simp [Obj.mapSeq]
theorem Inv.lst {pins : List (Addr × Obj)} {σ : St} {H : Hp} {s : Shared} {p : Addr} {xs : List V} (I : Inv X pins σ H s) (h : H p = some (.lst xs)) :
    ∃ (its : List Value) (n : Nat), Vals xs its ∧ s.heap.get? p = some { cls := .type "list", data := .seq its.toArray n } ∧ xs.length ≤ sizeLine := by
  obtain ⟨z, its, n, r, e⟩ := I.hok p _ h
  exact ⟨its, n, r, e, z⟩
/-  the list at p is written by an update of its object -/
theorem Inv.lstUpd {pins : List (Addr × Obj)} {σ : St} {H : Hp} {s : Shared} {p : Addr} {xs ys : List V} {its its' : List Value} {n n' : Nat} {f : Obj → Obj} (I : Inv X pins σ H s) (h : H p = some (.lst xs))
    (ho : s.heap.get? p = some { cls := .type "list", data := .seq its.toArray n }) (hf : f { cls := .type "list", data := .seq its.toArray n } = { cls := .type "list", data := .seq its'.toArray n' }) (r : Vals ys its') (hz : ys.length ≤ sizeLine) (t : Nat) :
    Inv X pins σ (upd H p (.lst ys)) { s with heap := s.heap.update p f, toks := t } := by
  have e : (s.heap.update p f).get? p = some { cls := .type "list", data := .seq its'.toArray n' } := by
    rw [Heap.get?_update_self f ho (by rw [hf] <;> rfl), hf]
  refine I.write (x := p) (e := p) (by rw [h]; trivial) (.inl rfl) (fun b u hb q => (Heap.get?_update_other _ _ (Ne.symm hb)).trans q) ⟨_, e⟩ ?_
  exact ⟨hz, its', n', r, e⟩
def rSetL : V → V → V → Hp → (Hp → Prop) → Prop := fun o i v H Q => ∃ p xs k j, o = .ref p ∧ i = .int k ∧ H p = some (.lst xs) ∧ ixN xs.length k = some j ∧ Q (upd H p (.lst (xs.set j v)))
theorem set_list : PSet X rSetL := by
  intro pins s σ H o i v ov iv u Q I ro ri rv h
  obtain ⟨p, xs, k, j, rfl, rfl, hp, hj, q⟩ := h
  cases ro
  obtain ⟨t, rfl⟩ := ri
  obtain ⟨its, n, r, ho, hz⟩ := I.lst hp
  obtain ⟨h1, h2, h3, h4⟩ := ixN_seq hj
  have hl := r.length
  have hn := line63
  have I' : Inv X pins σ (upd H p (.lst (xs.set j v))) { s with heap := s.heap.update p (Obj.mapSeq (·.setIfInBounds j u)) } :=
    I.lstUpd hp ho (mapSeq_set its n j u) (r.set rv j) (by rw [List.length_set]; exact hz) s.toks
  by_cases h0 : 0 ≤ k
  · have hk : k.toNat = j := by
      rw [seqIndex_of h0 h4] at h1
      exact Option.some.inj h1
    exact PySem.W.ki_setAt ho h0 (by omega) (by rw [List.size_toArray, ← hl]; exact h4) (by rw [hk]; exact ⟨_, I', q⟩)
  · have hk : (k + (its.toArray.size : Int)).toNat = j := by
      rw [seqIndex_neg (by omega) h3] at h1
      rw [List.size_toArray, ← hl]
      exact Option.some.inj h1
    exact PySem.W.ki_setBack ho (by omega) (by rw [List.size_toArray, ← hl]; exact h3) (by omega) (by rw [hk]; exact ⟨_, I', q⟩)

/-! ### slices -/
theorem slice_bounds (lo hi : Option Int) (n : Nat) : (sliceBounds lo hi none n).1 = ((HT.sIx n 0 lo : Nat) : Int) ∧ (sliceBounds lo hi none n).2.1 = ((HT.sIx n n hi : Nat) : Int) ∧ (sliceBounds lo hi none n).2.2 = 1 := by
  refine ⟨?_, ?_, rfl⟩
  · cases lo with
    | none => simp [sliceBounds, HT.sIx]
    | some i =>
      simp only [sliceBounds, HT.sIx, Option.getD_none, show (1 : Int) > 0 by decide, if_true]
      by_cases h : i < 0
      · simp only [h, if_true] <;> omega
      · simp only [h, if_false] <;> omega
  · cases hi with
    | none => simp [sliceBounds, HT.sIx]
    | some i =>
      simp only [sliceBounds, HT.sIx, Option.getD_none, show (1 : Int) > 0 by decide, if_true]
      by_cases h : i < 0
      · simp only [h, if_true] <;> omega
      · simp only [h, if_false] <;> omega
theorem slicePick_cut (its : List Value) (lo hi : Option Int) : slicePick its.toArray lo hi none = ((its.drop (HT.sIx its.length 0 lo)).take (HT.sIx its.length its.length hi - HT.sIx its.length 0 lo)).toArray := by
  obtain ⟨h1, h2, h3⟩ := slice_bounds lo hi its.toArray.size
  unfold slicePick
  rw [h1, h2, h3]
  simp only [sliceRange_one, pick_run, List.size_toArray] <;> rfl
/-  xs[lo:hi] of a list: a new list -/
def rSlL (K : PySem.W.Frag) : V → Option Int → Option Int → Hp → VK → Prop := fun x lo hi H Q => ∃ a xs, x = .ref a ∧ SqL K H a xs ∧ ∀ p, H p = none → Q (.ref p) (upd H p (.lst (cutV xs lo hi)))
theorem sl_list : SlR X (rSlL X.K) := by
  intro pins s σ H x v vl vu lo hi sl Q I rx hs pl pu h
  obtain ⟨a, xs, rfl, hx, q⟩ := h
  cases rx
  obtain ⟨its, r, ht, hz⟩ := I.list hx
  have hlen := r.length
  refine ⟨"list", _, slot_list_getitem.lookup, ht.isList.typeIs, ?_⟩
  refine wpAny_getItem_list_slice ht.isList hs pl pu .none (by simp) ?_ (by rw [List.size_toArray] <;> omega)
  rw [slicePick_cut, ← hlen]
  refine ⟨.ref s.heap.objs.size, _, I.laid (t' := s.toks) (o := .lst (cutV xs lo hi)) (fun b ob q => Heap.get?_push_of_some _ q) (Nat.le_refl _) ?_, rfl, q _ (I.hok.fresh (Nat.le_refl _))⟩
  exact ⟨Nat.le_trans (cutV_length xs lo hi) hz, _, 0, (r.drop (HT.sIx xs.length 0 lo)).take (HT.sIx xs.length xs.length hi - HT.sIx xs.length 0 lo), Heap.get?_push_size _ rfl⟩

/-! ### in, not in: flat items -/
def flatV : V → Bool
  | .non => true
  | .bl _ => true
  | .int _ => true
  | .str _ => true
  | _ => false
/-  == of flat values -/
def eqV : V → V → Bool
  | .non, .non => true
  | .bl a, .bl b => a == b
  | .bl a, .int b => (if a then 1 else 0) == b
  | .int a, .bl b => a == (if b then 1 else 0)
  | .int a, .int b => a == b
  | .str a, .str b => a == b
  | _, _ => false
/-  the items' answers, read off the values (a value's own answer does not lean on its token) -/
def eqU (x : V) (u : Value) : Bool := match u with
  | .none => eqV .non x
  | .bool b => eqV (.bl b) x
  | .int i _ => eqV (.int i) x
  | .str z _ => eqV (.str z) x
  | _ => false
def inV (x : V) (xs : List V) : Bool := xs.any fun y => eqV y x
/-  x in a list or tuple of flat items -/
def rIn (K : PySem.W.Frag) (neg : Bool) : R2 := fun x y H Q => ∃ p xs, y = .ref p ∧ (SqL K H p xs ∨ SqT K H p xs) ∧ flatV x = true ∧ xs.all flatV = true ∧ Q (.bl (if neg then !inV x xs else inV x xs)) H
/-! ### len, list(x), tuple(x) of any list or tuple that is read -/
theorem call_len_seq : CallR X (.builtin "len") (fun xs H Q => ∃ p ys, xs = [.ref p] ∧ (SqL X.K H p ys ∨ SqT X.K H p ys) ∧ Q (.int ys.length) H) := by
  intro pins s σ H xs us Q I r h
  obtain ⟨p, ys, rfl, hq, q⟩ := h
  obtain ⟨u, rfl, rx⟩ := vals1 r
  cases rx
  have hn := line63
  rcases hq with hq | hq
  · obtain ⟨its, r', pl, hz⟩ := I.list hq
    have hlen := r'.length
    exact Calls.call_len_list pl.isList (by simp only [List.size_toArray] <;> omega) ⟨.int ys.length, H, I.tok _, ⟨s.toks + 1, by rw [List.size_toArray, hlen]⟩, q⟩
  · obtain ⟨its, r', pl, hz⟩ := I.tuple hq
    have hlen := r'.length
    exact len_tuple pl (by simp only [List.size_toArray] <;> omega) ⟨.int ys.length, H, I.tok _, ⟨s.toks + 1, by rw [List.size_toArray, hlen]⟩, q⟩
theorem call_list_of : CallR X (.type "list") (fun xs H Q => ∃ p ys, xs = [.ref p] ∧ (SqL X.K H p ys ∨ SqT X.K H p ys) ∧ ∀ l, H l = none → Q (.ref l) (upd H l (.lst ys))) := by
  intro pins s σ H xs us Q I r h
  obtain ⟨p, ys, rfl, hq, q⟩ := h
  obtain ⟨u, rfl, rx⟩ := vals1 r
  cases rx
  have fin : ∀ (its : List Value), Vals ys its → ys.length ≤ sizeLine → ∀ (h' : Heap) (c' : Nat), (∀ b o', s.heap.get? b = some o' → h'.get? b = some o') →
      h'.get? s.heap.objs.size = some { cls := .type "list", dict := none, data := .seq its.toArray c', slots := #[] } → EP X pins σ Q (.ref s.heap.objs.size) { s with heap := h' } := fun its r' hz h' c' kp e =>
    ⟨.ref s.heap.objs.size, _, I.laid (t' := s.toks) kp (Nat.le_refl _) (show ObjOk X.prog X.w _ h' _ (.lst ys) from ⟨hz, its, c', r', e⟩), rfl, q _ (I.hok.fresh (Nat.le_refl _))⟩
  rcases hq with hq | hq
  · obtain ⟨its, r', pl, hz⟩ := I.list hq
    have hlen := r'.length
    obtain ⟨o, ho, hc, n, hd⟩ := pl.isList
    exact call_list_seq p (.inl rfl) ho hc hd (fun h' c' kp e => fin its r' hz h' c' kp e) (by simp only [List.size_toArray] <;> omega)
  · obtain ⟨its, r', pl, hz⟩ := I.tuple hq
    have hlen := r'.length
    obtain ⟨o, ho, hc, n, hd⟩ := pl
    exact call_list_seq p (.inr rfl) ho hc hd (fun h' c' kp e => fin its r' hz h' c' kp e) (by simp only [List.size_toArray] <;> omega)
/-! ### the call of a builtin's method: o.m(..) -/
/-  the value is of that builtin type -/
def tyV (K : PySem.W.Frag) (T : String) (x : V) (H : Hp) : Prop := match x with
  | .str _ => T = "str"
  | .int _ => T = "int"
  | .ref p => (T = "list" ∧ ∃ xs, SqL K H p xs) ∨ (T = "tuple" ∧ ∃ o, K.lookup p = some o ∧ o.cls = .type "tuple" ∧ o.dict = none) ∨
      (T = "dict" ∧ ((∃ kvs, H p = some (.dK kvs)) ∨ ∃ kvs, H p = some (.dT kvs))) ∨ (T = "set" ∧ ∃ S n, H p = some (.set S n))
  | _ => False
theorem tyV_is {pins : List (Addr × Obj)} {σ : St} {H : Hp} {s : Shared} {T : String} {x : V} {v : Value} (I : Inv X pins σ H s) (r : RelV x v) (ty : tyV X.K T x H) :
    s.TypeIs v T ∧ ∀ a, v = .ref a → ∃ ob, s.heap.get? a = some ob ∧ ob.dict = none := by
  cases x with
  | str z =>
    obtain ⟨t, rfl⟩ := r
    cases (show T = "str" from ty)
    exact ⟨typeIs_str s z t, fun _ e => nomatch e⟩
  | int i =>
    obtain ⟨t, rfl⟩ := r
    cases (show T = "int" from ty)
    exact ⟨typeIs_int s i t, fun _ e => nomatch e⟩
  | ref p =>
    cases r
    rcases ty with ⟨rfl, xs, hq⟩ | ⟨rfl, o, hk, hc, hd⟩ | ⟨rfl, hk⟩ | ⟨rfl, S, n, hk⟩
    · obtain ⟨its, _, pl, _⟩ := I.list hq
      refine ⟨pl.isList.typeIs, fun a e => ?_⟩
      cases e
      obtain ⟨o, n, e, c, hd, _⟩ := pl
      exact ⟨o, e, hd⟩
    · refine ⟨⟨o, I.kIn p o hk, hc⟩, fun a e => ?_⟩
      cases e
      exact ⟨o, I.kIn _ o hk, hd⟩
    · have z : ∃ o, s.heap.get? p = some o ∧ o.ExactDict := by
        rcases hk with ⟨kvs, hk⟩ | ⟨kvs, hk⟩
        · obtain ⟨_, _, _, _, o, _, _, e, ex, _⟩ := I.hok p _ hk
          exact ⟨o, e, ex⟩
        · obtain ⟨_, _, _, _, o, _, _, e, ex, _⟩ := I.hok p _ hk
          exact ⟨o, e, ex⟩
      obtain ⟨o, e, ex⟩ := z
      refine ⟨⟨o, e, ex.1⟩, fun a e2 => ?_⟩
      cases e2
      exact ⟨o, e, ex.2.1⟩
    · obtain ⟨o, _, _, _, e, ex, _⟩ := I.hok p _ hk
      refine ⟨⟨o, e, ex.1⟩, fun a e2 => ?_⟩
      cases e2
      exact ⟨o, e, ex.2.1⟩
  | _ => exact False.elim ty
def tBM0 (K : PySem.W.Frag) (T : String) (r : V → List V → Hp → VK → Prop) (to : TE) : TE := fun σ H Q => to σ H fun x H1 => tyV K T x H1 ∧ r x [] H1 Q
def tBM (K : PySem.W.Frag) (T : String) (r : V → List V → Hp → VK → Prop) (to : TE) (t : TA) : TE := fun σ H Q => to σ H fun x H1 => tyV K T x H1 ∧ t σ H1 fun xs H2 => r x xs H2 Q
variable {o e : Expr} {es : List Expr} {to : TE} {t : TA} {name : Str} {apos cpos : Pos} {T id : String} {r : V → List V → Hp → VK → Prop}
theorem pe_bm (pa : PlainAttrs T) (slot : Slot T name id) (hty : typeOf (.builtin id) = pure (.type "method_descriptor")) (hm : MtR X id r) (ho : PE X o to) (ha : PA X (e :: es) t)
    (hbase : attributeBase o name X.env (eval o X.env) = eval o X.env := by rfl)
    (hfew : ((backTo cpos (starEach (e :: es) X.env)).all (fun x => !x.1) && (backToKw cpos (keywordEach [] X.env)).all (fun x => x.1.isSome)
      && decide ((e :: es).length + ([] : List Keyword).length + (if ([] : List Keyword).isEmpty then 0 else 1) < 30)) = true := by rfl)
    (hline : (apos.endLine == cpos.line) = true := by rfl) (hs : starEach (e :: es) X.env = (false, eval e X.env) :: starEach es X.env := by rfl) (hplain : (backTo cpos (starEach es X.env)).any (·.1) = false := by rfl) :
    PE X (.Call (.Attribute o name apos) (e :: es) [] cpos) (tBM X.K T r to t) := by
  intro pins s σ H Q I h
  refine wpAny_Call_method_late hbase hfew hline rfl (thn (ho pins s σ H _ I h) fun v s1 ⟨x, H1, I1, r1, ty, q1⟩ => ?_)
  obtain ⟨h1, h2⟩ := tyV_is I1 r1 ty
  refine ⟨T, id, pa, slot, hty, h1, h2, ?_⟩
  have hA := ha cpos pins s1 σ H1 _ I1 q1
  rw [hs] at hA ⊢
  refine Calls.callWith_builtin (by show (false || (backTo cpos (starEach es X.env)).any (·.1)) = false; rw [hplain] <;> rfl) (Calls.evalArgs_plain ?_)
  exact thn hA fun us s2 ⟨vs, H2, I2, r2, q2⟩ => hm pins s2 σ H2 x vs v us Q I2 r1 r2 q2
/- xs.append(e), list.index on a module's tuple .. are MtR facts of 06m -/
end
end L2

namespace L2
open PySem PySem.Spec PyProof.Rows

def MtM (X : Cx) (id : String) (r : V → List V → Hp → VK → Prop) : Prop :=
  ∀ (pins : List (Addr × Obj)) (s : Shared) (σ : St) (H : Hp) (x : V) (xs : List V) (v : Value) (us : List Value) (Q : VK), Inv X pins σ H s → RelV x v → Vals xs us → r x xs H Q →
    wpAny (model X.prog X.w) X.A (call (.builtin id) (v :: us)) (EP X pins σ Q) X.xe s

/-! ### lists of values -/
theorem Vals.one : ∀ {x : V} {us : List Value}, Vals [x] us → ∃ u, us = [u] ∧ RelV x u
  | _, _, .cons r .nil => ⟨_, rfl, r⟩
theorem Vals.two : ∀ {x y : V} {us : List Value}, Vals [x, y] us → ∃ u v, us = [u, v] ∧ RelV x u ∧ RelV y v
  | _, _, _, .cons r (.cons q .nil) => ⟨_, _, rfl, r, q⟩
theorem Vals.rep {xs : List V} {us : List Value} (h : Vals xs us) : ∀ k : Nat, Vals (List.replicate k xs).flatten (List.replicate k us).flatten
  | 0 => .nil
  | k + 1 => by
    rw [List.replicate_succ, List.replicate_succ, List.flatten_cons, List.flatten_cons]
    exact Vals.append h (Vals.rep h k)
theorem foldl_rep (its : List Value) : ∀ (k : Nat) (acc : List Value),
    List.foldl (fun x1 x2 => x1 ++ x2) acc.toArray (List.replicate k its.toArray) = (acc ++ (List.replicate k its).flatten).toArray
  | 0, acc => by simp
  | k + 1, acc => by
    have e : acc.toArray ++ its.toArray = (acc ++ its).toArray := by simp
    have e2 : (acc ++ its) ++ (List.replicate k its).flatten = acc ++ (List.replicate (k + 1) its).flatten := by
      rw [List.replicate_succ, List.flatten_cons, List.append_assoc]
    rw [← e2, ← foldl_rep its k (acc ++ its), ← e, List.replicate_succ, List.foldl_cons]

section
variable {X : Cx} {pins : List (Addr × Obj)} {σ : St} {H : Hp} {s : Shared} {l b : Addr} {xs ys zs : List V}

/-! ### the two steps: a tracked list is rewritten, a new list is laid -/
theorem Inv.lset {its its' : List Value} {n : Nat} {f : Array Value → Array Value} {t' : Nat} (I : Inv X pins σ H s) (hH : H l = some (.lst xs))
    (e : s.heap.get? l = some { cls := .type "list", data := .seq its.toArray n }) (hf : f its.toArray = its'.toArray) (hv : Vals ys its') (hz : ys.length ≤ sizeLine) :
    Inv X pins σ (upd H l (.lst ys)) { s with heap := s.heap.update l (Obj.mapSeq f), toks := t' } := by
  have q := PySem.IsL.update e f
  rw [hf] at q
  refine I.write (x := l) (e := l) (by rw [hH]; exact trivial) (.inl rfl) (fun b' u hb hu => (Heap.get?_update_other s.heap (Obj.mapSeq f) (Ne.symm hb)).trans hu) ⟨_, q⟩ ?_
  exact ⟨hz, its', _, hv, q⟩
theorem Inv.lnew {its : List Value} {t' : Nat} (I : Inv X pins σ H s) (hv : Vals ys its) (hz : ys.length ≤ sizeLine) :
    Inv X pins σ (upd H s.heap.objs.size (.lst ys)) { s with heap := s.heap.push { cls := .type "list", data := .seq its.toArray }, toks := t' } :=
  I.laid (fun _ _ q => Heap.get?_push_of_some _ q) (Nat.le_refl _) ⟨hz, its, 0, hv, Heap.get?_push_size _ rfl⟩
theorem Inv.fresh (I : Inv X pins σ H s) : H s.heap.objs.size = none := I.hok.fresh (Nat.le_refl _)
theorem Inv.lstM (I : Inv X pins σ H s) (hH : H l = some (.lst xs)) : xs.length ≤ sizeLine ∧ ∃ (its : List Value) (n : Nat), Vals xs its ∧ xs.length = its.length ∧ s.heap.get? l = some { cls := .type "list", data := .seq its.toArray n } := by
  obtain ⟨z, its, n, r, e⟩ := I.hok l _ hH
  exact ⟨z, its, n, r, r.length, e⟩

theorem notLongL {n : Nat} (h : n ≤ sizeLine) : Builtin.List.listTooLong n = false := by
  unfold Builtin.List.listTooLong
  exact decide_eq_false (by omega)
end

section
variable {X : Cx}

/-! ### methods -/
def rAppend : V → List V → Hp → VK → Prop := fun x vs H Q => ∃ l xs y, x = .ref l ∧ vs = [y] ∧ H l = some (.lst xs) ∧ xs.length < sizeLine ∧ Q .non (upd H l (.lst (xs ++ [y])))
theorem mt_append : MtM X "list.append" rAppend := by
  intro pins s σ H x vs v us Q I rx rv h
  obtain ⟨l, xs, y, rfl, rfl, hH, hz, q⟩ := h
  cases rx
  obtain ⟨u, rfl, ru⟩ := rv.one
  obtain ⟨z, its, n, r, hl, e⟩ := I.lstM hH
  refine call_meets F.slot_list_append ⟨_, e, rfl⟩ F.entry_list_append (F.args_list_append_2 _ _) (PySem.list_append l its.toArray n u (by rw [List.size_toArray]; omega)) ⟨e, ?_⟩
  refine ⟨.non, _, I.lset (its' := its ++ [u]) hH e (by simp) (r.append (.cons ru .nil)) ?_, rfl, q⟩
  rw [List.length_append, List.length_singleton]
  omega

def rExtend : V → List V → Hp → VK → Prop := fun x vs H Q => ∃ l b xs zs, x = .ref l ∧ vs = [.ref b] ∧ H l = some (.lst xs) ∧ H b = some (.lst zs) ∧ xs.length + zs.length ≤ sizeLine ∧ Q .non (upd H l (.lst (xs ++ zs)))
def rPop : V → List V → Hp → VK → Prop := fun x vs H Q => ∃ l xs y, x = .ref l ∧ vs = [] ∧ H l = some (.lst xs) ∧ xs[xs.length - 1]? = some y ∧ Q y (upd H l (.lst xs.dropLast))
def rPopAt : V → List V → Hp → VK → Prop := fun x vs H Q => ∃ l xs i k y, x = .ref l ∧ vs = [.int i] ∧ H l = some (.lst xs) ∧ -(2 ^ 63) ≤ i ∧ i < 2 ^ 63 ∧ seqIndex? i xs.length = some k ∧ xs[k]? = some y ∧ Q y (upd H l (.lst (xs.eraseIdx k)))
def rReverse : V → List V → Hp → VK → Prop := fun x vs H Q => ∃ l xs, x = .ref l ∧ vs = [] ∧ H l = some (.lst xs) ∧ Q .non (upd H l (.lst xs.reverse))
def rClear : V → List V → Hp → VK → Prop := fun x vs H Q => ∃ l xs, x = .ref l ∧ vs = [] ∧ H l = some (.lst xs) ∧ Q .non (upd H l (.lst []))
/-! ### list + list, list += list, list * int -/
def rCat : R2 := fun x y H Q => ∃ l b xs zs, x = .ref l ∧ y = .ref b ∧ H l = some (.lst xs) ∧ H b = some (.lst zs) ∧ xs.length + zs.length ≤ sizeLine ∧ ∀ p, H p = none → Q (.ref p) (upd H p (.lst (xs ++ zs)))
theorem op_cat : OpR X (binaryOp .Add) rCat := by
  intro pins s σ H x y v u Q I rx ry h
  obtain ⟨l, b, xs, zs, rfl, rfl, hH, hB, hz, q⟩ := h
  cases rx
  cases ry
  obtain ⟨z, its, n, r, hl, e⟩ := I.lstM hH
  obtain ⟨z2, its2, n2, r2, hl2, e2⟩ := I.lstM hB
  refine PySem.P.add_list e e2 ?_ (by rw [List.size_toArray, List.size_toArray]; omega)
  have ea : its.toArray ++ its2.toArray = (its ++ its2).toArray := by simp
  rw [ea]
  exact ⟨.ref _, _, I.lnew (t' := s.toks) (r.append r2) (by rw [List.length_append]; omega), rfl, q _ I.fresh⟩
/-  a list times an int (a negative one is nothing) -/
def rRep : R2 := fun x y H Q => ∃ l k xs, x = .ref l ∧ y = .int k ∧ H l = some (.lst xs) ∧ -(2 ^ 63) ≤ k ∧ k < 2 ^ 63 ∧ xs.length * k.toNat ≤ sizeLine ∧
  ∀ p, H p = none → Q (.ref p) (upd H p (.lst (List.replicate k.toNat xs).flatten))
theorem len_rep {α : Type} (xs : List α) (k : Nat) : (List.replicate k xs).flatten.length = k * xs.length := by
  induction k with
  | zero => simp
  | succ k ih => rw [List.replicate_succ, List.flatten_cons, List.length_append, ih, Nat.succ_mul, Nat.add_comm]
theorem op_rep : OpR X (binaryOp .Mult) rRep := by
  intro pins s σ H x y v u Q I rx ry h
  obtain ⟨l, k, xs, rfl, rfl, hH, h1, h2, hz, q⟩ := h
  cases rx
  obtain ⟨t, rfl⟩ := ry
  obtain ⟨z, its, n, r, hl, e⟩ := I.lstM hH
  have hlen : its.toArray.size * k.toNat ≤ sizeLine := by rw [List.size_toArray, ← hl]; exact hz
  have hcap : ¬ its.toArray.size * k.toNat > (2 ^ 63 - 1) / 8 := by
    have : (sizeLine : Nat) ≤ (2 ^ 63 - 1) / 8 := by decide
    omega
  have hfit : ¬ (!Builtin.List.listFitsIndex k) = true := by
    rw [fitsIndex_both h1 h2]
    exact Bool.false_ne_true
  have hlong : ¬ Builtin.List.listTooLong (its.toArray.size * k.toNat) = true := by
    rw [notLongL hlen]
    exact Bool.false_ne_true
  have hnew : List.foldl (fun x1 x2 => x1 ++ x2) #[] (List.replicate (if its.toArray.isEmpty = true then 0 else k.toNat) its.toArray) = (List.replicate k.toNat its).flatten.toArray := by
    have f0 : ∀ m : Nat, List.foldl (fun x1 x2 => x1 ++ x2) #[] (List.replicate m its.toArray) = (List.replicate m its).flatten.toArray := fun m => by
      have := foldl_rep its m []
      rw [List.nil_append] at this
      exact this
    rw [f0]
    cases its with
    | nil => simp
    | cons a r' => rw [if_neg (by simp)]
  refine wpAny_binaryOp_repeat_ref (T := "list") (U := "int") (by decide) ⟨_, e, rfl⟩ (fun s' => typeIs_int s' k t) noFill_list_mul F.fills_int_mul F.slot_int_rmul repeat_list F.slot_int_index.lookup
    (call_meets F.slot_int_rmul (typeIs_int s k t) F.entry_int_rmul (F.args_int_rmul_2 _ _) (int___rmul___int_list k t l its.toArray n)
      ⟨e, rfl, ⟨_, e, rfl⟩, call_meets F.slot_list_mul ⟨_, e, rfl⟩ F.entry_list_mul (F.args_list_mul_2 _ _) (AutoListH.list___mul___list_int_3 l its.toArray n k t hfit hcap hlong) ⟨e, ?_⟩⟩)
  rw [hnew]
  exact ⟨.ref _, _, I.lnew (t' := s.toks) (r.rep k.toNat) (by rw [len_rep, Nat.mul_comm]; exact hz), rfl, q _ I.fresh⟩

/-! ### del xs[i] -/
end

/-! ### xs[a:b] = ys -/
section
variable {prog : Program} {w : World} {A : Around} {E : Value → Shared → Prop} {s : Shared}
set_option maxRecDepth 100000 in
/-  list.__setitem__ with a slice of step one and another list -/
end

section
variable {X : Cx}
/-  xs[a:c] = ys of another list, at the value level: sl is the slice object that was just made -/
end
end L2

namespace L2
open PySem PySem.Spec PyProof.Rows

/-! ### lists of pairs as tables -/
section
variable {κ : Type} [DecidableEq κ]
def valV (kvs : List (κ × V)) (k : κ) : Option V := (kvs.find? fun kv => decide (kv.1 = k)).map (·.2)
/-  in its place, or at the end -/
def putK (kvs : List (κ × V)) (k : κ) (v : V) : List (κ × V) :=
  if (kvs.any fun kv => decide (kv.1 = k)) = true then kvs.map (fun kv => if kv.1 = k then (kv.1, v) else kv) else kvs ++ [(k, v)]
def dropK (kvs : List (κ × V)) (k : κ) : List (κ × V) := kvs.filter fun kv => decide (kv.1 ≠ k)

/-  raw tables of the same keys -/
end


/-! ### a tracked dict, its keys ints and texts or tuples of these -/
/-  raw entries of a dict with tuple keys -/
abbrev KT (H : Hp) : List (List Key × V) → List (List Key × Addr × Value) → Prop := Paired fun p q => p.1 = q.1 ∧ H q.2.1 = some (.tup (p.1.map kV)) ∧ RelV p.2 q.2.2
section
variable {P : Program} {w : World} {H : Hp} {h : Heap} {a : Addr}
/-  a tracked tuple of ints and texts is a key -/
end

/-  what the dict at a holds at the key y -/
def DGet (H : Hp) (a : Addr) (y : V) (r : Option V) : Prop :=
  (∃ kvs k, Rd H a (.dK kvs) ∧ y = kV k ∧ r = valV kvs k) ∨ ∃ kvs k b, Rd H a (.dT kvs) ∧ y = .ref b ∧ H b = some (.tup (k.map kV)) ∧ r = valV kvs k
/-  the heap behind a[y] = v -/
def DPut (H : Hp) (a : Addr) (y v : V) (H' : Hp) : Prop :=
  (∃ kvs k, H a = some (.dK kvs) ∧ y = kV k ∧ kvs.length < sizeLine ∧ H' = upd H a (.dK (putK kvs k v))) ∨
  ∃ kvs k b, H a = some (.dT kvs) ∧ y = .ref b ∧ H b = some (.tup (k.map kV)) ∧ kvs.length < sizeLine ∧ H' = upd H a (.dT (putK kvs k v))
section
variable {X : Cx} {pins : List (Addr × Obj)} {σ : St} {H : Hp} {s : Shared} {a : Addr} {y v : V} {u r : Value} {o : Option V} {A : Around} {E : Value → Shared → Prop}

/-  d[y], there -/
/-  y in d -/
/-  a dict's object is replaced -/
/-  d[y] = v -/
end

section
variable {X : Cx} {pins : List (Addr × Obj)} {σ : St} {H : Hp} {s : Shared} {a : Addr} {kvs : List (Key × V)} {k : Key} {u : Value} {A : Around} {E : Value → Shared → Prop}
/-  del d[k] -/
/-  d.pop(k[, x]), there -/
/-  d.pop(k, x), not there -/
/-  d.clear() -/
/-  len(d) -/
/-  if d -/
end


/-! ### readings and rules -/
/-  the element of a subscription, not a slice -/
def NoSl (i : Expr) : Prop := ∀ ov iv, subscripted i false ov iv = operate [ov, iv] (getItem ov iv)
/-  d[y] -/
def tDGet (td ty : TE) : TE := fun σ H Q => td σ H fun x H1 => ty σ H1 fun y H2 => ∃ a v, x = .ref a ∧ DGet H2 a y (some v) ∧ Q v H2
/-  y in d, y not in d -/
def tDIn (ty td : TE) : TE := fun σ H Q => ty σ H fun y H1 => td σ H1 fun x H2 => ∃ a o, x = .ref a ∧ DGet H2 a y o ∧ Q (.bl o.isSome) H2
def tDNotIn (ty td : TE) : TE := fun σ H Q => ty σ H fun y H1 => td σ H1 fun x H2 => ∃ a o, x = .ref a ∧ DGet H2 a y o ∧ Q (.bl (!o.isSome)) H2
/-  d[y] = v -/
def sDPut (td ty tv : TE) : TS := fun D σ H => tv σ H fun v H1 => td σ H1 fun x H2 => ty σ H2 fun y H3 => ∃ a H4, x = .ref a ∧ DPut H3 a y v H4 ∧ D.nx σ H4
/-  d[y] op= v -/
def sDAug (td ty tv : TE) (rd : V → V → Hp → VK → Prop) : TS := fun D σ H => td σ H fun x H1 => ty σ H1 fun y H2 => ∃ a v, x = .ref a ∧ DGet H2 a y (some v) ∧
  tv σ H2 fun y2 H3 => rd v y2 H3 fun z H4 => ∃ H5, DPut H4 a y z H5 ∧ D.nx σ H5
/-  del d[y] -/
def sDDel (td ty : TE) : TS := fun D σ H => td σ H fun x H1 => ty σ H1 fun y H2 => ∃ a kvs k, x = .ref a ∧ H2 a = some (.dK kvs) ∧ y = kV k ∧ (valV kvs k).isSome = true ∧ D.nx σ (upd H2 a (.dK (dropK kvs k)))

section
variable {X : Cx} {o i e value : Expr} {pos pos' tpos : Pos} {td ty tv : TE}
end


/-! ### displays -/
/-  {}, to be a dict of the kind that is wanted -/
def tDNewK : TE := fun _ H Q => ∀ p, H p = none → Q (.ref p) (upd H p (.dK []))
def tDNewT : TE := fun _ H Q => ∀ p, H p = none → Q (.ref p) (upd H p (.dT []))
section
variable {X : Cx} {pos : Pos}
end

/-  the pairs of a display, from the left -/
def tPairs : List (TE × TE) → St → Hp → (List (V × V) → Hp → Prop) → Prop
  | [], _, H, Q => Q [] H
  | (tk, tv) :: r, σ, H, Q => tk σ H fun x H1 => tv σ H1 fun y H2 => tPairs r σ H2 fun ps H3 => Q ((x, y) :: ps) H3
abbrev VV : List (V × V) → List (Value × Value) → Prop := Paired fun p q => RelV p.1 q.1 ∧ RelV p.2 q.2
def PPs (X : Cx) (pos : Pos) (keys : List (Option Expr)) (values : List Expr) (trs : List (TE × TE)) : Prop :=
  ∀ (pins : List (Addr × Obj)) (s : Shared) (σ : St) (H : Hp) (Q : List (V × V) → Hp → Prop), Inv X pins σ H s → tPairs trs σ H Q →
    wpAny (model X.prog X.w) X.A (evalPairs (pairTrees keys values X.env pos)) (fun vs s' => ∃ ps H', Inv X pins σ H' s' ∧ VV ps vs ∧ Q ps H') X.xe s
def mergeK (kvs more : List (Key × V)) : List (Key × V) := more.foldl (fun acc kv => putK acc kv.1 kv.2) kvs
/-  {k: v, ..} with keys ints and texts; the new dict stands empty while the pairs are made -/
def tDisp (trs : List (TE × TE)) : TE := fun σ H Q => ∀ p, H p = none → tPairs trs σ (upd H p (.dK [])) fun ps H2 => H2 p = some (.dK []) ∧ ∃ kvs : List (Key × V), ps = kvs.map (fun kv => (kV kv.1, kv.2)) ∧ kvs.length ≤ 15 ∧ Q (.ref p) (upd H2 p (.dK (mergeK [] kvs)))
/-! ### methods -/
/-  a method call o.m(e) of a built-in, with one argument: what must be seen of the text -/
structure M1 (X : Cx) (o : Expr) (m : Str) (apos : Pos) (e : Expr) (cpos : Pos) : Prop where
  base : attributeBase o m X.env (eval o X.env) = eval o X.env
  few : ((backTo cpos (starEach [e] X.env)).all (fun x => !x.1) && (backToKw cpos (keywordEach [] X.env)).all (fun x => x.1.isSome)
    && decide (([e] : List Expr).length + ([] : List Keyword).length + (if ([] : List Keyword).isEmpty then 0 else 1) < 30)) = true
  line : (apos.endLine == cpos.line) = true
  trees : backTo cpos (starEach [e] X.env) = [(false, eval e X.env)]
structure M2 (X : Cx) (o : Expr) (m : Str) (apos : Pos) (e f : Expr) (cpos : Pos) : Prop where
  base : attributeBase o m X.env (eval o X.env) = eval o X.env
  few : ((backTo cpos (starEach [e, f] X.env)).all (fun x => !x.1) && (backToKw cpos (keywordEach [] X.env)).all (fun x => x.1.isSome)
    && decide (([e, f] : List Expr).length + ([] : List Keyword).length + (if ([] : List Keyword).isEmpty then 0 else 1) < 30)) = true
  line : (apos.endLine == cpos.line) = true
  trees : backTo cpos (starEach [e, f] X.env) = [(false, eval e X.env), (false, eval f X.env)]

/-  a is a dict, whatever its keys -/
def IsD (H : Hp) (a : Addr) : Prop := (∃ kvs, Rd H a (.dK kvs)) ∨ ∃ kvs, Rd H a (.dT kvs)
section
variable {X : Cx} {pins : List (Addr × Obj)} {σ : St} {H : Hp} {s : Shared} {a : Addr} {y d : V} {u r : Value} {o : Option V} {A : Around} {E : Value → Shared → Prop}
/-  d.get(y) -/
/-  d.get(y, x) -/
end

def tDGet1 (td ty : TE) : TE := fun σ H Q => td σ H fun x H1 => ∃ a, x = .ref a ∧ IsD H1 a ∧ ty σ H1 fun y H2 => ∃ o, DGet H2 a y o ∧ Q (o.getD .non) H2
def tDGet2 (td ty tx : TE) : TE := fun σ H Q => td σ H fun x H1 => ∃ a, x = .ref a ∧ IsD H1 a ∧ ty σ H1 fun y H2 => tx σ H2 fun z H3 => ∃ o, DGet H3 a y o ∧ Q (o.getD z) H3
/-  d.pop(k): there; d.pop(k, x): there or not -/
def tDPop1 (td ty : TE) : TE := fun σ H Q => td σ H fun x H1 => ∃ a, x = .ref a ∧ IsD H1 a ∧ ty σ H1 fun y H2 => ∃ kvs k v, H2 a = some (.dK kvs) ∧ y = kV k ∧ valV kvs k = some v ∧ Q v (upd H2 a (.dK (dropK kvs k)))
def tDPop2 (td ty tx : TE) : TE := fun σ H Q => td σ H fun x H1 => ∃ a, x = .ref a ∧ IsD H1 a ∧ ty σ H1 fun y H2 => tx σ H2 fun z H3 => ∃ kvs k, H3 a = some (.dK kvs) ∧ y = kV k ∧
  (∀ v, valV kvs k = some v → Q v (upd H3 a (.dK (dropK kvs k)))) ∧ (valV kvs k = none → Q z H3)
section
variable {X : Cx} {o e f : Expr} {apos cpos : Pos} {td ty tx : TE}
end

/-! ### dict(d): a copy -/
section
variable {X : Cx} {pins : List (Addr × Obj)} {σ : St} {H : Hp} {s : Shared} {a : Addr} {kvs : List (Key × V)} {A : Around} {E : Value → Shared → Prop}
end


section
variable {X : Cx} {pins : List (Addr × Obj)} {σ : St} {H : Hp} {s : Shared} {a : Addr} {y : V} {u : Value} {A : Around} {E : Value → Shared → Prop}
/-  d[y], not there: a KeyError -/
end
end L2

namespace Att
open PySem PySem.W PySem.Calls PyProof.Rows

/-! ### the script -/
theorem ints_of_wellAll {P : Params} {h : Heap} : ∀ (ns : List Int) (vs : List Value), WellAll P h vs (ns.map WData.int) → IntsAre vs ns := by
  intro ns
  induction ns with
  | nil =>
    intro vs w
    rw [List.map_nil] at w
    cases w
    exact .nil
  | cons n ns ih =>
    intro vs w
    rw [List.map_cons] at w
    cases w with
    | cons a b =>
      cases a
      exact .cons _ _ (ih _ b)

theorem script_of {l : OpenLaw} {n : Nat} (hn : l.most = some n) {P : Params} {h : Heap} {args : List WData} {vals : List Value}
    (hpre : l.row.toRowW.claim.pre args = true) (hwl : WellAll P h vals args) :
    ∃ a vs ns, vals = [Value.ref a] ∧ args = [WData.list (ns.map WData.int)] ∧ h.get? a = some { cls := .type "list", data := .seq vs.toArray } ∧ IntsAre vs ns ∧ ns.length ≤ n := by
  have hsh : WShape.hasAll [] args [.list .int] = true := (pre_splitW hpre).1
  have hc : l.pre.holds [] { args := args } = true := (pre_splitW hpre).2
  obtain ⟨d, r, rfl, h1, h2⟩ := hasAllW_cons hsh
  obtain rfl := hasAllW_nil h2
  obtain ⟨xs, rfl, h3⟩ := hasW_list h1
  obtain ⟨ns, rfl⟩ := items_int h3
  have hlen : ns.length ≤ n := by
    unfold OpenLaw.pre at hc
    have h4 : (WTm.not (.lt (.lit (.int (n : Int))) (.len (.arg 0)))).holds [] { args := [.list (ns.map .int)] } = true := by
      have h4 := (holds_andW hc).1
      rw [hn] at h4
      exact h4
    have h5 := condW_of h4 (w_not (w_lt w_lit (w_len_list (w_arg rfl))))
    rw [List.length_map] at h5
    refine Nat.le_of_not_lt fun q => ?_
    have q' : (n : Int) < ((ns.length : Nat) : Int) := by omega
    first
      | (rw [decide_eq_true q'] at h5; exact absurd h5 (by decide))
      | (simp at h5; omega)
  cases hwl with
  | cons w1 w2 =>
    cases w2
    cases w1 with
    | list ho hall => exact ⟨_, _, ns, rfl, rfl, ho, ints_of_wellAll ns _ hall, hlen⟩

theorem post_true (l : OpenLaw) (args : List WData) : l.row.toRowW.claim.post args (.bool true) args = true :=
  postW_of (r := l.row.toRowW) (X := (true == true))
    (show WShape.has [] (.bool true) .bool = true by first | rfl | decide | simp [WShape.has, WShape.arms, WShape.armsAll])
    (show (WTm.eq .res (.lit (.bool true))).value [] { args := args, res := some (.bool true), after := args } = some (.bool (true == true)) from w_eq_bool (w_res rfl) w_lit) rfl

/-! ### the attachment: holds_open's last premise (the goal 'hc' behind k_head) from a wpAny of the law's body -/
/-  the same from a codeAny of the CALL (for a layer whose function contracts speak of calls) -/
theorem attach_call {l : OpenLaw} {n : Nat} {q : Program} {loose : List Str} {XP : (Str → Option Value) → Heap → Prop} {YP : World → Heap → Prop} {d : DefRec}
    (hn : l.most = some n) (hdf : d.params.defaults = [])
    (call : ∀ (w : World) (s₀ s₁ : Shared) (mg mb : Str → Option Value) (fa : Addr) (o : Obj) (pm cd doc : Value) (a : Addr) (vs : List Value) (ns : List Int),
      Ground q loose [] XP w s₀ mg mb s₁.heap → YP w s₁.heap →
      s₁.heap.get? fa = some o → o.data = .func (docDef d.name d.params d.body d.scope pm cd doc) → s₁.heap.CodeRec cd d.name → mg d.name = some (.ref fa) →
      s₁.heap.get? a = some { cls := .type "list", data := .seq vs.toArray } → IntsAre vs ns → ns.length ≤ n → s₁.gens = #[] →
      codeAny (model l.prog w) callerA (.call (.ref fa) ⟨[.ref a], []⟩) (fun r s' => r = .ok (.ret (.bool true)) ∧ OldK s₁.heap s'.heap ∧ s'.os = s₁.os ∧ AllBare s'.gens) s₁) :
    WalkO q loose XP YP l.row.toRowW d [] (fun f vs => PySem.call f vs) := by
  intro w s₀ s₁ mg mb G Y fa o pm cd doc dV kV ho hd hcd hD hmg hg args vals as hpre hlay hrd hwl hlo
  obtain rfl : dV = .none := Dflts.none hD hdf
  obtain rfl : kV = .none := Dflts.noKw hD
  obtain ⟨a, vs, ns, rfl, rfl, hobj, hints, hlen⟩ := script_of hn hpre hwl
  refine enter_call (codeAny_mono (call w s₀ s₁ mg mb fa o pm cd doc a vs ns G Y ho (fd_plain hd) hcd hmg hobj hints hlen hg) fun r s' hq => ?_)
  obtain ⟨rfl, h2, h3, h4⟩ := hq
  exact ⟨.inl ⟨.bool true, .bool true, [], rfl, fun _ => rfl, .bool true, post_true l _, fun _ => ⟨List.Pairwise.nil, fun _ hm => (nomatch hm)⟩⟩, h2, h3, h4⟩

/-  the same where the top left finished generators (o_head chose holds_openN): nothing may have changed at all and no generator may be left -/
/-! ### rules over ANY heap (no ledger) from facts about the written part K: the library's own take a ledger (News) for what they write -/
section
variable {prog : Program} {w : World} {A : Around} {E : Value → Shared → Prop} {s : Shared} {K : Frag}

/-  a def of the module, or a method (qual 'C.m'), entered: the frame is the next address; cells behind it -/
/-  C(..): dict at size, instance at size + 1, then __init__ -/
/-  x.name where the instance's dict holds the name and the class does not -/
/-  x.m(..): the method found in the class -/
/-! the whole heap as the ledger: makes every rule that writes through a ledger a rule over any heap -/
def noObjs (h : Heap) : Heap := { h with objs := #[] }
def ledger (h : Heap) (L d : Addr) : List (Addr × Obj) := (List.range h.objs.size).filterMap fun a => if a = L ∨ a = d then none else (h.get? a).map fun o => (a, o)
/-  Upd of the head entry (for append_K, setItem_K ..) -/
/-  x.name = v over any heap: L is any namespace of the heap (the frame's, say): its map stays, its object is not told; all else but the dict stays -/
end
end Att

namespace L2
open PySem PySem.Spec PyProof.Rows

theorem vals_ints : ∀ {vs : List Value} {ns : List Int}, IntsAre vs ns → Vals (ns.map V.int) vs
  | _, _, .nil => .nil
  | _, _, .cons n t h => .cons ⟨t, rfl⟩ (vals_ints h)

/-  nothing is tracked but the script, known to the object (or it is an object of the module) -/
def Only (H : Hp) : Prop := ∀ b, H b = none ∨ ∃ o xs, H b = some (.frz o (.lst xs))

/-  THE HEAD: the law's promise, at the heap behind the top. F, the promise of the law's def, may use that base is part of the heap (so K.In base, base.Ns mainGlobals mg stand in Mod) -/
end L2

namespace L2
open PySem PySem.Spec PyProof.Rows

abbrev KOf {K : PySem.W.Frag} {h : Heap} (_ : K.In h) : PySem.W.Frag := K

/-  the goal that k_head leaves (case hc), from the law's promise. F gives the function object fd (K's own) once, then the promise over every base -/
/-  the same where the promise hangs on the written part alone: (sp := My.sp_law), no hole under a binder -/
end L2

/- THE LAST THEOREM (shape; LID, My.* are yours):
   My.Adr: a structure of the addresses that your layer names (classes, functions); My.Txt K t: a structure (Prop) of the equations over K;
   My.txt_mk : {K} {implicit addresses ..} (e1 : nsIn K mainGlobals "law" = some (some (.ref f))) (e2 : K.lookup f = some ⟨oc, od, .func (fnOf "law" "law" params body scope dV kV doc pm an cdv ct), sl⟩) (e3 : codeIn K cdv "law" = true) .. : ∃ t, My.Txt K t

set_option maxRecDepth 100000 in
set_option maxHeartbeats 0 in
theorem PySem.Challenge.cw_LID_holds : PySem.Challenge.rw_LID.Holds := by
  w_on; o_law; k_head; (case hw => w_witness2)
  k_fill
  refine L2.walk_of (l := PySem.Challenge.rw_LID) (n := 63) (k := 40) (x := "script") (CX := fun w => ..) (sp := fun _ => My.sp_law) rfl (by decide) rfl ⟨rfl, by decide, by decide⟩ (fun w h Y => PySem.W.kIn_of Y) ?F ?S ?C
  case F =>
    intro w mg fa h KX G hmg
    have T : ∃ t, My.Txt (L2.KOf KX) t := by
      dsimp only [L2.KOf]                          -- K must stand as «<heap const> w.params» for k_is
      refine' My.txt_mk ?e1 ?e2 ?e3 ..
      (case e1 => PySem.W.k_is)                    -- in the order: a name -> its address -> its object -> its parts
      (case e2 => PySem.W.k_is)
      ..
    obtain ⟨t, T⟩ := T
    have e0 := hmg.symm.trans (PySem.W.mg_of KX G T.law)
    cases e0                                       -- fa is the law's own address
    exact ⟨_, fun s u => .of_eq rfl, fun base kb nb => My.law_fn T kb nb⟩     -- if «.of_eq rfl» comes too early: refine' ⟨_, ?b, fun base kb nb => My.law_fn T kb nb⟩; exact fun s u => .of_eq rfl
  case S => exact fun w H a ns hl hO hS => ..
  case C => exact ..
(the tactic k_is has no namespace: write k_is) -/

/-! SHORT WORDS over the layer: a def of the text, its body, what a loop and a test want. -/
namespace L2
open PySem PySem.Spec PyProof.Rows

/-! ### the text by places -/
/-  the j-th statement of a class's body -/
def inClass (s : Stmt) (j : Nat) : Stmt := match s with
  | .ClassDef _ _ _ body _ _ _ _ _ _ _ => body.getD j (.Pass ⟨0, 0, 0, 0⟩)
  | _ => .Pass ⟨0, 0, 0, 0⟩
def defArgs (s : Stmt) : Arguments := match s with
  | .FunctionDef _ a _ _ _ _ _ _ _ _ => a
  | _ => { posonlyargs := [], args := [], vararg := none, kwonlyargs := [], kw_defaults := [], kwarg := none, defaults := [] }
def defBody (s : Stmt) : List Stmt := match s with
  | .FunctionDef _ _ b _ _ _ _ _ _ _ => b
  | _ => []
def defScope (s : Stmt) : Scope := match s with
  | .FunctionDef _ _ _ _ _ _ sc _ _ _ => sc
  | _ => { kind := .function, names := [], isGenerator := false, isCoroutine := false }

/-! ### no exception leaves a def -/
abbrev CX0 : CXT := fun _ _ _ _ _ _ => False
abbrev E0 : XK := fun _ _ _ => False
theorem pass0 {X : Cx} : Passes CX0 X E0 := fun _ _ _ _ _ _ _ h => h.elim

/-! ### a def (or method) of the text as it stands behind the top -/
structure Fun (K : PySem.W.Frag) (x qual : Str) (st : Stmt) (f : Addr) (fd : FuncData) : Prop where
  ex : ∃ (oc : Value) (od : Option Addr) (kV doc pm : Value) (an : Option Addr) (cdv ct : Value) (osl : Array (Option Value)),
    fd = PySem.W.fnOf x qual (defArgs st) (defBody st) (defScope st) .none kV doc pm an cdv ct ∧ K.lookup f = some ⟨oc, od, .func fd, osl⟩ ∧ PySem.W.codeIn K cdv qual = true
  kp : PySem.W.keepIn K (.ref f) = true
section
variable {P : Program} {w : World} {K : PySem.W.Frag} {mg : Str → Option Value} {base : Heap}
/-  THE RULE for a def: its body as a term of rules, and the reading of that term -/
theorem Fun.ok {x qual : Str} {st : Stmt} {f : Addr} {fd : FuncData} {N ps : List Str} {k : Nat} {sp : Sp} (F : Fun K x qual st f fd) (S : FnScope N ps (defScope st)) (len : ∀ vs H Q E, sp vs H Q E → vs.length = ps.length)
    (hbody : ∀ (cdv : Value) (A : Around) (outer : List Env) (s : Shared) (H : Hp) (vs : List V) (Q : VK) (E : XK), Room k (A.deeper (envOfC qual (defScope st) s.heap.objs.size f cdv)) → sp vs H Q E →
      ∃ t, PSs (cxOf CX0 P w K mg base N qual (defScope st) f cdv A outer s H E).nox (defBody st) t ∧ t { nx := fun _ H' => Q .non H', rt := Q } (start N vs) H) : FnOk P w K mg base CX0 (k + 1) f fd ps sp := by
  obtain ⟨oc, od, kV, doc, pm, an, cdv, ct, osl, rfl, lk, hcd⟩ := F.ex
  refine fn_of lk hcd S len fun A outer s H vs Q E hr hsp => ?_
  obtain ⟨t, h, q⟩ := hbody cdv A outer s H vs Q E hr hsp
  exact ⟨t, h.nox, q⟩
/-  how its arguments bind (no defaults): h is «fun _ _ _ _ _ _ us hl => match us, hl with | [_, _], _ => rfl», one _ a parameter -/
theorem Fun.binds {x qual : Str} {st : Stmt} {f : Addr} {fd : FuncData} {ps : List Str} (F : Fun K x qual st f fd)
    (h : ∀ (kV doc pm : Value) (an : Option Addr) (cdv ct : Value) (us : List Value), us.length = ps.length → bindArgs (PySem.W.fnOf x qual (defArgs st) (defBody st) (defScope st) .none kV doc pm an cdv ct) ⟨us, []⟩ = pure (ps.zip us)) : Binds K fd ps [] := by
  obtain ⟨oc, od, kV, doc, pm, an, cdv, ct, osl, rfl, lk, hcd⟩ := F.ex
  exact .all (h kV doc pm an cdv ct)
theorem fun_mk {x qual : Str} {st : Stmt} {f : Addr} {oc : Value} {od an : Option Addr} {osl : Array (Option Value)} {kV doc pm cdv ct : Value} (l : K.lookup f = some ⟨oc, od, .func (PySem.W.fnOf x qual (defArgs st) (defBody st) (defScope st) .none kV doc pm an cdv ct), osl⟩)
    (c : PySem.W.codeIn K cdv qual = true) (k : PySem.W.keepIn K (.ref f) = true) : Fun K x qual st f (PySem.W.fnOf x qual (defArgs st) (defBody st) (defScope st) .none kV doc pm an cdv ct) := ⟨⟨oc, od, kV, doc, pm, an, cdv, ct, osl, rfl, l, c⟩, k⟩
end
/-! ### expressions in short: the name that stands in the i-th slot -/
section
variable {X : Cx}
end

/-! ### tests -/
/-! ### heaps -/
/-  all that was tracked is as it was -/
def Same (H H' : Hp) : Prop := ∀ b o, H b = some o → H' b = some o
theorem Same.refl (H : Hp) : Same H H := fun _ _ h => h
theorem Same.trans {H H1 H2 : Hp} (a : Same H H1) (b : Same H1 H2) : Same H H2 := fun c o h => b c o (a c o h)
theorem Same.free {H H' : Hp} (e : Same H H') {l : Addr} (h : H' l = Option.none) : H l = Option.none := by
  cases q : H l with
  | none => rfl
  | some o =>
    rw [e l o q] at h
    cases h
theorem Same.seq {K : PySem.W.Frag} {H H' : Hp} {a : Addr} {xs : List V} (e : Same H H') (h : SqL K H a xs) : SqL K H' a xs := by
  rcases h with (h | ⟨o, h⟩) | h
  · exact .inl (.inl (e _ _ h))
  · exact .inl (.inr ⟨o, e _ _ h⟩)
  · exact .inr h

section
variable {X : Cx}
/-  len of a dict -/
end

/-! ### a dict's pairs: keys that differ -/
section
variable {κ : Type} [DecidableEq κ]
end
end L2


set_option maxHeartbeats 4000000
/-! ROWS OF OUR OWN over the hand layer: readings that compute. -/
namespace L2
open PySem PySem.Spec PyProof.Rows
section
variable {X : Cx}
theorem PE.imp {e : Expr} {t t' : TE} (h : PE X e t) (i : ∀ σ H Q, t' σ H Q → t σ H Q) : PE X e t' :=
  fun pins s σ H Q I q => h pins s σ H Q I (i σ H Q q)
theorem PT.imp {e : Expr} {t t' : TT} (h : PT X e t) (i : ∀ σ H Q, t' σ H Q → t σ H Q) : PT X e t' :=
  fun pins s σ H Q I q => h pins s σ H Q I (i σ H Q q)
theorem OpR.imp {f : Value → Value → Sem Value} {r r' : R2} (h : OpR X f r) (i : ∀ x y H Q, r' x y H Q → r x y H Q) : OpR X f r' :=
  fun pins s σ H x y v u Q I rx ry q => h pins s σ H x y v u Q I rx ry (i x y H Q q)
theorem UnR.imp {f : Value → Sem Value} {r r' : V → Hp → VK → Prop} (h : UnR X f r) (i : ∀ x H Q, r' x H Q → r x H Q) : UnR X f r' :=
  fun pins s σ H x v Q I rx q => h pins s σ H x v Q I rx (i x H Q q)
theorem CallR.imp {f : Value} {r r' : List V → Hp → VK → Prop} (h : CallR X f r) (i : ∀ xs H Q, r' xs H Q → r xs H Q) : CallR X f r' :=
  fun pins s σ H xs us Q I rv q => h pins s σ H xs us Q I rv (i xs H Q q)
/-  one of two readings of the same expression -/
/-! names -/
def cVar (i : Nat) : TE := fun σ H Q => match σ[i]? with
  | some (some v) => Q v H
  | _ => False
theorem cVar_imp {i : Nat} {σ : St} {H : Hp} {Q : VK} (q : cVar i σ H Q) : tVar i σ H Q := by
  unfold cVar at q
  split at q
  · rename_i v e; exact ⟨v, e, q⟩
  · exact q.elim
theorem cv (i : Nat) {x : Str} {pos : Pos} (hN : X.N[i]? = some x := by rfl) (hv : Vis X.env.scope x := by first | exact Or.inl rfl | exact Or.inr (Or.inl rfl) | exact Or.inr (Or.inr rfl)) (hd : (x == ("__debug__" : Str)) = false := by decide)
    (hcd : (x == ("__classdict__" : Str)) = false := by decide) : PE X (.Name x pos) (cVar i) := (pe_var hN hv hd hcd).imp fun _ _ _ q => cVar_imp q

/-! ints -/
def kI (C : Int → Int → Prop) (g : Int → Int → V) : R2 := fun x y H Q => match x with
  | .int i => (match y with
    | .int j => C i j ∧ Q (g i j) H
    | _ => False)
  | _ => False
def kI0 (g : Int → Int → V) : R2 := fun x y H Q => match x with
  | .int i => (match y with
    | .int j => Q (g i j) H
    | _ => False)
  | _ => False
theorem kI_imp {C : Int → Int → Prop} {g : Int → Int → V} {x y : V} {H : Hp} {Q : VK} (q : kI C g x y H Q) : rI C g x y H Q := by
  cases x with
  | int i =>
    cases y with
    | int j => exact ⟨i, j, rfl, rfl, q.1, q.2⟩
    | _ => exact False.elim q
  | _ => exact False.elim q
theorem kI0_imp {g : Int → Int → V} {x y : V} {H : Hp} {Q : VK} (q : kI0 g x y H Q) : rI0 g x y H Q := by
  cases x with
  | int i =>
    cases y with
    | int j => exact ⟨i, j, rfl, rfl, q⟩
    | _ => exact False.elim q
  | _ => exact False.elim q
theorem o_add : OpR X (binaryOp .Add) (kI0 fun i j => .int (i + j)) := op_add.imp fun _ _ _ _ => kI0_imp
theorem o_sub : OpR X (binaryOp .Sub) (kI0 fun i j => .int (i - j)) := op_sub.imp fun _ _ _ _ => kI0_imp
theorem o_mul : OpR X (binaryOp .Mult) (kI CMul fun i j => .int (i * j)) := op_mul.imp fun _ _ _ _ => kI_imp
def CDivB (_i j : Int) : Prop := 0 < j ∧ j.natAbs.log2 < 9000
theorem o_fdiv : OpR X (binaryOp .FloorDiv) (kI CDivB fun i j => .int (i / j)) :=
  (opI (C := CDivB) (g := fun i j => i / j) fun i j _ _ _ _ _ hc q => by
    have h0 : 0 < j := hc.1
    rw [← Int.fdiv_eq_ediv_of_nonneg i (Int.le_of_lt h0)] at q
    exact floordiv_int (Int.ne_of_gt h0) q (.inl (PyProof.noPylong_of_log2 hc.2))).imp fun _ _ _ _ => kI_imp
theorem o_mod : OpR X (binaryOp .Mod) (kI (fun _ j => 0 < j) fun i j => .int (i % j)) := op_mod.imp fun _ _ _ _ => kI_imp
theorem o_pow : OpR X (binaryOp .Pow) (kI CPow fun i j => .int (i ^ j.toNat)) := op_pow.imp fun _ _ _ _ => kI_imp
theorem o_lt : OpR X (compareOp .Lt) (kI0 fun i j => .bl (decide (i < j))) := op_lt.imp fun _ _ _ _ => kI0_imp
theorem o_gt : OpR X (compareOp .Gt) (kI0 fun i j => .bl (decide (j < i))) := op_gt.imp fun _ _ _ _ => kI0_imp
theorem o_ge : OpR X (compareOp .GtE) (kI0 fun i j => .bl (decide (j ≤ i))) := op_ge.imp fun _ _ _ _ => kI0_imp
theorem dec_V {a b : V} {p : Prop} [Decidable p] (h : a = b ↔ p) : decide (a = b) = decide p := by
  by_cases e : p
  · rw [decide_eq_true e, decide_eq_true (h.mpr e)]
  · rw [decide_eq_false e, decide_eq_false (fun q => e (h.mp q))]
theorem o_eqI : OpR X (compareOp .Eq) (kI0 fun i j => .bl (decide (i = j))) := op_eq.imp fun x y H Q q => by
  obtain ⟨i, j, rfl, rfl, q⟩ := kI0_imp q
  exact ⟨rfl, by rw [dec_V (p := i = j) ⟨fun e => V.int.inj e, fun e => by rw [e]⟩]; exact q⟩
theorem o_neI : OpR X (compareOp .NotEq) (kI0 fun i j => .bl (!decide (i = j))) := op_ne.imp fun x y H Q q => by
  obtain ⟨i, j, rfl, rfl, q⟩ := kI0_imp q
  exact ⟨rfl, by rw [dec_V (p := i = j) ⟨fun e => V.int.inj e, fun e => by rw [e]⟩]; exact q⟩
/-  == of two texts -/
def kS0 (g : Str → Str → V) : R2 := fun x y H Q => match x with
  | .str i => (match y with
    | .str j => Q (g i j) H
    | _ => False)
  | _ => False
def kU (g : Int → V) : V → Hp → VK → Prop := fun x H Q => match x with
  | .int i => Q (g i) H
  | _ => False
theorem o_neg : UnR X (unaryOp .USub) (kU fun i => .int (-i)) := un_neg.imp fun x H Q q => by
  cases x with
  | int i => exact ⟨i, rfl, q⟩
  | _ => exact False.elim q

/-! tests, branches: two functions, one a way -/
def boolK (Q : Bool → Hp → Prop) : VK := fun x H1 => match x with
  | .bl k => Q k H1
  | _ => False
theorem boolK_of {Q : Bool → Hp → Prop} {x : V} {H1 : Hp} (q : boolK Q x H1) : ∃ k, x = .bl k ∧ Q k H1 := by
  cases x with
  | bl k => exact ⟨k, rfl, q⟩
  | _ => exact False.elim q
def cB (t : TE) : TT := fun σ H Q => t σ H (boolK Q)
variable {a b c : Expr} {ta tb tc : TE} {tA tB' : TT} {pos : Pos} {rest : List Expr}
theorem ct_cmp {op : CmpOp} {r : R2} (ho : OpR X (compareOp op) r) (ha : PE X a ta) (hb : PE X b tb) (hm : behindInMarks op b = false := by exact nomark _) : PT X (.Compare a [op] [b] pos) (cB (tOp r ta tb)) := by
  intro pins s σ H Q I h
  refine wpAny_isTrue_Compare1 (thn (ha pins s σ H _ I h) fun v s1 ⟨x, H1, I1, r1, q1⟩ => thn (hb pins s1 σ H1 _ I1 q1) fun u s2 ⟨y, H2, I2, r2, q2⟩ =>
    thn (ho pins s2 σ H2 x y v u _ I2 r1 r2 q2) fun c s3 ⟨z, H3, I3, r3, q3⟩ => ?_) hm
  obtain ⟨k, rfl, q⟩ := boolK_of q3
  cases r3
  exact wpAny_truthy_bool ⟨H3, I3, q⟩
theorem ce_cmp {op : CmpOp} {r : R2} (ho : OpR X (compareOp op) r) (ha : PE X a ta) (hb : PE X b tb) (hm : behindInMarks op b = false := by exact nomark _) : PE X (.Compare a [op] [b] pos) (tOp r ta tb) := pe_cmpR ho ha hb hm
theorem ct_val {e : Expr} {t : TE} (h : PE X e t) (he : ∀ whole, isTrue e X.env whole = (do let v ← whole; standAt e.pos; holding [v] (truthy v)) := by intro _; rfl) : PT X e (cB t) := by
  intro pins s σ H Q I hw
  refine isTrue_plain (thn (h pins s σ H _ I hw) fun v s1 ⟨x, H1, I1, r1, q1⟩ => ?_) (he _)
  obtain ⟨d, rfl, q⟩ := boolK_of q1
  cases r1
  exact wpAny_truthy_bool ⟨H1, I1, q⟩
def cAnd (t u : TT) : TT := fun σ H Q => t σ H fun c H1 => (c = true → u σ H1 Q) ∧ (c = false → Q false H1)
def cOr (t u : TT) : TT := fun σ H Q => t σ H fun c H1 => (c = true → Q true H1) ∧ (c = false → u σ H1 Q)
theorem cw_and (ha : PT X a tA) (hb : PW X (.BoolOp .And (b :: rest) pos) tB') : PW X (.BoolOp .And (a :: b :: rest) pos) (cAnd tA tB') := by
  intro wh pins s σ H Q I h
  refine isTrue_and (thn (ha pins s σ H _ I h) fun c s1 ⟨H1, I1, q1⟩ => ?_)
  cases c with
  | true => exact hb wh pins s1 σ H1 Q I1 (q1.1 rfl)
  | false => exact ⟨H1, I1, q1.2 rfl⟩
theorem cw_or (ha : PT X a tA) (hb : PW X (.BoolOp .Or (b :: rest) pos) tB') : PW X (.BoolOp .Or (a :: b :: rest) pos) (cOr tA tB') := by
  intro wh pins s σ H Q I h
  refine isTrue_or (thn (ha pins s σ H _ I h) fun c s1 ⟨H1, I1, q1⟩ => ?_)
  cases c with
  | true => exact ⟨H1, I1, q1.1 rfl⟩
  | false => exact hb wh pins s1 σ H1 Q I1 (q1.2 rfl)
/-  and, or as values (bools) -/
def cAndV (ta tb : TE) : TE := fun σ H Q => ta σ H (boolK fun c H1 => (c = true → tb σ H1 Q) ∧ (c = false → Q (.bl false) H1))
def cOrV (ta tb : TE) : TE := fun σ H Q => ta σ H (boolK fun c H1 => (c = true → Q (.bl true) H1) ∧ (c = false → tb σ H1 Q))
def cNotV (ta : TE) : TE := fun σ H Q => ta σ H (boolK fun c H1 => Q (.bl (!c)) H1)
def cIf (t : TT) (ta tb : TE) : TE := fun σ H Q => t σ H fun c H1 => (c = true → ta σ H1 Q) ∧ (c = false → tb σ H1 Q)
def cIfS (c : TT) (t u : TS) : TS := fun D σ H => c σ H fun b H1 => (b = true → t D σ H1) ∧ (b = false → u D σ H1)
theorem cs_if {c : Expr} {p q : List Stmt} {tc : TT} {t u : TS} (hc : PT X c tc) (ha : PSs X p t) (hb : PSs X q u) : PS X (.If c p q pos) (cIfS tc t u) := by
  intro pins s σ H D I h
  refine wpAny_If (thn (hc pins s σ H _ I h) fun d s1 ⟨H1, I1, q1⟩ => ?_)
  cases d with
  | true => exact ha pins s1 σ H1 D I1 (q1.1 rfl)
  | false => exact hb pins s1 σ H1 D I1 (q1.2 rfl)
/-  a op1 b op2 c -/
def cChain (r r' : R2) (ta tb tc : TE) : TE := fun σ H Q => ta σ H fun x H1 => tb σ H1 fun y H2 => r x y H2 (boolK fun k H3 =>
  (k = true → tc σ H3 fun w' H4 => r' y w' H4 Q) ∧ (k = false → Q (.bl false) H3))
/-  loops; opened by their forms alone -/
@[irreducible] def WhileAt (c : TT) (tb : TS) (D : Ends) (σ : St) (H : Hp) : Prop := ∃ W : Nat → St → Hp → Prop, (∃ m, W m σ H) ∧ ∀ m σ H, W m σ H →
  c σ H fun b H1 => (b = true → ∃ N : St → Hp → Prop, (∀ σ' H', N σ' H' → ∃ m', m' < m ∧ W m' σ' H') ∧ tb { D with nx := N, ct := N, bk := D.nx } σ H1) ∧ (b = false → D.nx σ H1)
def cWhile (c : TT) (tb : TS) : TS := fun D σ H => WhileAt c tb D σ H
@[irreducible] def ForAt (J : It) (g : TG) (tb : TS) (D : Ends) (σ : St) (H1 : Hp) : Prop := ∃ W : Nat → Nat → St → Hp → Prop, (∃ m, W 0 m σ H1) ∧ ∀ i m σ H, W i m σ H →
  (J.stop i H ∧ D.nx σ H) ∨ (J.go i H ∧ ∃ N : St → Hp → Prop, (∀ σ' H', N σ' H' → ∃ m', m' < m ∧ W (i + 1) m' σ' H') ∧ ∀ x H', J.yld i H x H' → g x σ H' fun σ2 H2 => tb { D with nx := N, ct := N, bk := D.nx } σ2 H2)
def cFor (wi : TI) (g : TG) (tb : TS) : TS := fun D σ H => wi σ H fun J H1 => ForAt J g tb D σ H1
theorem cFor_eq (wi : TI) (g : TG) (tb : TS) : cFor wi g tb = tFor wi g tb := by
  funext D σ H
  unfold cFor tFor
  congr 1
  funext J H1
  unfold ForAt
  rfl
theorem cs_for {tg iter : Expr} {body : List Stmt} {wi : TI} {g : TG} {tb : TS} {pos : Pos} (hp : PassesOwn (model X.prog X.w) X.A X.env X.xe) (hc : X.calm = true) (hi : PI X tg iter wi) (hg : PG X tg g) (hb : PSs X body tb)
    (hs : ∀ x, foldedSetIterable iter X.env x = pure x := by intro _; rfl) : PS X (.For tg iter body [] pos) (cFor wi g tb) := by
  rw [cFor_eq]
  exact ps_for hp hc hi hg hb hs
/-  a word behind a statement: its two ways are joined -/
def tCut (t : TS) : TS := fun D σ H => ∃ M : L2.St → Hp → Prop, t { D with nx := M } σ H ∧ ∀ σ' H', M σ' H' → D.nx σ' H'
theorem cs_cut {st : Stmt} {t : TS} (h : PS X st t) : PS X st (tCut t) := by
  intro pins s σ H D I q
  obtain ⟨M, q1, q2⟩ := q
  refine thn (h pins s σ H _ I q1) fun f s' z => ?_
  cases f with
  | next => obtain ⟨σ', H', I', m⟩ := z; exact ⟨σ', H', I', q2 σ' H' m⟩
  | brk => exact z
  | cont => exact z
  | ret v => exact z
/-  name = value, the value a letter from here on -/
def cLet (i : Nat) : TG := fun v σ H Q => ∀ y, y = v → Q (σ.set i (some y)) H
theorem cLet_eq (te : TE) (i : Nat) : tAsg te (cLet i) = tAsg te (gName i) := by
  funext D σ H
  unfold tAsg
  congr 1
  funext x H1
  exact propext ⟨fun q => q x rfl, fun q y e => by rw [e]; exact q⟩
theorem cs_let {i : Nat} {x : Str} {e : Expr} {te : TE} {pos' : Pos} (hN : X.N.Nodup) (hi : X.N[i]? = some x) (hx : Loc X.env.scope x) (he : PE X e te) (hs : swapsWith e (some (.Name x pos')) pos.line X.env = pure false := by rfl)
    (hf : X.fn x = true ∨ X.env.scope.names.lookup x = some .local := by first | exact .inl rfl | exact .inr rfl | assumption) : PS X (.Assign [.Name x pos'] e pos) (tAsg te (cLet i)) := by
  rw [cLet_eq]
  exact ps_set hN hi hx he hs hf
theorem let_int {e : Int} {G : V → Prop} (h : ∀ i, i = e → G (.int i)) : ∀ y, y = V.int e → G y := fun y q => by rw [q]; exact h e rfl
theorem let_ref {v : V} {G : V → Prop} (h : G v) : ∀ y, y = v → G y := fun y q => by rw [q]; exact h
end
end L2

/-! A LIST COMPREHENSION of one clause, with or without a test; its block runs in a context of its own. -/
namespace L2
open PySem PySem.Spec PyProof.Rows

/-  the cells that a block draws from around it -/
def clOf (cells : List (Str × Addr)) : List (Str × NameKind) → List (Str × Addr) → List (Str × Addr)
  | [], cs => cs
  | (n, k) :: r, cs => clOf cells r (if k == .free then (n, (cells.lookup n).getD 0) :: cs else cs)
theorem closure_is {scope : Scope} {env : Env} (h : ∀ y ∈ scope.names, y.2 = .free → ∃ c, env.cells.lookup y.1 = some c) : closureFor scope env = pure (clOf env.cells scope.names []) := by
  have all : ∀ (l : List (Str × NameKind)) (cs : List (Str × Addr)), (∀ y ∈ l, y.2 = .free → ∃ c, env.cells.lookup y.1 = some c) →
      (forIn l cs fun x r => match x with
        | (name, kind) => if (kind == NameKind.free) = true then do let a ← cellOf env name; pure (ForInStep.yield ((name, a) :: r)) else pure (ForInStep.yield r) : Sem (List (Str × Addr))) = pure (clOf env.cells l cs) := by
    intro l
    induction l with
    | nil => intro cs _; rfl
    | cons y r ih =>
      intro cs hl
      obtain ⟨n, k⟩ := y
      rw [List.forIn_cons]
      by_cases hk : k = .free
      · subst hk
        obtain ⟨c, hc⟩ := hl (n, .free) List.mem_cons_self rfl
        have e : cellOf env n = pure c := by unfold cellOf; rw [hc]
        simp only [beq_self_eq_true, if_true, e, pure_bind]
        rw [ih _ fun z hz => hl z (List.mem_cons_of_mem _ hz)]
        simp [clOf, hc]
      · have hb : (k == NameKind.free) = false := by simpa using hk
        simp only [hb, Bool.false_eq_true, if_false, pure_bind]
        rw [ih _ fun z hz => hl z (List.mem_cons_of_mem _ hz)]
        simp [clOf, hb]
  unfold closureFor
  have := all scope.names [] h
  simp only [bind_pure] at this ⊢
  exact this
theorem clOf_sub {cells : List (Str × Addr)} : ∀ {l : List (Str × NameKind)} {cs : List (Str × Addr)} {x : Str} {c : Addr}, (∀ y ∈ l, y.2 = .free → ∃ c, cells.lookup y.1 = some c) → (clOf cells l cs).lookup x = some c →
    cs.lookup x = some c ∨ cells.lookup x = some c
  | [], cs, x, c, _, h => .inl h
  | (n, k) :: r, cs, x, c, hl, h => by
    unfold clOf at h
    rcases clOf_sub (fun z hz => hl z (List.mem_cons_of_mem _ hz)) h with q | q
    · split at q
      · rename_i hk
        rw [List.lookup_cons] at q
        split at q
        · rename_i hx
          obtain ⟨c', hc⟩ := hl (n, k) List.mem_cons_self (by simpa using hk)
          have e : x = n := by simpa using hx
          subst e
          rw [hc] at q
          right
          rw [hc]
          simpa using q
        · exact .inl q
      · exact .inl q
    · exact .inr q
theorem clOf_mem {cells : List (Str × Addr)} : ∀ {l : List (Str × NameKind)} {cs : List (Str × Addr)} {x : Str}, (x, NameKind.free) ∈ l ∨ (∃ c, cs.lookup x = some c) → ∃ c, (clOf cells l cs).lookup x = some c
  | [], cs, x, h => by
    rcases h with h | h
    · simp at h
    · exact h
  | (n, k) :: r, cs, x, h => by
    unfold clOf
    refine clOf_mem ?_
    rcases h with h | ⟨c, h⟩
    · rcases List.mem_cons.mp h with h | h
      · cases h
        right
        simp
      · exact .inl h
    · right
      split
      · rw [List.lookup_cons]
        split
        · exact ⟨_, rfl⟩
        · exact ⟨c, h⟩
      · exact ⟨c, h⟩

/-  the block's context -/
def Cx.blk (X : Cx) (scope : Scope) (C : Addr) (Nc : List Str) (s₂ : Shared) (H₂ : Hp) (fp : List Addr) : Cx :=
  { X with N := Nc, s₀ := s₂, H₀ := H₂, env := compEnvC scope (clOf X.env.cells scope.names []) C X.env, outer := X.stack, stack := X.stack, ex := fp, fn := fun _ => false, pn := [], xe := fun _ _ => False, cp := fun _ => false }

/-  the slots of the frame that a block sees -/
def CapOk (X : Cx) (scope : Scope) : List Nat → List Str → Prop
  | [], [] => True
  | j :: js, y :: ys => (X.N[j]? = some y ∧ scope.names.lookup y = some .free ∧ (X.env.kindOf y = some .cell ∨ X.env.kindOf y = some .free)) ∧ CapOk X scope js ys
  | _, _ => False
def capV (σ : St) (cap : List Nat) : St := cap.map fun j => (σ[j]?).getD none
structure BlkOk (X : Cx) (scope : Scope) (x : Str) (cap : List Nat) (ys : List Str) : Prop where
  kind : scope.kind = .function
  nocell : ∀ y ∈ scope.names, y.2 ≠ .cell
  locs : ∀ y ∈ scope.names, y.2 = .local → scope.names.lookup y.1 = some .local
  lx : scope.names.lookup x = some .local
  fr : ∀ y ∈ scope.names, y.2 = .free → X.env.kindOf y.1 = some .cell ∨ X.env.kindOf y.1 = some .free
  cap : CapOk X scope cap ys
  nd : (x :: ys).Nodup
theorem blk_mk {X : Cx} {scope : Scope} {x : Str} {cap : List Nat} {ys : List Str} (kind : scope.kind = .function) (h1 : (scope.names.all fun y => !(y.2 == .cell)) = true) (h2 : (scope.names.all fun y => !(y.2 == .local) || scope.names.lookup y.1 == some .local) = true)
    (hx : scope.names.lookup x = some .local) (h3 : (scope.names.all fun y => !(y.2 == .free) || (X.env.kindOf y.1 == some .cell || X.env.kindOf y.1 == some .free)) = true) (hcap : CapOk X scope cap ys) (hnd : (x :: ys).Nodup) : BlkOk X scope x cap ys := by
  refine ⟨kind, fun y hy e => ?_, fun y hy e => ?_, hx, fun y hy e => ?_, hcap, hnd⟩
  · have := List.all_eq_true.mp h1 y hy
    rw [e] at this; exact absurd this (by decide)
  · have := List.all_eq_true.mp h2 y hy
    rw [e] at this
    simpa using this
  · have := List.all_eq_true.mp h3 y hy
    rw [e] at this
    simpa using this
theorem capOk_get {X : Cx} {scope : Scope} {σ : St} : ∀ {cap : List Nat} {ys : List Str} {i : Nat} {y : Str} {v : V}, CapOk X scope cap ys → ys[i]? = some y → (capV σ cap)[i]? = some (some v) →
    ∃ j : Nat, X.N[j]? = some y ∧ σ[j]? = some (some v) ∧ scope.names.lookup y = some .free ∧ (X.env.kindOf y = some .cell ∨ X.env.kindOf y = some .free)
  | [], [], i, y, v, _, h, _ => by simp at h
  | j :: js, z :: zs, 0, y, v, ⟨⟨h1, h2, h3⟩, _⟩, e1, e2 => by
    simp at e1; subst e1
    refine ⟨j, h1, ?_, h2, h3⟩
    simp only [capV, List.map_cons, List.getElem?_cons_zero, Option.some.injEq] at e2
    cases q : σ[j]? with
    | none => rw [q] at e2; cases e2
    | some w => rw [q] at e2; simp at e2; rw [e2]
  | j :: js, z :: zs, i + 1, y, v, ⟨_, h⟩, e1, e2 => capOk_get (i := i) h (by simpa using e1) (by simpa [capV] using e2)
  | [], _ :: _, _, _, _, h, _, _ => h.elim
  | _ :: _, [], _, _, _, h, _, _ => h.elim
theorem capOk_len {X : Cx} {scope : Scope} : ∀ {cap : List Nat} {ys : List Str}, CapOk X scope cap ys → cap.length = ys.length
  | [], [], _ => rfl
  | _ :: _, _ :: _, ⟨_, h⟩ => by simp [capOk_len h]
  | [], _ :: _, h => h.elim
  | _ :: _, [], h => h.elim

theorem lookup_mem_names {l : List (Str × NameKind)} {y : Str} {k : NameKind} (h : l.lookup y = some k) : (y, k) ∈ l := PySem.mem_of_lookup h

/-  the relabelled scope: a free name stays free or becomes the frame's cell -/
theorem relabel_free {env : Env} : ∀ {names : List (Str × NameKind)} {x : Str}, names.lookup x = some .free →
    (names.map fun (n, k) => if (k == NameKind.free && env.scope.kind == .function && env.kindOf n == some .cell) then (n, NameKind.cell) else (n, k)).lookup x = some .cell ∨
    (names.map fun (n, k) => if (k == NameKind.free && env.scope.kind == .function && env.kindOf n == some .cell) then (n, NameKind.cell) else (n, k)).lookup x = some .free
  | [], _, h => by simp at h
  | (n, k) :: r, x, h => by
    have ih := @relabel_free env r x
    rw [List.map_cons]
    rw [List.lookup_cons] at h
    cases hx : x == n with
    | true =>
      rw [hx] at h
      simp only [Option.some.injEq] at h
      subst h
      dsimp only
      split
      · left; rw [List.lookup_cons, hx]
      · right; rw [List.lookup_cons, hx]
    | false =>
      rw [hx] at h
      dsimp only
      split
      · rw [List.lookup_cons, hx]; exact ih h
      · rw [List.lookup_cons, hx]; exact ih h
theorem relabel_of {env : Env} : ∀ {names : List (Str × NameKind)} {x : Str} {k : NameKind},
    (names.map fun (n, k) => if (k == NameKind.free && env.scope.kind == .function && env.kindOf n == some .cell) then (n, NameKind.cell) else (n, k)).lookup x = some k → (k = .cell ∨ k = .free) → (∀ y ∈ names, y.2 ≠ .cell) → (x, NameKind.free) ∈ names
  | [], _, _, h, _, _ => by simp at h
  | (n, k') :: r, x, k, h, hk, hc => by
    rw [List.map_cons] at h
    have hc' : ∀ y ∈ r, y.2 ≠ .cell := fun y hy => hc y (List.mem_cons_of_mem _ hy)
    have nk : k' ≠ .cell := hc (n, k') List.mem_cons_self
    dsimp only at h
    split at h
    · rename_i q
      rw [List.lookup_cons] at h
      split at h
      · rename_i hx
        have e : x = n := by simpa using hx
        have e2 : k' = .free := by
          simp only [Bool.and_eq_true, beq_iff_eq] at q
          exact q.1.1
        rw [e, e2]; exact List.mem_cons_self
      · exact List.mem_cons_of_mem _ (relabel_of h hk hc')
    · rw [List.lookup_cons] at h
      split at h
      · rename_i hx
        have e : x = n := by simpa using hx
        have e3 : k' = k := by simpa using h
        rcases hk with q | q
        · exact absurd (e3.trans q) nk
        · rw [e, e3, q]; exact List.mem_cons_self
      · exact List.mem_cons_of_mem _ (relabel_of h hk hc')

section
variable {X : Cx} {scope : Scope} {x : Str} {cap : List Nat} {ys : List Str}
theorem BlkOk.clos (B : BlkOk X scope x cap ys) (ok : X.Ok) : ∀ y ∈ scope.names, y.2 = .free → ∃ c, X.env.cells.lookup y.1 = some c := fun y hy e => ok.has y.1 (B.fr y hy e)
theorem BlkOk.sub (B : BlkOk X scope x cap ys) (ok : X.Ok) {z : Str} {c : Addr} (h : (clOf X.env.cells scope.names []).lookup z = some c) : X.env.cells.lookup z = some c := by
  rcases clOf_sub (B.clos ok) h with q | q
  · simp at q
  · exact q
/-  the block's first state -/
theorem BlkOk.start {pins : List (Addr × Obj)} {σ : St} {H₂ : Hp} {s₂ : Shared} {fp : List Addr} {h₁ : Heap} {tk : Nat} {C D : Addr} (B : BlkOk X scope x cap ys) (I : Inv X pins σ H₂ s₂)
    (hf : ∀ b ∈ fp, FpOk X pins H₂ b) (hD : s₂.heap.objs.size ≤ D) (hC : s₂.heap.objs.size ≤ C) (hDC : D ≠ C) (hk : ∀ b o, s₂.heap.get? b = some o → h₁.get? b = some o)
    (hns : ∃ m, h₁.Ns C m) (hl : h₁.get? D = some { cls := .type "list", data := .seq ([] : List Value).toArray }) (hfp : ∀ b ∈ fp, b < s₂.heap.objs.size) :
    Inv (X.blk scope C (x :: ys) s₂ H₂ fp) [] (none :: capV σ cap) (upd H₂ D (.lst [])) { s₂ with heap := h₁, toks := tk } := by
  have ok := I.ok
  have freshC : H₂ C = none := I.hok.fresh hC
  have freshD : H₂ D = none := I.hok.fresh hD
  have lt : ∀ b o, s₂.heap.get? b = some o → b < s₂.heap.objs.size := fun b o e => Heap.lt_size e
  refine ⟨⟨ok.mod, B.kind, ok.glob, ok.blt, hC, fun y z c h1 h2 => ok.inj y z c (B.sub ok h1) (B.sub ok h2), fun y hy => ?_, fun y c h => (Bool.false_ne_true h).elim, ok.hd, ok.frames, .inl rfl, fun b hb => ⟨?_, fun y c h e => ?_⟩, I.bs, Nat.le_trans ok.bsz I.sz, fun b o e hb => ?_, fun b hb hs => ?_, I.stack, I.stkFree, fun y c h => (Bool.false_ne_true h).elim, fun b hb => I.hok.fresh hb⟩,
    rfl, I.bare, Un.laid hk hD freshD, ?_, fun y c h => ?_, ?_, fun y c h => ?_, fun p hp => ?_, ?_, ?_⟩
  · have hy' : (relabel scope X.env).names.lookup y = some .cell ∨ (relabel scope X.env).names.lookup y = some .free := hy
    have m : (y, NameKind.free) ∈ scope.names := by
      rcases hy' with q | q
      · exact relabel_of q (.inl rfl) B.nocell
      · exact relabel_of q (.inr rfl) B.nocell
    exact clOf_mem (.inl m)
  · exact Nat.ne_of_lt (Nat.lt_of_lt_of_le (hfp b hb) hC)
  · exact (hf b hb).2.2.2.2.1 y c (B.sub ok h) e
  · rcases (hf b hb).2.2.2.1 with q | q
    · exact ok.noex b o e q
    · exact absurd (Nat.lt_of_lt_of_le (Heap.lt_size (ok.bs b o e).1) q) (Nat.lt_irrefl _)
  · rcases List.mem_cons.mp (I.stkSub b hs) with q | q
    · exact (hf b hb).2.1 q
    · exact (hf b hb).2.2.1 q
  · obtain ⟨m, hm⟩ := hns
    refine ⟨m, hm, fun i y v e1 e2 e3 => ?_⟩
    cases i with
    | zero => simp at e2
    | succ i =>
      obtain ⟨j, n1, n2, n3, n4⟩ := capOk_get (i := i) B.cap (by simpa [Cx.blk] using e1) (by simpa using e2)
      obtain ⟨m0, hn0, hl0⟩ := I.loc
      have vis : Vis X.env.scope y := by
        rcases n4 with q | q
        · exact .inr (.inl q)
        · exact .inr (.inr q)
      obtain ⟨u, ru, l⟩ := hl0 j y v n1 n2 vis
      refine ⟨u, ru, .inr ⟨relabel_free n3, ?_⟩⟩
      rcases l with ⟨k, _⟩ | ⟨_, c, ec, z⟩
      · rw [k] at n4
        rcases n4 with q | q <;> cases q
      · obtain ⟨c', ec'⟩ := clOf_mem (cells := X.env.cells) (cs := []) (.inl (lookup_mem_names n3))
        have := B.sub ok ec'
        rw [ec] at this; cases this
        obtain ⟨o, ho, hd⟩ := z
        exact ⟨c, ec', o, hk c o ho, hd⟩
  · obtain ⟨v, o, ho, hd⟩ := I.cell y c (B.sub ok h)
    exact ⟨v, o, hk c o ho, hd⟩
  · show upd H₂ D _ C = none
    rw [upd_ne (Ne.symm hDC)]; exact freshC
  · obtain ⟨v, o, ho, hd⟩ := I.cell y c (B.sub ok h)
    rw [upd_ne (Nat.ne_of_lt (Nat.lt_of_lt_of_le (lt c o ho) hD))]
    refine (I.freeC y c (B.sub ok h)).imp id fun ⟨_, o', ho', hno⟩ => ⟨rfl, o', ho', fun z i v e1 k e2 => ?_⟩
    cases i with
    | zero => simp at e2
    | succ i =>
      obtain ⟨j, n1, n2, n3, n4⟩ := capOk_get (i := i) B.cap (by simpa [Cx.blk] using e1) (by simpa using e2)
      exact hno z j v n1 n4 n2
  · exact absurd (show p ∈ ([] : List (Addr × Obj)) from hp) (by simp)
  · exact I.hok.laid hk hD ⟨Nat.zero_le _, [], 0, .nil, hl⟩
  · simp [Cx.blk, capV, capOk_len B.cap]
/-  the frame around it, behind the block -/
theorem BlkOk.back {pins : List (Addr × Obj)} {σ : St} {H₂ H' : Hp} {s₂ s' : Shared} {fp : List Addr} {C : Addr} {pl : List (Addr × Obj)} {σ' : St} (B : BlkOk X scope x cap ys) (I : Inv X pins σ H₂ s₂)
    (hf : ∀ b ∈ fp, FpOk X pins H₂ b) (J : Inv (X.blk scope C (x :: ys) s₂ H₂ fp) pl σ' H' s') : Inv X pins σ H' s' :=
  I.call' (ch := fp) J.os J.base J.hok J.bare fun b hb => by
    obtain ⟨f0, f1, f2, f3, f4, f5⟩ := hf b hb
    refine ⟨?_, f1, f4, f5⟩
    rcases f3 with q | q
    · exact .inl q
    · exact .inr q
theorem BlkOk.far {pins : List (Addr × Obj)} {σ : St} {H₂ H' : Hp} {s₂ s' : Shared} {fp : List Addr} {C : Addr} {pl : List (Addr × Obj)} {σ' : St} (I : Inv X pins σ H₂ s₂)
    (hC : s₂.heap.objs.size ≤ C) (J : Inv (X.blk scope C (x :: ys) s₂ H₂ fp) pl σ' H' s') :
    H' C = none ∧ C ≠ X.env.locals ∧ X.s₀.heap.objs.size ≤ C ∧ (∀ z c, X.env.cells.lookup z = some c → c ≠ C) ∧ ∀ p ∈ X.pn ++ pins, p.1 ≠ C := by
  refine ⟨J.free, Nat.ne_of_gt (Nat.lt_of_lt_of_le I.lt hC), Nat.le_trans I.sz hC, fun z c e q => ?_, fun p hp q => ?_⟩
  · obtain ⟨v, w⟩ := I.cell z c e
    exact absurd (Nat.lt_of_lt_of_le w.lt (by rw [q]; exact hC)) (Nat.lt_irrefl _)
  · exact absurd (Nat.lt_of_lt_of_le (Heap.lt_size (I.pin p hp).1) (by rw [q]; exact hC)) (Nat.lt_irrefl _)
end

/-  the turns of a clause, the step ahead of the store kept -/
theorem comp_turns {prog : Program} {w : World} {A : Around} {R : Result → Shared → Prop} {s : Shared} {elt tg iter : Expr} {ifs : List Expr} {scope : Scope} {pos : Pos} {it acc : Value} {env : Env} (J : Nat → Shared → Prop)
    (go : ∀ n s, J n s → wpAny (model prog w) A (pyNext it) (fun r s1 => match r with
      | none => R (.ok .next) s1
      | some v => wpAny (model prog w) A (letOwnedTupleGo tg it v) (fun _ s2 => wpAny (model prog w) A (assign tg env v) (fun _ s3 =>
          wpAny (model prog w) A (forIn ifs true fun c r => if r = true then do let ok ← isTrue c env (eval c env); pure (ForInStep.yield ok) else pure (ForInStep.yield r)) (fun ok s4 =>
            if ok = true then wpAny (model prog w) A (eval elt env) (fun y s5 => wpAny (model prog w) A (call (.builtin "list.append") [acc, y]) (fun _ s6 => ∃ m, m < n ∧ J m s6) (fun _ _ => False) s5) (fun _ _ => False) s4
            else ∃ m, m < n ∧ J m s4) (fun _ _ => False) s3) (fun _ _ => False) s2) (fun _ _ => False) s1) (fun _ _ => False) s)
    (n : Nat) (h : J n s) : codeAny (model prog w) A (.compLoop (.ListComp elt [⟨tg, iter, ifs, 0⟩] scope pos) 0 it acc env) R s := by
  refine codeAny_loop rfl J (fun n s hJ => ?_) n h
  show wpAny _ A ((compTurn (.ListComp elt [⟨tg, iter, ifs, 0⟩] scope pos) 0 it acc env).onRaise (fun x => do noteFrame x env; theTreesLotGoes x)) _ _ s
  refine wpAny_noted ?_
  rw [compTurn_list]
  refine wpAny_bind (wpAny_standAt (wpAny_bind (wpAny_mono (go n s hJ) (fun r s1 h1 => ?_) fun _ _ z => z.elim)))
  cases r with
  | none => exact wpAny_pure h1
  | some v =>
    refine wpAny_bind (wpAny_mono h1 (fun _ s2 h2 => wpAny_bind (wpAny_mono h2 (fun _ s3 h3 => wpAny_bind (wpAny_mono h3 (fun ok s4 h4 => ?_) fun _ _ z => z.elim)) fun _ _ z => z.elim)) fun _ _ z => z.elim)
    cases ok with
    | false => exact wpAny_pure ⟨rfl, h4⟩
    | true =>
      exact wpAny_bind (wpAny_bind (wpAny_mono h4 (fun y s5 h5 => wpAny_bind (wpAny_mono h5 (fun _ s6 h6 => wpAny_pure (wpAny_pure ⟨rfl, h6⟩)) fun _ _ z => z.elim)) fun _ _ z => z.elim))
/-  the tests of a clause: none, or one -/
def CTs (Xc : Cx) (ifs : List Expr) (t : TT) : Prop :=
  ∀ (pins : List (Addr × Obj)) (s : Shared) (σ : St) (H : Hp) (Q : Bool → Hp → Prop), Inv Xc pins σ H s → t σ H Q →
    wpAny (model Xc.prog Xc.w) Xc.A (forIn ifs true fun c r => if r = true then do let ok ← isTrue c Xc.env (eval c Xc.env); pure (ForInStep.yield ok) else pure (ForInStep.yield r)) (TP Xc pins σ Q) Xc.xe s
def tAll : TT := fun _ H Q => Q true H
theorem cts_nil {Xc : Cx} : CTs Xc [] tAll := fun _ _ _ H _ I q => wpAny_tests_nil ⟨H, I, q⟩
theorem cts_one {Xc : Cx} {c : Expr} {t : TT} (h : PT Xc c t) : CTs Xc [c] t := fun pins s σ H Q I q => wpAny_tests_one (h pins s σ H Q I q)

/-  the invariant of a comprehension: turn, measure, the list so far, the heap -/
abbrev CW := Nat → Nat → List V → Hp → Prop
/-  what a comprehension asks, from its iterator on; opened by CompAt.mk alone -/
@[irreducible] def CompAt (J : It) (caps : St) (tt : TT) (te : TE) (Q : VK) (H2 : Hp) : Prop := ∀ D, H2 D = none → ∃ W : CW, (∃ m, W 0 m [] (upd H2 D (.lst []))) ∧
  ∀ i m acc H3, W i m acc H3 → H3 D = some (.lst acc) ∧ ((J.stop i H3 ∧ Q (.ref D) H3) ∨ (J.go i H3 ∧ acc.length < sizeLine ∧ ∀ v H4, J.yld i H3 v H4 → tt (some v :: caps) H4 fun b H5 =>
    (b = true → te (some v :: caps) H5 fun u H6 => H6 D = some (.lst acc) ∧ ∃ m', m' < m ∧ W (i + 1) m' (acc ++ [u]) (upd H6 D (.lst (acc ++ [u])))) ∧ (b = false → ∃ m', m' < m ∧ W (i + 1) m' acc H5)))
/-  [e for x in it if c] -/
def tComp (cap : List Nat) (wi : TI) (tt : TT) (te : TE) : TE := fun σ H Q => wi σ H fun J H2 => CompAt J (capV σ cap) tt te Q H2
section
variable {X : Cx} {scope : Scope} {x : Str} {cap : List Nat} {ys : List Str} {elt iter : Expr} {ifs : List Expr} {px pos : Pos} {wi : TI} {tt : TT} {te : TE}
/-  the block itself: from the iterator on -/
theorem comp_block (B : BlkOk X scope x cap ys) (hc : X.calm = true) (he : ∀ C s H fp, PE (X.blk scope C (x :: ys) s H fp) elt te) (ht : ∀ C s H fp, CTs (X.blk scope C (x :: ys) s H fp) ifs tt)
    {pins : List (Addr × Obj)} {σ : St} {s₂ : Shared} {Q : VK} {RR : Value → Addr → Result → Shared → Prop} {itv : Value} {E : Value → Shared → Prop}
    (hp : PIE X pins σ (.Name x px) (fun J H2 => CompAt J (capV σ cap) tt te Q H2) itv s₂)
    (hR : ∀ (D C : Addr) (H' : Hp) (s' : Shared), Inv X pins σ H' s' → (∃ m, s'.heap.Ns C m) → H' C = none → C ≠ X.env.locals → X.s₀.heap.objs.size ≤ C → (∀ z c, X.env.cells.lookup z = some c → c ≠ C) → (∀ p ∈ X.pn ++ pins, p.1 ≠ C) → Q (.ref D) H' → RR (.ref D) C (.ok .next) s') :
    wpAny (model X.prog X.w) X.A (newList []) (fun acc s₃ => wpAny (model X.prog X.w) X.A (newFunctionEnv scope X.env.globals (clOf X.env.cells scope.names []) [] X.env.qual none .none (some X.env)) (fun cenv s₄ =>
      codeAny (model X.prog X.w) X.A (.compStart (.ListComp elt [⟨.Name x px, iter, ifs, 0⟩] scope pos) 0 itv acc { cenv with scope := relabel scope X.env }) (RR acc cenv.locals) s₄) E s₃) E s₂ := by
  obtain ⟨it, fp, tn, J, H2, e, I2, T, st2, f2, hw⟩ := hp
  subst e
  unfold CompAt at hw
  refine wpAny_newObj_type (wpAny_newFunctionEnv B.nocell (by intro y hy; simp at hy) (fun h₁ hns₁ hsb₁ => ?_) B.kind)
  dsimp only at hns₁ hsb₁ ⊢
  generalize hG : s₂.heap.push { cls := .type "list", dict := none, data := .seq ([] : List Value).toArray } = G at hns₁ hsb₁ ⊢
  have hsz : G.objs.size = s₂.heap.objs.size + 1 := by rw [← hG, Heap.size_push]
  have hCle : s₂.heap.objs.size ≤ G.objs.size := by omega
  have hDC : s₂.heap.objs.size ≠ G.objs.size := by omega
  have old : ∀ b o, s₂.heap.get? b = some o → h₁.get? b = some o := fun b o q => by
    have lt := Heap.lt_size q
    refine hsb₁.extBut b o (Nat.ne_of_lt (Nat.lt_of_lt_of_le lt hCle)) (Heap.get?_push_of_some _ ?_)
    rw [← hG]; exact Heap.get?_push_of_some _ q
  have accAt : h₁.get? s₂.heap.objs.size = some { cls := .type "list", data := .seq ([] : List Value).toArray } := by
    refine hsb₁.extBut _ _ hDC (Heap.get?_push_of_some _ ?_)
    rw [← hG]; exact Heap.get?_push_size _ rfl
  have hfp : ∀ b ∈ fp, b < s₂.heap.objs.size := fun b hb => by
    obtain ⟨o, ho, _⟩ := T.obj _ _ st2 b hb
    exact Heap.lt_size ho
  obtain ⟨W, ⟨m0, w0⟩, turn⟩ := hw s₂.heap.objs.size (I2.hok.fresh (Nat.le_refl _))
  generalize htk : s₂.toks + ([] : List (Str × Value)).length = tk
  have I0 := B.start (tk := tk) (C := G.objs.size) I2 f2 (Nat.le_refl _) hCle hDC old ⟨_, hns₁⟩ accAt hfp
  have st0 : tn 0 h₁ := T.keep _ _ _ st2 fun b hb o q => old b o q
  -- what stays true of the iterator's objects
  have f3 : ∀ {H' : Hp}, (∀ b ∈ fp, H' b = none) → ∀ b ∈ fp, FpOk (X.blk scope G.objs.size (x :: ys) s₂ H2 fp) [] H' b := fun hn b hb => by
    obtain ⟨f0, f1, f2', f3', f4, f5⟩ := f2 b hb
    refine ⟨hn b hb, Nat.ne_of_lt (Nat.lt_of_lt_of_le (hfp b hb) hCle), fun hs => ?_, .inl hb, fun z c q => f4 z c (B.sub I2.ok q), fun p hp => absurd (show p ∈ ([] : List (Addr × Obj)) from hp) (by simp)⟩
    rcases List.mem_cons.mp (I2.stkSub b hs) with q | q
    · exact f1 q
    · exact f2' q
  have n0 : ∀ b ∈ fp, upd H2 s₂.heap.objs.size (.lst []) b = none := fun b hb => by
    rw [upd_ne (Nat.ne_of_lt (hfp b hb))]; exact (f2 b hb).1
  have loop : ∀ sx : Shared, sx = { s₂ with heap := h₁, toks := tk } →
      codeAny (model X.prog X.w) X.A (.compLoop (.ListComp elt [⟨.Name x px, iter, ifs, 0⟩] scope pos) 0 (.ref it) (.ref s₂.heap.objs.size) (compEnvC scope (clOf X.env.cells scope.names []) G.objs.size X.env)) (RR (.ref s₂.heap.objs.size) G.objs.size) sx := by
    rintro sx rfl
    refine comp_turns (fun n s' => ∃ i acc H', Inv (X.blk scope G.objs.size (x :: ys) s₂ H2 fp) [] (none :: capV σ cap) H' s' ∧ tn i s'.heap ∧ (∀ b ∈ fp, H' b = none) ∧ W i n acc H') ?_ m0 ⟨0, [], _, I0, st0, n0, w0⟩
    rintro n s3 ⟨i, acc, H3, I3, st3, fr3, w3⟩
    obtain ⟨hD3, alt⟩ := turn i n acc H3 w3
    rcases alt with ⟨stop, q⟩ | ⟨go, hlen, step⟩
    · refine wpAny_mono (T.done (X.blk scope G.objs.size (x :: ys) s₂ H2 fp) rfl rfl rfl hc i [] s3 _ H3 (fun _ _ => False) I3 (f3 fr3) st3 stop) (fun r s4 ⟨hr, I4⟩ => ?_) fun _ _ z => z.elim
      subst hr
      obtain ⟨g1, g2, g3, g4, g5⟩ := BlkOk.far I2 hCle I4
      obtain ⟨m4, hm4, _⟩ := I4.loc
      exact hR _ _ H3 s4 (B.back I2 f2 I4) ⟨m4, hm4⟩ g1 g2 g3 g4 g5 q
    · refine wpAny_mono (T.item (X.blk scope G.objs.size (x :: ys) s₂ H2 fp) rfl rfl rfl hc i [] s3 _ H3 (fun _ _ => False) I3 (f3 fr3) st3 go) (fun r s4 ⟨u, hr, h4⟩ => ?_) fun _ _ z => z.elim
      subst hr
      refine wpAny_mono h4 (fun _ s4 ⟨v, H4, I4, rv, y4, st4, fr4⟩ => ?_) fun _ _ z => z.elim
      have I4' := I4.pinned (f3 fr4) (T.obj _ _ st4)
      refine wpAny_assign_Name (store_ok (X := X.blk scope G.objs.size (x :: ys) s₂ H2 fp) (i := 0) I4' B.nd rfl (.inl (lookup_relabel_local B.lx)) rv (fun s5 I5 => ?_) (.inr (lookup_relabel_local B.lx)))
      have I5' : Inv (X.blk scope G.objs.size (x :: ys) s₂ H2 fp) ([] ++ pinsAt fp s4.heap) (some v :: capV σ cap) H4 s5 := I5
      refine wpAny_mono (ht _ _ _ _ _ s5 _ H4 _ I5' (step v H4 y4)) (fun ok s6 ⟨H6, I6, q6⟩ => ?_) fun _ _ z => z.elim
      have pinned : ∀ {σ7 : St} {H7 : Hp} {s7 : Shared}, Inv (X.blk scope G.objs.size (x :: ys) s₂ H2 fp) ([] ++ pinsAt fp s4.heap) σ7 H7 s7 → tn (i + 1) s7.heap ∧ ∀ b ∈ fp, H7 b = none := fun {σ7 H7 s7} I7 => by
        refine ⟨T.keep _ _ _ st4 fun b hb o e => (I7.pin (b, o) (List.mem_append_right _ (List.mem_append_right _ (mem_pinsAt hb e)))).1, fun b hb => ?_⟩
        obtain ⟨o, e, d⟩ := T.obj _ _ st4 b hb
        exact (I7.pin (b, o) (List.mem_append_right _ (List.mem_append_right _ (mem_pinsAt hb e)))).2.1
      have weak : ∀ {H7 : Hp} {s7 : Shared}, Inv (X.blk scope G.objs.size (x :: ys) s₂ H2 fp) ([] ++ pinsAt fp s4.heap) (some v :: capV σ cap) H7 s7 → Inv (X.blk scope G.objs.size (x :: ys) s₂ H2 fp) [] (none :: capV σ cap) H7 s7 := fun I7 =>
        (I7.unpinned (pins := [])).weak rfl fun j z e => by
          cases j with
          | zero => simp at e
          | succ j => simpa using e
      cases ok with
      | false =>
        rw [if_neg Bool.false_ne_true]
        obtain ⟨m', hm', w'⟩ := q6.2 rfl
        exact ⟨m', hm', i + 1, acc, H6, weak I6, (pinned I6).1, (pinned I6).2, w'⟩
      | true =>
        rw [if_pos rfl]
        refine wpAny_mono (he _ _ _ _ _ s6 _ H6 _ I6 (q6.1 rfl)) (fun y s7 ⟨z, H7, I7, rz, hD7, m', hm', w'⟩ => ?_) fun _ _ z => z.elim
        refine wpAny_mono (mt_append (X := X.blk scope G.objs.size (x :: ys) s₂ H2 fp) _ s7 _ H7 (.ref s₂.heap.objs.size) [z] (.ref s₂.heap.objs.size) [y] (fun _ H8 => H8 = upd H7 s₂.heap.objs.size (.lst (acc ++ [z]))) I7 rfl (.cons rz .nil) ⟨_, acc, z, rfl, rfl, hD7, hlen, rfl⟩) (fun _ s8 ⟨_, H8, I8, _, e8⟩ => ?_) fun _ _ z => z.elim
        subst e8
        exact ⟨m', hm', i + 1, _, _, weak I8, (pinned I8).1, (pinned I8).2, w'⟩
  exact codeAny_compStart_list (loop _ rfl) (T.self _ 0 _ _ _ st0 (loop _ rfl))
theorem pe_comp (B : BlkOk X scope x cap ys) (hc : X.calm = true) (hi : PI X (.Name x px) iter wi) (he : ∀ C s H fp, PE (X.blk scope C (x :: ys) s H fp) elt te) (ht : ∀ C s H fp, CTs (X.blk scope C (x :: ys) s H fp) ifs tt)
    (hs : ∀ x, foldedSetIterable iter X.env x = pure x := by intro _; rfl) : PE X (.ListComp elt [⟨.Name x px, iter, ifs, 0⟩] scope pos) (tComp cap wi tt te) := by
  intro pins s σ H Q I h
  rw [eval_ListComp]
  refine wpAny_comprehension_free (use := none) rfl hs (closure_is (B.clos I.ok)) B.kind B.locs ?_
  refine thn (hi pins s σ H _ I h) fun v s1 h1 => thn h1 fun itv s2 h2 => ?_
  refine comp_block (Q := Q) (RR := fun acc C => compPost (model X.prog X.w) X.A X.xe none (EP X pins σ Q) acc C) B hc he ht h2 ?_
  rintro D C H' s' J ⟨m, hm⟩ g1 g2 g3 g4 g5 q
  exact ⟨m, hm, fun h' sb => ⟨.ref D, H', J.turned (t' := s'.toks) (fun b o hb e => (sb.2 b hb).trans e) g1 g2 (.inr g3) g4 g5, rfl, q⟩⟩
/-  name = [e for x in it if c], stored ahead of the block's end -/
theorem ps_setComp {i : Nat} {y : Str} {pos' spos : Pos} (B : BlkOk X scope x cap ys) (hc : X.calm = true) (hN : X.N.Nodup) (hi : X.N[i]? = some y) (hy : X.env.scope.names.lookup y = some .local) (hit : PI X (.Name x px) iter wi)
    (he : ∀ C s H fp, PE (X.blk scope C (x :: ys) s H fp) elt te) (ht : ∀ C s H fp, CTs (X.blk scope C (x :: ys) s H fp) ifs tt)
    (hsw : swapsWith (.ListComp elt [⟨.Name x px, iter, ifs, 0⟩] scope pos) (some (.Name y pos')) spos.line X.env = pure true := by rfl)
    (hs : ∀ x, foldedSetIterable iter X.env x = pure x := by intro _; rfl) :
    PS X (.Assign [.Name y pos'] (.ListComp elt [⟨.Name x px, iter, ifs, 0⟩] scope pos) spos) (tAsg (tComp cap wi tt te) (gName i)) := by
  intro pins s σ H D I h
  rw [exec_Assign_Name_used _ _ _ _ hsw]
  refine wpAny_bind (wpAny_standAt (wpAny_bind ?_))
  show wpAny _ X.A (do let _ ← comprehension (.ListComp elt [⟨.Name x px, iter, ifs, 0⟩] scope pos) scope X.env _ (newList []) false (eval iter X.env) (some (assign (.Name y pos') X.env))) _ _ s
  refine wpAny_bind (wpAny_mono (wpAny_comprehension_free (use := some (assign (.Name y pos') X.env)) (Q := fun _ s' => SP X pins D .next s') rfl hs (closure_is (B.clos I.ok)) B.kind B.locs
    (thn (hit pins s σ H _ I h) fun v s1 h1 => thn h1 fun itv s2 h2 => ?_)) (fun _ s' hq => wpAny_pure (wpAny_pure hq)) fun _ _ e => e)
  refine comp_block (Q := fun v H1 => gName i v σ H1 D.nx) (RR := fun acc C => compPost (model X.prog X.w) X.A X.xe (some (assign (.Name y pos') X.env)) (fun _ s' => SP X pins D .next s') acc C) B hc he ht h2 ?_
  rintro Da C H' s' J ⟨m, hm⟩ g1 g2 g3 g4 g5 q
  show wpAny _ X.A (assign (.Name y pos') X.env (.ref Da)) _ _ s'
  refine (wpAny_assign_Name (store_ok2 (v := .ref Da) J hN hi (.inl hy) rfl (fun s4 J4 ⟨a, sb, ha⟩ => ?_) (.inr hy)))
  have hCa : C ≠ a := by
    rcases ha with z | z
    · rw [z]; exact g2
    · exact fun w => g4 y a z w.symm
  refine ⟨m, hm.sameBut sb hCa, fun h' sb' => ?_⟩
  exact ⟨_, H', J4.turned (t' := s4.toks) (fun b o hb e => (sb'.2 b hb).trans e) g1 g2 (.inr g3) g4 g5, q⟩
end
end L2

/-! RANGES of any ints and steps; list(range(..)); isinstance; a base's method by its class. -/
namespace L2
open PySem PySem.Spec PyProof.Rows

/-  lo, lo + st, .. (n of them) -/
def Its (lo st : Int) (n : Nat) : It := ⟨fun i _ => i < n, fun i H x H' => H' = H ∧ x = .int (lo + i * st), fun i _ => n ≤ i⟩
theorem turn_steps {P : Program} {w : World} {K : PySem.W.Frag} {tg : Expr} (it : Addr) (lo st : Int) (n : Nat) : Turn P w K tg (Its lo st n) [it] it (fun i h => IsRangeIter h it (lo + (i : Nat) * st) ((n : Int) - (i : Nat)) st) where
  mem := by simp
  obj := fun i h q b hb => by
    have e : b = it := by simpa using hb
    subst e
    exact ⟨_, q, fun v z => by
      have z' : Data.fields _ = Data.cell v := z
      cases z'⟩
  keep := fun i h h' q k => k it (by simp) _ q
  item := by
    intro X hP hw hK hc i pins s σ H E I hf q hg
    subst hP hw hK
    obtain ⟨f0, f1, f2, f3, f4, f5⟩ := hf it (by simp)
    refine (Walks.range (prog := X.prog) (w := X.w) (I.ok.hd hc) it lo st n).item i s _ _ hg q fun v h' tk hv q' kk => ?_
    obtain ⟨t, rfl⟩ := hv
    have I1 : Inv X pins σ H { s with heap := h', toks := tk } := I.turned (fun b o hb e => kk b o (by simpa using hb) e) f0 f1 f3 f4 f5
    exact ⟨_, rfl, go_of (s := { s with heap := h', toks := tk }) (n := "range_iterator") q' rfl rfl (by decide) ⟨.int (lo + i * st), H, I1, ⟨t, rfl⟩, ⟨rfl, rfl⟩, q', fun b hb => (hf b hb).1⟩⟩
  done := by
    intro X hP hw hK hc i pins s σ H E I hf q hg
    subst hP hw hK
    obtain ⟨f0, f1, f2, f3, f4, f5⟩ := hf it (by simp)
    exact wpAny_pyNext_range_end (I.ok.hd hc) q (by have : n ≤ i := hg; omega) fun h' eb => ⟨rfl, I.turned (t' := s.toks) (fun b o hb e => eb b o hb e) f0 f1 f3 f4 f5⟩
  self := fun _ _ _ _ _ q h => wpAny_pyIter_rangeiter q h
theorem turn_long {P : Program} {w : World} {K : PySem.W.Frag} {tg : Expr} (it : Addr) (lo st : Int) (n : Nat) : Turn P w K tg (Its lo st n) [it] it (fun i h => IsLongIter h it (lo + (i : Nat) * st) ((n : Int) - (i : Nat)) st) where
  mem := by simp
  obj := fun i h q b hb => by
    have e : b = it := by simpa using hb
    subst e
    exact ⟨_, q, fun v z => by
      have z' : Data.fields _ = Data.cell v := z
      cases z'⟩
  keep := fun i h h' q k => k it (by simp) _ q
  item := by
    intro X hP hw hK hc i pins s σ H E I hf q hg
    subst hP hw hK
    obtain ⟨f0, f1, f2, f3, f4, f5⟩ := hf it (by simp)
    refine (Walks.longrange (prog := X.prog) (w := X.w) (I.ok.hd hc) it lo st n).item i s _ _ hg q fun v h' tk hv q' kk => ?_
    obtain ⟨t, rfl⟩ := hv
    have I1 : Inv X pins σ H { s with heap := h', toks := tk } := I.turned (fun b o hb e => kk b o (by simpa using hb) e) f0 f1 f3 f4 f5
    exact ⟨_, rfl, go_of (s := { s with heap := h', toks := tk }) (n := "longrange_iterator") q' rfl rfl (by decide) ⟨.int (lo + i * st), H, I1, ⟨t, rfl⟩, ⟨rfl, rfl⟩, q', fun b hb => (hf b hb).1⟩⟩
  done := by
    intro X hP hw hK hc i pins s σ H E I hf q hg
    subst hP hw hK
    obtain ⟨f0, f1, f2, f3, f4, f5⟩ := hf it (by simp)
    exact wpAny_pyNext_long_end (I.ok.hd hc) q (by have : n ≤ i := hg; omega) fun h' eb => ⟨rfl, I.turned (t' := s.toks) (fun b o hb e => eb b o hb e) f0 f1 f3 f4 f5⟩
  self := fun _ _ _ _ _ q h => wpAny_pyIter_longiter q h

/-  how many a range has -/
def rngN (a b c : Int) : Nat := (Builtin.Range.rangeSize a b c).toNat
theorem rangeSize_nn (a b c : Int) : 0 ≤ Builtin.Range.rangeSize a b c := by
  unfold Builtin.Range.rangeSize
  split
  · split
    · have := Int.ediv_nonneg (a := b - a - 1) (b := c) (by omega) (by omega); omega
    · omega
  · split
    · have := Int.ediv_nonneg (a := a - b - 1) (b := -c) (by omega) (by omega); omega
    · omega
theorem rngN_cast (a b c : Int) : ((rngN a b c : Nat) : Int) = Builtin.Range.rangeSize a b c := Int.toNat_of_nonneg (rangeSize_nn a b c)
theorem rngN_one (a b : Int) : rngN a b 1 = (b - a).toNat := by
  unfold rngN Builtin.Range.rangeSize
  simp only [show (1 : Int) > 0 by decide, if_true]
  split <;> simp <;> omega

section
variable {X : Cx} {tg : Expr}
/-  a range object, walked -/
theorem rng_it {pins : List (Addr × Obj)} {σ : St} {H : Hp} {s : Shared} {R : It → Hp → Prop} {E : Value → Shared → Prop} {a b c : Int} {t u v : Tok} {r : Addr} (I : Inv X pins σ H s) (hr : IsRange s.heap r a b c t u v)
    (q : R (Its a c (rngN a b c)) H) : wpAny (model X.prog X.w) X.A (pyIter (.ref r)) (PIE X pins σ tg R) E s := by
  have e2 : Builtin.Range.rangeSize a b c = ((rngN a b c : Nat) : Int) - ((0 : Nat) : Int) := by rw [rngN_cast]; simp
  have e1 : a = a + ((0 : Nat) : Int) * c := by simp
  have fp : ∀ b' ∈ [s.heap.objs.size], FpOk X pins H b' := fun b' hb => by
    have e : b' = s.heap.objs.size := by simpa using hb
    subst e
    exact I.fpOk (Nat.le_refl _) (I.hok.fresh (Nat.le_refl _))
  cases hsm : Builtin.Range.small a b c with
  | true =>
    refine wpAny_pyIter_range hr hsm ⟨s.heap.objs.size, [s.heap.objs.size], _, _, H, rfl, I.kept (t' := s.toks) fun b o e => Heap.get?_push_of_some _ e, turn_steps _ a c (rngN a b c), ?_, fp, q⟩
    show IsRangeIter _ _ (a + ((0 : Nat) : Int) * c) (((rngN a b c : Nat) : Int) - ((0 : Nat) : Int)) c
    rw [← e1, ← e2]
    exact Heap.get?_push_size _ rfl
  | false =>
    refine wpAny_pyIter_longrange hr hsm ⟨s.heap.objs.size, [s.heap.objs.size], _, _, H, rfl, I.kept (t' := s.toks) fun b o e => Heap.get?_push_of_some _ e, turn_long _ a c (rngN a b c), ?_, fp, q⟩
    show IsLongIter _ _ (a + ((0 : Nat) : Int) * c) (((rngN a b c : Nat) : Int) - ((0 : Nat) : Int)) c
    rw [← e1, ← e2]
    exact Heap.get?_push_size _ rfl
def argI (k : Int → Hp → Prop) : List V → Hp → Prop := fun vs H => match vs with
  | [.int j] => k j H
  | _ => False
def argI2 (k : Int → Int → Hp → Prop) : List V → Hp → Prop := fun vs H => match vs with
  | [.int i, .int j] => k i j H
  | _ => False
def argI3 (k : Int → Int → Int → Hp → Prop) : List V → Hp → Prop := fun vs H => match vs with
  | [.int i, .int j, .int l] => k i j l H
  | _ => False
theorem argI_of {k : Int → Hp → Prop} {vs : List V} {H : Hp} (h : argI k vs H) : ∃ j, vs = [.int j] ∧ k j H := by
  unfold argI at h
  split at h
  · exact ⟨_, rfl, h⟩
  · exact h.elim
theorem argI2_of {k : Int → Int → Hp → Prop} {vs : List V} {H : Hp} (h : argI2 k vs H) : ∃ i j, vs = [.int i, .int j] ∧ k i j H := by
  unfold argI2 at h
  split at h
  · exact ⟨_, _, rfl, h⟩
  · exact h.elim
theorem vals_i1 {us : List Value} {i : Int} (r : Vals [.int i] us) : ∃ t, us = [.int i t] := by
  obtain ⟨u, rfl, t, rfl⟩ := Vals.one r
  exact ⟨t, rfl⟩
theorem vals_i2 {us : List Value} {i j : Int} (r : Vals [.int i, .int j] us) : ∃ t t', us = [.int i t, .int j t'] := by
  obtain ⟨u, v, rfl, ⟨t, rfl⟩, ⟨t', rfl⟩⟩ := Vals.two r
  exact ⟨t, t', rfl⟩
/-  the length of the step: no division by a huge number -/
def StepOk (c : Int) : Prop := c ≠ 0 ∧ c.natAbs.log2 < 9000
def cRng1 (ta : TA) : TI := fun σ H R => ta σ H (argI fun j H1 => R (Its 0 1 (rngN 0 j 1)) H1)
def cRng2 (ta : TA) : TI := fun σ H R => ta σ H (argI2 fun i j H1 => R (Its i 1 (rngN i j 1)) H1)
def cRng3 (ta : TA) : TI := fun σ H R => ta σ H (argI3 fun i j c H1 => StepOk c ∧ R (Its i c (rngN i j c)) H1)
theorem ci_range1 {a : Expr} {ta : TA} {p pos : Pos} (hg : Gl X "range") (hm : X.mg "range" = none) (ha : PA X [a] ta) (hs : starEach [a] X.env = [(false, eval a X.env)] := by rfl) : PI X tg (.Call (.Name "range" p) [a] [] pos) (cRng1 ta) := by
  intro pins s σ H R I h
  refine Call_ (ld_blt I hg hm boot_range (PyProof.Rows.callWith_type1 (thn (ha pos pins s σ H _ I h) fun us s1 ⟨vs, H1, I1, r1, q1⟩ => ?_) hs rfl))
  obtain ⟨j, rfl, q⟩ := argI_of q1
  obtain ⟨t, rfl⟩ := vals_i1 r1
  refine call_range_1 (rng_it (I1.kept (t' := _) fun b o e => Heap.get?_push_of_some _ e) (IsRange.new ..) q)
theorem ci_range2 {a b : Expr} {ta : TA} {p pos : Pos} (hg : Gl X "range") (hm : X.mg "range" = none) (ha : PA X [a, b] ta) (hs : starEach [a, b] X.env = [(false, eval a X.env), (false, eval b X.env)] := by rfl) (hs2 : starEach [b] X.env = [(false, eval b X.env)] := by rfl) :
    PI X tg (.Call (.Name "range" p) [a, b] [] pos) (cRng2 ta) := by
  intro pins s σ H R I h
  refine Call_ (ld_blt I hg hm boot_range (PyProof.Rows.callWith_type1 (thn (ha pos pins s σ H _ I h) fun us s1 ⟨vs, H1, I1, r1, q1⟩ => ?_) (by rw [hs, hs2]) (by rw [hs2]; rfl)))
  obtain ⟨i, j, rfl, q⟩ := argI2_of q1
  obtain ⟨t, t', rfl⟩ := vals_i2 r1
  exact call_range_2 (rng_it (I1.kept (t' := _) fun b o e => Heap.get?_push_of_some _ e) (IsRange.new ..) q)
/-  a range as a value -/
def cRngV (ta : TA) : TE := fun σ H Q => ta σ H (argI2 fun i j H1 => ∀ p, H1 p = none → Q (.ref p) (upd H1 p (.rng i j)))
def cRngV1 (ta : TA) : TE := fun σ H Q => ta σ H (argI fun j H1 => ∀ p, H1 p = none → Q (.ref p) (upd H1 p (.rng 0 j)))
end
end L2

/-! DATA: what a value is worth, lists and tuples within one another; == and != of them; isinstance; a base's method. -/
namespace L2
open PySem PySem.Spec PyProof.Rows
mutual
inductive Rp (K : PySem.W.Frag) (H : Hp) : V → PyData → Prop
  | non : Rp K H .non .none
  | bl (b : Bool) : Rp K H (.bl b) (.bool b)
  | int (i : Int) : Rp K H (.int i) (.int i)
  | str (x : Str) : Rp K H (.str x) (.str x)
  | lst {a : Addr} {xs : List V} {ds : List PyData} : SqL K H a xs → Rps K H xs ds → Rp K H (.ref a) (.list ds)
  | tup {a : Addr} {xs : List V} {ds : List PyData} : SqT K H a xs → Rps K H xs ds → Rp K H (.ref a) (.tuple ds)
inductive Rps (K : PySem.W.Frag) (H : Hp) : List V → List PyData → Prop
  | nil : Rps K H [] []
  | cons {x : V} {d : PyData} {xs : List V} {ds : List PyData} : Rp K H x d → Rps K H xs ds → Rps K H (x :: xs) (d :: ds)
end
theorem Same.seqT {K : PySem.W.Frag} {H H' : Hp} {a : Addr} {xs : List V} (e : Same H H') (h : SqT K H a xs) : SqT K H' a xs := by
  rcases h with (h | ⟨o, h⟩) | h
  · exact .inl (.inl (e _ _ h))
  · exact .inl (.inr ⟨o, e _ _ h⟩)
  · exact .inr h
mutual
theorem Rp.same {K : PySem.W.Frag} {H H' : Hp} (e : Same H H') : ∀ {v : V} {d : PyData}, Rp K H v d → Rp K H' v d
  | _, _, .non => .non
  | _, _, .bl b => .bl b
  | _, _, .int i => .int i
  | _, _, .str x => .str x
  | _, _, .lst q r => .lst (e.seq q) (Rps.same e r)
  | _, _, .tup q r => .tup (e.seqT q) (Rps.same e r)
theorem Rps.same {K : PySem.W.Frag} {H H' : Hp} (e : Same H H') : ∀ {v : List V} {d : List PyData}, Rps K H v d → Rps K H' v d
  | _, _, .nil => .nil
  | _, _, .cons q r => .cons (Rp.same e q) (Rps.same e r)
end
theorem Rps.ints {K : PySem.W.Frag} {H : Hp} : ∀ ns : List Int, Rps K H (ns.map V.int) (ns.map PyData.int)
  | [] => .nil
  | i :: r => .cons (.int i) (Rps.ints r)
theorem Rp.ints {K : PySem.W.Frag} {H : Hp} {a : Addr} {ns : List Int} (h : SqL K H a (ns.map V.int)) : Rp K H (.ref a) (.list (ns.map PyData.int)) := .lst h (.ints ns)
section
variable {X : Cx} {pins : List (Addr × Obj)} {σ : St} {H : Hp} {s : Shared}
mutual
theorem Rp.reads (I : Inv X pins σ H s) : ∀ {v : V} {d : PyData} {u : Value}, Rp X.K H v d → RelV v u → ∃ as, Reads s.heap u d as
  | _, _, u, .non, r => by cases (show u = Value.none from r); exact ⟨_, .none⟩
  | _, _, u, .bl b, r => by cases (show u = Value.bool b from r); exact ⟨_, .bool b⟩
  | _, _, u, .int i, r => by obtain ⟨t, e⟩ := (show ∃ t, u = Value.int i t from r); subst e; exact ⟨_, .int i t⟩
  | _, _, u, .str x, r => by obtain ⟨t, e⟩ := (show ∃ t, u = Value.str x t from r); subst e; exact ⟨_, .str x t⟩
  | _, _, u, .lst (a := a) q rr, r => by
    cases (show u = Value.ref a from r)
    obtain ⟨its, rv, p, hz⟩ := I.list q
    obtain ⟨as, ra⟩ := Rps.reads I rr rv
    obtain ⟨o, ho, hc, n, hd⟩ := p.isList
    exact ⟨_, .list ho hc hd (by simpa using ra)⟩
  | _, _, u, .tup (a := a) q rr, r => by
    cases (show u = Value.ref a from r)
    obtain ⟨its, rv, p, hz⟩ := I.tuple q
    obtain ⟨as, ra⟩ := Rps.reads I rr rv
    obtain ⟨o, ho, hc, n, hd⟩ := p
    exact ⟨_, .tuple ho hc hd (by simpa using ra)⟩
theorem Rps.reads (I : Inv X pins σ H s) : ∀ {v : List V} {d : List PyData} {u : List Value}, Rps X.K H v d → Vals v u → ∃ as, ReadsAll s.heap u d as
  | _, _, _, .nil, .nil => ⟨_, .nil⟩
  | _, _, _, .cons q rr, .cons r t => by
    obtain ⟨as, h1⟩ := Rp.reads I q r
    obtain ⟨bs, h2⟩ := Rps.reads I rr t
    exact ⟨_, .cons h1 h2⟩
end
end
/-  == and != by data -/
def rDeq (K : PySem.W.Frag) (f : Bool → Bool) : R2 := fun x y H Q => ∃ da db, Rp K H x da ∧ Rp K H y db ∧ SeqAt.shaped da = true ∧ SeqAt.shaped db = true ∧ Q (.bl (f (PyData.eqv da db))) H
section
variable {X : Cx}
theorem o_deq (hu : X.A.units + 64 < cLine) : OpR X (compareOp .Eq) (rDeq X.K fun b => b) := by
  intro pins s σ H x y v u Q I rx ry q
  obtain ⟨da, db, hx, hy, sa, sb, q⟩ := q
  obtain ⟨as, ra⟩ := hx.reads I rx
  obtain ⟨bs, rb⟩ := hy.reads I ry
  exact eq_dataH ra rb sa sb hu ⟨.bl (PyData.eqv da db), H, I, rfl, q⟩
theorem o_dne (hu : X.A.units + 64 < cLine) : OpR X (compareOp .NotEq) (rDeq X.K fun b => !b) := by
  intro pins s σ H x y v u Q I rx ry q
  obtain ⟨da, db, hx, hy, sa, sb, q⟩ := q
  obtain ⟨as, ra⟩ := hx.reads I rx
  obtain ⟨bs, rb⟩ := hy.reads I ry
  exact ne_dataH ra rb sa sb hu ⟨.bl (!PyData.eqv da db), H, I, rfl, q⟩
/-  lists of ints -/
def rLeq (K : PySem.W.Frag) (f : Bool → Bool) : R2 := fun x y H Q => ∃ (a b : Addr) (ns ms : List Int), x = .ref a ∧ y = .ref b ∧ SqL K H a (ns.map V.int) ∧ SqL K H b (ms.map V.int) ∧ Q (.bl (f (decide (ns = ms)))) H
theorem leq_imp {K : PySem.W.Frag} {f : Bool → Bool} {x y : V} {H : Hp} {Q : VK} (q : rLeq K f x y H Q) : rDeq K f x y H Q := by
  obtain ⟨a, b, ns, ms, rfl, rfl, ha, hb, q⟩ := q
  refine ⟨_, _, .ints ha, .ints hb, PySem.W.ke_shaped_ints ns, PySem.W.ke_shaped_ints ms, ?_⟩
  have e : PyData.eqv (.list (ns.map PyData.int)) (.list (ms.map PyData.int)) = decide (ns = ms) := PySem.W.ked_eqvAll ns ms
  rw [e]; exact q
theorem o_leq (hu : X.A.units + 64 < cLine) : OpR X (compareOp .Eq) (rLeq X.K fun b => b) := (o_deq hu).imp fun _ _ _ _ => leq_imp
theorem o_lne (hu : X.A.units + 64 < cLine) : OpR X (compareOp .NotEq) (rLeq X.K fun b => !b) := (o_dne hu).imp fun _ _ _ _ => leq_imp
/-  isinstance(x, C): C a built-in type or a class of the text -/
def clsV : V → Option Value
  | .ty n => some (.type n)
  | .ref a => some (.ref a)
  | _ => none
theorem clsV_rel {c : V} {cv v : Value} (h : clsV c = some cv) (r : RelV c v) : v = cv := by
  cases c with
  | ref a => cases h; exact r
  | ty n => cases h; exact r
  | _ => cases h
def rIsi (K : PySem.W.Frag) : List V → Hp → VK → Prop := fun xs H Q => ∃ x c t cv b, xs = [x, c] ∧ clsV c = some cv ∧ TyOf K H x t ∧ PySem.W.kitOne K t cv = some b ∧ Q (.bl b) H
theorem call_isi : CallR X (.builtin "isinstance") (rIsi X.K) := by
  intro pins s σ H xs us Q I r h
  obtain ⟨x, c, t, cv, b, rfl, rc, ty, e, q⟩ := h
  obtain ⟨u, v, rfl, ru, rv⟩ := Vals.two r
  have e2 := clsV_rel rc rv
  subst e2
  exact isinst_ok I ru ty e fun tk => ⟨.bl b, H, I.tok _, rfl, q⟩
/-  C.m(e, ..), C a class of the text, m a def of it -/
structure ClsM (K : PySem.W.Frag) (C : Addr) (m : Str) (f : Addr) : Prop where
  sp : PySem.W.specialIn K (.ref C) "__getattribute__" = some (some (.builtin "type.__getattribute__"))
  rd : PySem.W.readsIn K C (.type "type") = true
  fd : PySem.W.findCls K (.ref C) (.type "type") m = some (.val (.ref f))
  kp : PySem.W.keepIn K (.ref f) = true
theorem pe_base {x m : Str} {C f : Addr} {fd : FuncData} {ps : List Str} {sp : Sp} {dvs : List V} {ds : List Value} {E : XK} {CX : CXT} {k : Nat} {p apos pos : Pos} {e : Expr} {es : List Expr} {t : TA} {pl : Sem Bool}
    (hg : Gl X x) (hm : X.mg x = some (.ref C)) (M : ClsM X.K C m f) (F : FnOk X.prog X.w X.K X.mg X.base CX k f fd ps sp) (hr : Room k X.A) (hb : Binds X.K fd ps ds) (hd : Vals dvs ds) (hx : Passes CX X E) (ha : PA X (e :: es) t)
    (hst : starEach (e :: es) X.env = (false, eval e X.env) :: starEach es X.env := by rfl) (hpl : (backTo pos (starEach es X.env)).any (·.1) = false := by rfl) (hdb : (x == ("__debug__" : Str)) = false := by decide)
    (ht : eval (.Call (.Attribute (.Name x p) m apos) (e :: es) [] pos) X.env = (do
      let ov ← eval (.Name x p) X.env
      standAt apos.atName
      let (f, first) ← holding [ov] (getMethod ov m pl)
      callWith pos f first (backTo pos (starEach (e :: es) X.env)) (backToKw pos (keywordEach [] X.env))) := by rfl) :
    PE X (.Call (.Attribute (.Name x p) m apos) (e :: es) [] pos) (tCall sp dvs E t) := by
  intro pins s σ H Q I h
  refine PySem.W.methodCall_KW (pl := pl) (ld_glob I hg hm ?_ hdb) ht
  refine PySem.W.method_cls I.kIn M.sp (PySem.W.cls_value I.kIn M.rd M.fd rfl ?_)
  have I1 := I.tok (s.toks + 1)
  refine PySem.W.callWith_K (first := []) (h₀ := X.base) I.ok.mod.kin M.kp (thn (ha pos pins _ σ H _ I1 h) fun us s2 ⟨vs, H2, I2, r, q2⟩ => ⟨I2.kIn, ?_⟩) hst hpl
  exact run_fn F hr hb hd hx I2 r q2
end
end L2

namespace L2
open PySem PySem.Spec PyProof.Rows
/-! the built-in names -/
theorem bt_len : bootBuiltins "len" = some (.builtin "len") := by decide +kernel
theorem bt_max : bootBuiltins "max" = some (.builtin "max") := by decide +kernel
theorem bt_min : bootBuiltins "min" = some (.builtin "min") := by decide +kernel
theorem bt_isinstance : bootBuiltins "isinstance" = some (.builtin "isinstance") := by decide +kernel
theorem bt_list : bootBuiltins "list" = some (.type "list") := by decide +kernel
theorem bt_tuple : bootBuiltins "tuple" = some (.type "tuple") := by decide +kernel
/-  few attributes -/
theorem few_put {f : Str} {v : V} {fs : List (Str × V)} {n : Nat} (h : fs.length < n) : (putF f v fs).length < n + 1 := Nat.lt_of_le_of_lt (length_putF f v fs) (by omega)
section
variable {X : Cx} {a b c : Expr} {ta tb : TE} {pos : Pos}
/-! max, min of two ints -/
theorem c_max2 (hc : X.calm = true) : CallR X (.builtin "max") (fun xs H Q => argI2 (fun i j H1 => Q (.int (max i j)) H1) xs H) := (call_max2 hc).imp fun xs H Q q => by
  obtain ⟨i, j, rfl, q⟩ := argI2_of q
  refine ⟨i, j, rfl, ?_⟩
  have e : (if j > i then j else i) = max i j := by split <;> omega
  rw [e]; exact q
theorem c_min2 (hc : X.calm = true) : CallR X (.builtin "min") (fun xs H Q => argI2 (fun i j H1 => Q (.int (min i j)) H1) xs H) := (call_min2 hc).imp fun xs H Q q => by
  obtain ⟨i, j, rfl, q⟩ := argI2_of q
  refine ⟨i, j, rfl, ?_⟩
  have e : (if j < i then j else i) = min i j := by split <;> omega
  rw [e]; exact q
/-! is None -/
def isN : V → Bool
  | .non => true
  | _ => false
theorem isN_dec (x : V) : decide (x = .non) = isN x := by cases x <;> simp [isN]
def cIsN (ta : TE) : TE := fun σ H Q => ta σ H fun x H1 => Q (.bl (isN x)) H1
def cNotN (ta : TE) : TE := fun σ H Q => ta σ H fun x H1 => Q (.bl (!isN x)) H1
def cTIsN (ta : TE) : TT := fun σ H Q => ta σ H fun x H1 => Q (isN x) H1
def cTNotN (ta : TE) : TT := fun σ H Q => ta σ H fun x H1 => Q (!isN x) H1
theorem ct_isN {j pos'} (ha : PE X a ta) : PT X (.Compare a [.Is] [.Constant .none j pos'] pos) (cTIsN ta) := (pt_cmp (pc_isN ha)).imp fun σ H Q q => by
  show ta σ H _
  have e : (fun x H1 => ∃ c, V.bl (decide (x = V.non)) = .bl c ∧ Q c H1) = fun x H1 => Q (isN x) H1 := by
    funext x H1; rw [isN_dec]; apply propext; exact ⟨fun ⟨c, e, q⟩ => by cases e; exact q, fun q => ⟨_, rfl, q⟩⟩
  rw [e]; exact q
theorem ct_notN {j pos'} (ha : PE X a ta) : PT X (.Compare a [.IsNot] [.Constant .none j pos'] pos) (cTNotN ta) := (pt_cmp (pc_notN ha)).imp fun σ H Q q => by
  show ta σ H _
  have e : (fun x H1 => ∃ c, V.bl (!decide (x = V.non)) = .bl c ∧ Q c H1) = fun x H1 => Q (!isN x) H1 := by
    funext x H1; rw [isN_dec]; apply propext; exact ⟨fun ⟨c, e, q⟩ => by cases e; exact q, fun q => ⟨_, rfl, q⟩⟩
  rw [e]; exact q
/-  == of two bools -/
def kB0 (g : Bool → Bool → V) : R2 := fun x y H Q => match x with
  | .bl i => (match y with
    | .bl j => Q (g i j) H
    | _ => False)
  | _ => False
/-  while -/
end
/-! the forms one uses -/
theorem forAt_its {lo st : Int} {n : Nat} {g : TG} {tb : TS} {D : Ends} {σ : St} {H : Hp} (Pv : Nat → St → Hp → Prop) (h0 : Pv 0 σ H)
    (hs : ∀ (i : Nat) σ H, i < n → Pv i σ H → g (.int (lo + i * st)) σ H fun σ2 H2 => tb { D with nx := Pv (i + 1), ct := Pv (i + 1), bk := D.nx } σ2 H2) (hd : ∀ σ H, Pv n σ H → D.nx σ H) : ForAt (Its lo st n) g tb D σ H := by
  unfold ForAt
  refine ⟨fun i m σ H => m = n - i ∧ i ≤ n ∧ Pv i σ H, ⟨n, by simp, Nat.zero_le _, h0⟩, ?_⟩
  rintro i m σ H ⟨rfl, hi, p⟩
  by_cases hlt : i < n
  · refine .inr ⟨hlt, Pv (i + 1), fun σ' H' p' => ⟨n - (i + 1), by omega, rfl, hlt, p'⟩, fun x H' y => ?_⟩
    obtain ⟨e, y⟩ := y
    subst e y
    exact hs i σ _ hlt p
  · have e : i = n := by omega
    subst e
    exact .inl ⟨Nat.le_refl _, hd σ H p⟩
/-! heaps that grow -/
theorem Same.new {H : Hp} {p : Addr} {o : HO} (h : H p = none) : Same H (upd H p o) := fun b u e => by rw [upd_ne (ne_of_none e h)]; exact e
/-  a place that was free may be written -/
theorem Same.put {H H' : Hp} {p : Addr} {o : HO} (e : Same H H') (h : H p = none) : Same H (upd H' p o) := fun b u q => by rw [upd_ne (ne_of_none q h)]; exact e b u q
theorem Same.at {H H' : Hp} {p : Addr} {o : HO} (e : Same H H') (h : H p = some o) : H' p = some o := e p o h
/-  [f(x) for x in range(..)], f's values known -/
end L2
namespace L2
open PySem PySem.Spec PyProof.Rows
theorem Same.of_eq {H H' : Hp} {p : Addr} {o : HO} (h : H p = none) (e : upd H p o = H') : Same H H' := by rw [← e]; exact Same.new h
theorem at_of_eq {H H' : Hp} {p : Addr} {o : HO} (e : upd H p o = H') : H' p = some o := by rw [← e]; exact upd_same
theorem Same.back {H H' : Hp} {p : Addr} (e : Same H H') (h : H' p = none) : H p = none := Same.free e h
/-  a list that was made behind H0 is written: what H0 had stays -/
theorem Same.wr {H0 H H' : Hp} {p : Addr} {o : HO} (s : Same H0 H) (f : H0 p = none) (e : upd H p o = H') : Same H0 H' := by rw [← e]; exact s.put f
end L2

/-! LISTS OF LISTS of ints that stand apart. -/
namespace L2
open PySem PySem.Spec PyProof.Rows
/-  at l a list of the lists at as, which hold xss; none of them was there in H0 -/
structure LLat (H0 H : Hp) (l : Addr) (as : List Addr) (xss : List (List Int)) : Prop where
  top : H l = some (.lst (as.map V.ref))
  nd : (l :: as).Nodup
  len : as.length = xss.length
  each : ∀ (i : Nat) (a : Addr) (xs : List Int), as[i]? = some a → xss[i]? = some xs → H a = some (.lst (xs.map V.int))
  fr : H0 l = none
  frs : ∀ a ∈ as, H0 a = none
/-  one more list at the end -/
/-  the i-th list is another one now -/
def dInts (xs : List Int) : PyData := .list (xs.map PyData.int)
def dLL (xss : List (List Int)) : PyData := .list (xss.map dInts)
theorem dInts_can (xs : List Int) : PyData.canLay0 (dInts xs) = true := by unfold dInts PyData.canLay0; exact PySem.W.ke_canLayAll0 xs
theorem dInts_depth (xs : List Int) : PyData.depth (dInts xs) ≤ 1 := by unfold dInts PyData.depth; rw [PySem.W.ke_depthAll]; exact Nat.le_refl _
/-  == of two lists of lists of ints -/
/-  [list for x in range(..)] -/
section
variable {X : Cx}
/-  xs.insert(0, y) -/
def rInsert0 : V → List V → Hp → VK → Prop := fun x vs H Q => ∃ l xs y, x = .ref l ∧ vs = [.int 0, y] ∧ H l = some (.lst xs) ∧ xs.length < sizeLine ∧ Q .non (upd H l (.lst (y :: xs)))
end
end L2

namespace L2
open PySem PySem.Spec PyProof.Rows

/-! ### functions that are made inside a def: the cells they close over are tracked (cel), the code table of the def too (tbl) -/
abbrev HO.any : HO := .ext fun _ => True
theorem ObjOk.anyOf {P : Program} {w : World} {H : Hp} {h : Heap} {a : Addr} {o : Obj} (e : h.get? a = some o) : ObjOk P w H h a (.frz o HO.any) := ⟨e, trivial, ⟨o, e⟩, fun _ _ _ _ => trivial⟩

/-  a function object that was made inside a def, and the values it closes over -/
def CloAt (H : Hp) (f : Addr) (nm qual : Str) (params : Arguments) (body : FuncBody) (scope : Scope) (fv : List (Str × V)) : Prop :=
  ∃ (clos : List (Str × Addr)) (c : Addr) (o : Obj) (u u' : HO) (vs : Array Value) (t : Tok) (doc pm ctv : Value),
    H f = some (.frz { cls := .type "function", data := .func { name := nm, qualname := qual, params, body, scope, globals := mainGlobals, closure := clos, defaults := .none, kwdefaults := .none, doc, pyModule := pm, annotations := none, code := .ref c, closureTuple := ctv, builtins := builtinsNs } } u) ∧
    H c = some (.frz o u') ∧ o.data = .fields vs ∧ vs[1]? = some (.str qual t) ∧
    (∀ x y a, clos.lookup x = some a → clos.lookup y = some a → x = y) ∧ (∀ x, (x, NameKind.free) ∈ scope.names → ∃ a, clos.lookup x = some a) ∧
    (∀ x v, (x, v) ∈ fv → ∃ a, clos.lookup x = some a ∧ H a = some (.cel (some v))) ∧ ∀ x a, clos.lookup x = some a → ∃ v, H a = some (.cel (some v))
theorem CloAt.same {H H' : Hp} {f : Addr} {nm qual : Str} {params : Arguments} {body : FuncBody} {scope : Scope} {fv : List (Str × V)} (h : CloAt H f nm qual params body scope fv) (e : Same H H') : CloAt H' f nm qual params body scope fv := by
  obtain ⟨clos, c, o, u, u', vs, t, doc, pm, ctv, h1, h2, h3, h4, h5, h6, h7, h8⟩ := h
  exact ⟨clos, c, o, u, u', vs, t, doc, pm, ctv, e _ _ h1, e _ _ h2, h3, h4, h5, h6, fun x v m => let ⟨a, q1, q2⟩ := h7 x v m; ⟨a, q1, e _ _ q2⟩, fun x a q => let ⟨v, q2⟩ := h8 x a q; ⟨v, e _ _ q2⟩⟩

theorem ca_snoc {pos pos' : Pos} {c : Value} (l : List Value) (h : TriplesOk l) :
    codeAmong pos' (l ++ [rawInt pos.line, rawInt pos.col, c]) = (match codeAmong pos' l with
      | some d => some d
      | none => if ((pos.line : Int) == pos'.line && (pos.col : Int) == pos'.col) = true then some c else none) := by
  fun_induction TriplesOk l with
  | case1 => simp [codeAmong, rawInt]
  | case2 a t b u x rest ih =>
    simp only [List.cons_append, codeAmong]
    split
    · rfl
    · exact ih h
  | case3 l h1 h2 => exact h.elim

/-  the code record at c has its table at P, wherever the written part stands -/
def TabK (K : PySem.W.Frag) (c P : Addr) : Prop := ∀ h : Heap, K.In h → PySem.W.CodeHd h c P

theorem clOf_free {cells : List (Str × Addr)} : ∀ {l : List (Str × NameKind)} {cs : List (Str × Addr)} {x : Str} {c : Addr}, (clOf cells l cs).lookup x = some c → (x, NameKind.free) ∈ l ∨ ∃ a, cs.lookup x = some a
  | [], cs, x, c, h => .inr ⟨c, h⟩
  | (n, k) :: r, cs, x, c, h => by
    unfold clOf at h
    rcases clOf_free h with q | ⟨a, q⟩
    · exact .inl (List.mem_cons_of_mem _ q)
    · split at q
      · rename_i hk
        rw [List.lookup_cons] at q
        split at q
        · rename_i hx
          have e : x = n := by simpa using hx
          have e2 : k = .free := by simpa using hk
          subst e; subst e2
          exact .inl List.mem_cons_self
        · exact .inr ⟨a, q⟩
      · exact .inr ⟨a, q⟩

/-  how a function that was made lies in the heap -/
abbrev fnObjOf (name qual : Str) (params : Arguments) (body : FuncBody) (scope : Scope) (clos : List (Str × Addr)) (doc pm cdv ctv : Value) : Obj :=
  { cls := .type "function", data := .func { name, qualname := qual, params, body, scope, globals := mainGlobals, closure := clos, defaults := .none, kwdefaults := .none, doc, pyModule := pm, annotations := none, code := cdv, closureTuple := ctv, builtins := builtinsNs } }

section
variable {M : Model} {A : Around} {E : Value → Shared → Prop} {s : Shared} {name qual : Str} {params : Arguments} {body : FuncBody} {scope : Scope} {env : Env} {c P : Addr} {ps : Array Value} {pos : Pos} {firstLine : Nat} {mg : Str → Option Value}
  {clos : List (Str × Addr)} {Q : Value → Shared → Prop}
theorem mk_miss (hcl : closureFor scope env = pure clos) (hge0 : env.globals = mainGlobals) (hg : s.heap.Ns mainGlobals mg) (hcode : env.code = .ref c) (C : PySem.W.CodeHd s.heap c P) (hP : s.heap.get? P = some (PySem.W.tabObj ps)) (ht : TriplesOk ps.toList)
    (hnf : codeAmong pos ps.toList = none) (hgP : mainGlobals ≠ P) (hb : s.heap.BuiltinsAt mg P)
    (h : ∀ c' ctv doc h' tk, Heap.ExtBut P s.heap h' → s.heap.objs.size ≤ c' → c' < h'.objs.size → h'.CodeRec (.ref c') qual → h'.get? P = some (PySem.W.tabObj (ps ++ #[rawInt pos.line, rawInt pos.col, .ref c'])) →
      Q (.ref h'.objs.size) { s with heap := h'.push (fnObjOf name qual params body scope clos doc ((mg "__name__").getD .none) (.ref c') ctv), toks := tk }) :
    wpAny M A (makeFunction name qual params body scope env [] [] [] pos firstLine) Q E s := by
  cases body with
  | stmts b => exact PySem.W.makeFunction_K hcl hge0 hg hcode C hP ht hnf hgP hb h
  | expr e => exact PySem.W.kla_makeFunction hcl hge0 hg hcode C hP ht hnf hgP hb fun c' ctv h' tk => h c' ctv .none h' tk
theorem mk_hit {cv : Value} (hcl : closureFor scope env = pure clos) (hge0 : env.globals = mainGlobals) (hg : s.heap.Ns mainGlobals mg) (hcode : env.code = .ref c) (C : PySem.W.CodeHd s.heap c P) (hP : s.heap.get? P = some (PySem.W.tabObj ps)) (ht : TriplesOk ps.toList)
    (hf : codeAmong pos ps.toList = some cv) (hb : s.heap.BuiltinsAt mg P)
    (h : ∀ (ctv doc : Value) (h' : Heap) (tk : Tok), (∀ b o, s.heap.get? b = some o → h'.get? b = some o) → s.heap.objs.size ≤ h'.objs.size →
      Q (.ref h'.objs.size) { s with heap := h'.push (fnObjOf name qual params body scope clos doc ((mg "__name__").getD .none) cv ctv), toks := tk }) :
    wpAny M A (makeFunction name qual params body scope env [] [] [] pos firstLine) Q E s := by
  cases body with
  | stmts b => exact PySem.W.makeFunction_hit hcl hge0 hg hcode C hP ht hf hb h
  | expr e => exact PySem.W.kla_makeFunctionHit hcl hge0 hg hcode C hP ht hf hb fun ctv h' tk => h ctv .none h' tk
end

section
variable {X : Cx} {pins : List (Addr × Obj)} {σ : St} {H : Hp} {s : Shared} {c P : Addr} {qs : List (Pos × Str)} {name qual : Str} {params : Arguments} {body : FuncBody} {scope : Scope} {pos : Pos} {fv : List (Str × V)} {Q : VK} {fns : List Str}

def tFn (X : Cx) (P : Addr) (qs : List (Pos × Str)) (fns : List Str) (name qual : Str) (params : Arguments) (body : FuncBody) (scope : Scope) : TE := fun σ H Q =>
  H P = some (.tbl qs) ∧ ∃ fv : List (Str × V), fv.map (·.1) = fns ∧ (∀ x v, (x, v) ∈ fv → ∃ a, X.env.cells.lookup x = some a ∧ H a = some (.cel (some v))) ∧
    ∀ f H', H f = none → Same H H' → CloAt H' f name qual params body scope fv → Q (.ref f) H'

theorem make_fn (I : Inv X pins σ H s) (hcode : X.env.code = .ref c) (T : TabK X.K c P) (hq : (pos, qual) ∈ qs) (hu : (qs.all fun p => !((pos.line == p.1.line) && (pos.col == p.1.col)) || (p.2 == qual)) = true)
    (hfr : (scope.names.filter fun y => y.2 == .free).map (·.1) = fns) (h : tFn X P qs fns name qual params body scope σ H Q) {n : Nat} :
    wpAny (model X.prog X.w) X.A (makeFunction name qual params body scope X.env [] [] [] pos n) (EP X pins σ Q) X.xe s := by
  obtain ⟨hP, fv, hn, hf, h⟩ := h
  have isfr : ∀ x, (x, NameKind.free) ∈ scope.names ↔ x ∈ fns := fun x => by
    rw [← hfr, List.mem_map]
    constructor
    · exact fun m => ⟨(x, .free), List.mem_filter.mpr ⟨m, rfl⟩, rfl⟩
    · rintro ⟨⟨y, k⟩, m, rfl⟩
      have m2 := List.mem_filter.mp m
      have e : k = .free := by simpa using m2.2
      subst e
      exact m2.1
  have names : ∀ x, (x, NameKind.free) ∈ scope.names → ∃ v a, (x, v) ∈ fv ∧ X.env.cells.lookup x = some a ∧ H a = some (.cel (some v)) := fun x hx => by
    have m := (isfr x).mp hx
    rw [← hn] at m
    obtain ⟨⟨x', v⟩, hm, rfl⟩ := List.mem_map.mp m
    obtain ⟨a, h1, h2⟩ := hf _ _ hm
    exact ⟨v, a, hm, h1, h2⟩
  have hcs : ∀ y ∈ scope.names, y.2 = .free → ∃ c, X.env.cells.lookup y.1 = some c := fun y hy e => by
    obtain ⟨y1, y2⟩ := y
    have e : y2 = .free := e
    subst e
    obtain ⟨_, a, _, h1, _⟩ := names y1 hy
    exact ⟨a, h1⟩
  have hcl := closure_is (scope := scope) (env := X.env) hcs
  have sub : ∀ {z : Str} {a : Addr}, (clOf X.env.cells scope.names []).lookup z = some a → X.env.cells.lookup z = some a := fun {z a} e => by
    rcases clOf_sub hcs e with q | q
    · cases q
    · exact q
  have subF : ∀ {z : Str} {a : Addr}, (clOf X.env.cells scope.names []).lookup z = some a → (z, NameKind.free) ∈ scope.names := fun {z a} e => by
    rcases clOf_free e with q | ⟨_, q⟩
    · exact q
    · cases q
  have cInj : ∀ x y a, (clOf X.env.cells scope.names []).lookup x = some a → (clOf X.env.cells scope.names []).lookup y = some a → x = y := fun x y a e1 e2 => I.ok.inj x y a (sub e1) (sub e2)
  have cHas : ∀ x, (x, NameKind.free) ∈ scope.names → ∃ a, (clOf X.env.cells scope.names []).lookup x = some a := fun x m => clOf_mem (.inl m)
  have cVal : ∀ x v, (x, v) ∈ fv → ∃ a, (clOf X.env.cells scope.names []).lookup x = some a ∧ H a = some (.cel (some v)) := fun x v m => by
    obtain ⟨a, e1, e2⟩ := hf x v m
    obtain ⟨a', e3⟩ := cHas x ((isfr x).mpr (by rw [← hn]; exact List.mem_map_of_mem m))
    have e4 := sub e3
    rw [e1] at e4; cases e4
    exact ⟨a, e3, e2⟩
  have cAll : ∀ x a, (clOf X.env.cells scope.names []).lookup x = some a → ∃ v, H a = some (.cel (some v)) := fun x a e => by
    obtain ⟨v, a', _, e1, e2⟩ := names x (subF e)
    rw [sub e] at e1; cases e1
    exact ⟨v, e2⟩
  have hg : s.heap.Ns mainGlobals X.mg := I.mod.glob.keeps I.bk
  obtain ⟨ps, hPo, ht, hent⟩ := I.hok P _ hP
  have C := T s.heap I.kIn
  have hgP : mainGlobals ≠ P := fun q => by
    obtain ⟨o, es, ep, e, hd, _⟩ := hg
    rw [q, hPo] at e; cases e; cases hd
  have hB : s.heap.BuiltinsAt X.mg P := by
    obtain ⟨bm, ob, b1, b2, b3, b4, b5, b6⟩ := I.mod.bm
    have b3' := I.bk _ _ b3
    refine ⟨bm, ob, b1, b2, fun q => ?_, fun q => ?_, b3', b4, b5, b6⟩
    · obtain ⟨o, es, ep, e, hd, _⟩ := hg
      rw [← q, b3'] at e; cases e; rw [b6] at hd; cases hd
    · rw [q, hPo] at b3'; cases b3'; cases b4
  rcases hent pos qual hq with hnf | ⟨c', o, u, vs, t, hit, hc', hd, hv⟩
  · refine mk_miss hcl I.ok.glob hg hcode C hPo ht hnf hgP hB fun c' ctv doc h' tk hx hge hlt hrec htb => ?_
    obtain ⟨c2, oc, vs, t, e2, hoc, hd, hv⟩ := hrec
    cases e2
    have hc0 : H c' = none := I.hok.fresh hge
    have hsz : s.heap.objs.size ≤ h'.objs.size := Nat.le_of_lt (Nat.lt_of_le_of_lt hge hlt)
    have hf0 : H h'.objs.size = none := I.hok.fresh hsz
    have hcf : c' ≠ h'.objs.size := Nat.ne_of_lt hlt
    let fo := fnObjOf name qual params body scope (clOf X.env.cells scope.names []) doc ((X.mg "__name__").getD .none) (.ref c') ctv
    let H' := upd (upd H c' (.frz oc HO.any)) h'.objs.size (.frz fo HO.any)
    have sm : ∀ b u, H b = some u → H' b = some u := fun b u e => by
      show upd _ _ _ b = _
      rw [upd_ne (ne_of_none e hf0), upd_ne (ne_of_none e hc0)]; exact e
    have H'c : H' c' = some (.frz oc HO.any) := by
      show upd _ _ _ c' = _
      rw [upd_ne hcf, upd_same]
    have H'f : H' h'.objs.size = some (.frz fo HO.any) := upd_same
    have keep : ∀ b o, b ≠ P → s.heap.get? b = some o → (h'.push fo).get? b = some o := fun b o hb e => Heap.get?_push_of_some _ (hx b o hb e)
    have nP : ∀ b, H b = none → b ≠ P := fun b e q => by rw [q, hP] at e; cases e
    refine ⟨.ref h'.objs.size, H', I.un ⟨fun b o e n _ _ => keep b o (nP b n) e, fun b o e n _ _ => ⟨o.slots, keep b o (nP b n) e⟩, fun b o e n _ => ?_, fun b o e _ => ?_, fun b u e _ => sm b u e⟩ fun b u e => ?_, rfl, ?_⟩
    · have lt := Heap.lt_size e
      show upd _ _ _ b = _
      rw [upd_ne (Nat.ne_of_lt (Nat.lt_of_lt_of_le lt hsz)), upd_ne (Nat.ne_of_lt (Nat.lt_of_lt_of_le lt hge))]; exact n
    · by_cases hb : b = P
      · exact ⟨_, Heap.get?_push_of_some _ (by rw [hb]; exact htb)⟩
      · exact ⟨o, keep b o hb e⟩
    · by_cases h1 : b = h'.objs.size
      · subst h1
        rw [H'f] at e; cases e
        exact ObjOk.anyOf (Heap.get?_push_size _ rfl)
      · have e1 : upd H c' (.frz oc HO.any) b = some u := (upd_ne h1).symm.trans e
        by_cases h2 : b = c'
        · subst h2
          rw [upd_same] at e1; cases e1
          exact ObjOk.anyOf (Heap.get?_push_of_some _ hoc)
        · rw [upd_ne h2] at e1
          by_cases hb : b = P
          · subst hb
            rw [hP] at e1; cases e1
            refine ⟨_, Heap.get?_push_of_some _ htb, ?_, fun pos' q m => ?_⟩
            · simpa using TriplesOk_snoc (pos.line : Int) (pos.col : Int) (.ref c') ps.toList ht
            · have e3 : (ps ++ #[rawInt pos.line, rawInt pos.col, Value.ref c']).toList = ps.toList ++ [rawInt pos.line, rawInt pos.col, Value.ref c'] := by simp
              rw [e3, ca_snoc _ ht]
              rcases hent pos' q m with z | ⟨d, o, u, vs', t', z1, z2, z3, z4⟩
              · rw [z]
                by_cases hl : ((pos.line : Int) == pos'.line && (pos.col : Int) == pos'.col) = true
                · right
                  have hqq : q = qual := by
                    have := List.all_eq_true.mp hu (pos', q) m
                    simp only [Bool.and_eq_true, beq_iff_eq, Int.ofNat_inj, Int.natCast_inj] at hl
                    have a1 : pos.line = pos'.line := by have := hl.1; omega
                    have a2 : pos.col = pos'.col := by have := hl.2; omega
                    simpa [a1, a2] using this
                  subst hqq
                  exact ⟨c', oc, HO.any, vs, t, if_pos hl, H'c, hd, hv⟩
                · exact .inl (if_neg hl)
              · right
                rw [z1]
                exact ⟨d, o, u, vs', t', rfl, sm _ _ z2, z3, z4⟩
          · refine (I.hok b u e1).stay (fun d v hc q => keep d v ?_ q) (fun d q => sm _ _ q) fun d u q _ => sm _ _ q
            rcases hc with rfl | hc
            · exact hb
            · intro z; rw [z, hP] at hc; cases hc
    · exact h h'.objs.size H' hf0 sm ⟨_, c', oc, HO.any, HO.any, vs, t, doc, _, ctv, H'f, H'c, hd, hv, cInj, cHas, fun x v m => let ⟨a, q1, q2⟩ := cVal x v m; ⟨a, q1, sm _ _ q2⟩, fun x a q => let ⟨v, q2⟩ := cAll x a q; ⟨v, sm _ _ q2⟩⟩
  · refine mk_hit hcl I.ok.glob hg hcode C hPo ht hit hB fun ctv doc h' tk hk hsz => ?_
    have hf0 : H h'.objs.size = none := I.hok.fresh hsz
    have sm : Same H (upd H h'.objs.size (.frz (fnObjOf name qual params body scope (clOf X.env.cells scope.names []) doc ((X.mg "__name__").getD .none) (.ref c') ctv) HO.any)) := fun b u e => by
      rw [upd_ne (ne_of_none e hf0)]; exact e
    refine ⟨.ref h'.objs.size, _, I.laid (o := .frz (fnObjOf name qual params body scope (clOf X.env.cells scope.names []) doc ((X.mg "__name__").getD .none) (.ref c') ctv) HO.any) (fun b o e => Heap.get?_push_of_some _ (hk b o e)) hsz (ObjOk.anyOf (Heap.get?_push_size _ rfl)), rfl, ?_⟩
    exact h _ _ hf0 sm ⟨_, c', o, HO.any, u, vs, t, doc, _, ctv, upd_same, sm _ _ hc', hd, hv, cInj, cHas, fun x v m => let ⟨a, q1, q2⟩ := cVal x v m; ⟨a, q1, sm _ _ q2⟩, fun x a q => let ⟨v, q2⟩ := cAll x a q; ⟨v, sm _ _ q2⟩⟩

/-  lambda .. : e -/
theorem pe_lambda {e : Expr} (hcode : X.env.code = .ref c) (T : TabK X.K c P) (hq : (pos, X.env.qual ++ "<lambda>") ∈ qs) (hu : (qs.all fun p => !((pos.line == p.1.line) && (pos.col == p.1.col)) || (p.2 == X.env.qual ++ "<lambda>")) = true)
    (hfr : (scope.names.filter fun y => y.2 == .free).map (·.1) = fns) (hdef : defaultsOf params X.env = ([], []) := by rfl) :
    PE X (.Lambda params e scope pos) (tFn X P qs fns "<lambda>" (X.env.qual ++ "<lambda>") params (.expr e) scope) := fun _ _ _ _ _ I h =>
  PySem.W.kla_eval hdef (make_fn I hcode T hq hu hfr h)

def tDef (i : Nat) (t : TE) : TS := fun D σ H => t σ H fun v H1 => D.nx (σ.set i (some v)) H1
/-  def name(..): .. inside a def; the name stands in slot i -/
/-! ### captured cells -/
theorem Inv.track {x : Str} {a : Addr} {i : Nat} (I : Inv X pins σ H s) (hN : X.N.Nodup) (hi : X.N[i]? = some x) (hk : X.env.kindOf x = some .cell) (hcp : X.cp x = true) (hfn : X.fn x = false) (ha : X.env.cells.lookup x = some a) (hH : H a = none) :
    Inv X pins σ (upd H a (.cel (σ[i]?.join))) s := by
  have hab : ∀ b o, X.s₀.heap.get? b = some o → b ≠ a := fun b o e => Nat.ne_of_lt (Nat.lt_of_lt_of_le (Heap.lt_size e) (I.ok.cab2 x a hcp ha))
  obtain ⟨v0, hv0⟩ := I.cell x a ha
  refine ⟨I.ok, I.os, I.bare, ⟨I.base.keep, I.base.slot, fun b o e n hx => ?_, I.base.there, fun b u e f => ?_⟩, I.loc, I.cell, ?_, fun y c e => ?_, fun p hp => ?_, fun b u e => ?_, I.len⟩
  · rw [upd_ne (hab b o e)]; exact I.base.free b o e n hx
  · have := I.base.fix b u e f
    rw [upd_ne (ne_of_none this hH)]; exact this
  · rw [upd_ne (Ne.symm (I.cne x a ha))]; exact I.free
  · by_cases hc : c = a
    · subst hc
      obtain rfl := I.ok.inj _ _ _ e ha
      refine .inr ⟨hfn, _, upd_same, fun z j v e1 k e2 => ?_⟩
      have := nodup_ix hN e1 hi
      subst this
      rw [e2] at z; cases z
    · rw [upd_ne hc]; exact I.freeC y c e
  · obtain ⟨e, n, ne, nf, d⟩ := I.pin p hp
    refine ⟨e, ?_, ne, nf, d⟩
    rw [upd_ne fun z => ?_]
    · exact n
    · obtain ⟨o, q1, q2⟩ := hv0
      rw [← z, e] at q1; cases q1
      exact d _ q2
  · by_cases hb : b = a
    · subst hb
      rw [upd_same] at e; cases e
      cases hσ : σ[i]?.join with
      | none => exact ⟨v0, hv0, fun x z => by cases z⟩
      | some v =>
        have hσ' : σ[i]? = some (some v) := by
          cases q : σ[i]? with
          | none => rw [q] at hσ; cases hσ
          | some w => rw [q] at hσ; cases w with
            | none => cases hσ
            | some w => cases hσ; rfl
        obtain ⟨m, hn, hl⟩ := I.loc
        obtain ⟨u, r, l⟩ := hl i x v hi hσ' (.inr (.inl hk))
        rcases l with ⟨k, _⟩ | ⟨_, c, hc, hcell⟩
        · rw [hk] at k; cases k
        · rw [ha] at hc; cases hc
          exact ⟨_, hcell, fun y z => by cases z; exact ⟨u, rfl, r⟩⟩
    · rw [upd_ne hb] at e
      exact (I.hok b u e).stay (fun _ _ _ q => q) (fun d q => by rw [upd_ne (ne_of_none q hH)]; exact q) fun d u q _ => by rw [upd_ne (ne_of_none q hH)]; exact q

/-  ahead of a block: the cell of a captured name, tracked from here on -/
def tTrack (X : Cx) (x : Str) (i : Nat) (t : TS) : TS := fun D σ H => ∀ a, X.env.cells.lookup x = some a → X.H₀ a = none → (∀ y b, X.env.cells.lookup y = some b → y ≠ x → b ≠ a) → H a = none ∧ t D σ (upd H a (.cel (σ[i]?.join)))
theorem pss_track {x : Str} {i : Nat} {b : List Stmt} {t : TS} (hN : X.N.Nodup) (hi : X.N[i]? = some x) (hk : X.env.kindOf x = some .cell) (hcp : X.cp x = true) (hfn : X.fn x = false)
    (h : PSs X b t) : PSs X b (tTrack X x i t) := fun pins s σ H D I q => by
  obtain ⟨a, ha⟩ := I.ok.has x (.inl hk)
  obtain ⟨z, q⟩ := q a ha (I.ok.hz a (I.ok.cab2 x a hcp ha)) fun y b e ne z => ne (I.ok.inj y x b e (z ▸ ha))
  exact h pins s σ _ D (I.track hN hi hk hcp hfn ha z) q

/-  x = e for a captured name, once -/
def tSetF (X : Cx) (x : Str) (i : Nat) (te : TE) : TS := fun D σ H => te σ H fun v H1 => ∃ a, X.env.cells.lookup x = some a ∧ H1 a = some (.cel none) ∧ D.nx (σ.set i (some v)) (upd H1 a (.cel (some v)))
theorem ps_setF {i : Nat} {x : Str} {e : Expr} {te : TE} {pos' : Pos} (hN : X.N.Nodup) (hi : X.N[i]? = some x) (hk : X.env.kindOf x = some .cell) (hcp : X.cp x = true) (hfn : X.fn x = false) (he : PE X e te) (hs : swapsWith e (some (.Name x pos')) pos.line X.env = pure false := by rfl) :
    PS X (.Assign [.Name x pos'] e pos) (tSetF X x i te) := by
  intro pins s σ H D I h
  refine wpAny_Assign_Name (thn (he pins s σ H _ I h) fun u s1 ⟨v, H1, I, r, q⟩ => ?_) hs
  obtain ⟨a, ha, hH, q⟩ := q
  obtain ⟨w0, z⟩ := I.cell x a ha
  obtain ⟨m, hn, hl⟩ := id I.loc
  have hiσ : i < σ.length := by rw [I.len]; exact (List.getElem?_eq_some_iff.mp hi).1
  have hab : ∀ b o, X.s₀.heap.get? b = some o → b ≠ a := fun b o e => Nat.ne_of_lt (Nat.lt_of_lt_of_le (Heap.lt_size e) (I.ok.cab2 x a hcp ha))
  refine wpAny_storeName_cell I.ok.kind hk ha z fun h' hc' hs => ?_
  refine ⟨_, _, ⟨I.ok, I.os, I.bare, ⟨fun b o e n hb hx => ?_, fun b o e n hb hx => ?_, fun b o e n hx => ?_, fun b o e hx => ?_, fun b u e f => ?_⟩, ⟨m, hn.sameBut hs (Ne.symm (I.cne x a ha)), fun j y v' e1 e2 e3 => ?_⟩, fun y c' e => ?_, ?_, fun y c' e => ?_, fun p hp => ?_, fun b u e => ?_, by simpa using I.len⟩, q⟩
  · exact (hs.2 b (hab b o e)).trans (I.base.keep b o e n hb hx)
  · obtain ⟨sl, e1⟩ := I.base.slot b o e n hb hx
    exact ⟨sl, (hs.2 b (hab b o e)).trans e1⟩
  · rw [upd_ne (hab b o e)]; exact I.base.free b o e n hx
  · obtain ⟨o', e1⟩ := I.base.there b o e hx
    exact ⟨o', (hs.2 b (hab b o e)).trans e1⟩
  · have h0 := I.ok.hz a (I.ok.cab2 x a hcp ha)
    rw [upd_ne (ne_of_none e h0)]
    exact I.base.fix b u e f
  · by_cases hj : j = i
    · subst hj
      rw [hi] at e1; cases e1
      rw [List.getElem?_set_self hiσ] at e2
      cases e2
      exact ⟨u, r, .inr ⟨.inl hk, a, ha, hc'⟩⟩
    · rw [List.getElem?_set_ne (Ne.symm hj)] at e2
      obtain ⟨u', r', q⟩ := hl j y v' e1 e2 e3
      refine ⟨u', r', ?_⟩
      rcases q with q | ⟨k, c', e, z'⟩
      · exact .inl q
      · refine .inr ⟨k, c', e, z'.sameBut hs ?_⟩
        rintro rfl
        exact hj (nodup_ix hN e1 (I.ok.inj _ _ _ e ha ▸ hi))
  · by_cases hcc : c' = a
    · subst hcc; exact ⟨_, hc'⟩
    · obtain ⟨w2, z2⟩ := I.cell y c' e
      exact ⟨w2, z2.sameBut hs hcc⟩
  · rw [upd_ne (Ne.symm (I.cne x a ha))]; exact I.free
  · by_cases hcc : c' = a
    · subst hcc
      obtain rfl := I.ok.inj _ _ _ e ha
      exact .inr ⟨hfn, some v, upd_same, fun z => by cases z⟩
    · rw [upd_ne hcc]
      refine (I.freeC y c' e).imp id fun ⟨hf', o', ho', hno⟩ => ⟨hf', o', ho', fun z j v' e1 k e2 => ?_⟩
      by_cases hj : j = i
      · subst hj
        rw [hi] at e1; cases e1
        rw [ha] at e; cases e
        exact hcc rfl
      · rw [List.getElem?_set_ne (Ne.symm hj)] at e2
        exact hno z j v' e1 k e2
  · obtain ⟨e, n, ne, nf, d⟩ := I.pin p hp
    have hpa : p.1 ≠ a := fun q => by
      obtain ⟨oc, hoc, hocd⟩ := z
      rw [q, hoc] at e
      have q' : oc = p.2 := Option.some.inj e
      exact d w0 (by rw [← q']; exact hocd)
    exact ⟨(hs.2 p.1 hpa).trans e, by rw [upd_ne hpa]; exact n, ne, nf, d⟩
  · by_cases hb : b = a
    · subst hb
      rw [upd_same] at e; cases e
      exact ⟨_, hc', fun y z => by cases z; exact ⟨u, rfl, r⟩⟩
    · rw [upd_ne hb] at e
      have nfix : ∀ d u', H1 d = some u' → u' ≠ .cel none → upd H1 a (.cel (some v)) d = some u' := fun d u' e' hu => by
        rw [upd_ne fun z => ?_]
        · exact e'
        · rw [z, hH] at e'
          cases e'
          exact hu rfl
      refine (I.hok b u e).stay (fun d w' hc q => (hs.2 d ?_).trans q) (fun d q => nfix _ _ q (by simp)) fun d u' q hf => nfix _ _ q (by rintro rfl; exact hf)
      rcases hc with rfl | hc
      · exact hb
      · intro z; rw [z, hH] at hc; cases hc
end
end L2

namespace L2
open PySem PySem.Spec PyProof.Rows

/-! ### the law's call where defs make functions: their code tables are tracked beside the script -/
theorem law_callC {P : Program} {w : World} {K : PySem.W.Frag} {mg mb : Str → Option Value} {CX : CXT} {k : Nat} {fa a : Addr} {fd : FuncData} {x : Str} {sp : Sp} {s₁ : Shared} {vs : List Value} {ns : List Int} {tabs : List (Addr × Addr × List (Pos × Str))}
    (KX : K.In s₁.heap) (hns : s₁.heap.Ns mainGlobals mg) (hb : s₁.heap.Ns builtinsNs mb) (hbb : ∀ x : Str, x ≠ "__name__" → mb x = bootBuiltins x) (hlim : s₁.heap.NoLimit) (hbm : ∃ b o, mg "__builtins__" = some (.ref b) ∧ b ≠ builtinsNs ∧ s₁.heap.get? b = some o ∧ o.cls = .type "module" ∧ o.dict = some builtinsNs ∧ o.data = .plain) (hg : s₁.gens = #[])
    (ha : s₁.heap.get? a = some { cls := .type "list", data := .seq vs.toArray }) (hi : IntsAre vs ns) (hl : ns.length ≤ sizeLine) (hr : Room k callerA)
    (hT : ∀ q ∈ tabs, PySem.W.CodeHd s₁.heap q.1 q.2.1 ∧ s₁.heap.get? q.2.1 = some (PySem.W.tabObj #[])) (hnt : PySem.W.noTabs K = true) (nd : (tabs.map fun q => q.2.1).Nodup)
    (F : ∀ base : Heap, K.In base → base.Ns mainGlobals mg → FnOk P w K mg base CX k fa fd [x] sp) (hbind : ∀ (s : Shared) (u : Value), BindsTo s fd ⟨[u], []⟩ [(x, u)])
    (hsp : ∀ H : Hp, SqL K H a (ns.map V.int) → (∀ q ∈ tabs, H q.2.1 = some (.tbl q.2.2)) → sp [.ref a] H (fun v _ => v = .bl true) fun _ _ _ => False)
    (hCX : ∀ H e s', CX [] H s₁ (fun _ _ _ => False) e s' → False) :
    codeAny (model P w) callerA (.call (.ref fa) ⟨[.ref a], []⟩) (fun r s' => r = .ok (.ret (.bool true)) ∧ OldK s₁.heap s'.heap ∧ s'.os = s₁.os ∧ AllBare s'.gens) s₁ := by
  have rv := vals_ints hi
  have lenV := hi.length
  have aP : ∀ q ∈ tabs, q.2.1 ≠ a := fun q hq z => by
    have e := (hT q hq).2
    rw [z, ha] at e; cases e
  have core : ∀ H : Hp, SqL K H a (ns.map V.int) → (∀ q ∈ tabs, H q.2.1 = some (.tbl q.2.2)) →
      (∀ b u, H b = some u → (b = a ∧ K.lookup a = none ∧ ∃ xs, u = .frz { cls := .type "list", data := .seq vs.toArray } (.lst xs)) ∨ ∃ q ∈ tabs, b = q.2.1 ∧ u = .tbl q.2.2) → HOk P w H s₁.heap →
      codeAny (model P w) callerA (.call (.ref fa) ⟨[.ref a], []⟩) (fun r s' => r = .ok (.ret (.bool true)) ∧ OldK s₁.heap s'.heap ∧ s'.os = s₁.os ∧ AllBare s'.gens) s₁ := by
    intro H hS hP hA hok
    have base_of : ∀ {b : Addr} {o : Obj}, s₁.heap.get? b = some o → H b = none → (hidT s₁.heap H).get? b = some o := fun e n => hidT_get e n
    have noA : ∀ {b : Addr} {o : Obj}, s₁.heap.get? b = some o → o.cls ≠ .type "list" ∨ (∀ n, o.data ≠ .seq vs.toArray n) → o ≠ PySem.W.tabObj #[] → H b = none := fun {b o} e d1 d2 => by
      cases q : H b with
      | none => rfl
      | some u =>
        rcases hA b u q with ⟨rfl, _, _⟩ | ⟨t, ht, rfl, _⟩
        · rw [ha] at e; cases e
          rcases d1 with d1 | d1
          · exact absurd rfl d1
          · exact absurd rfl (d1 _)
        · have e2 := (hT t ht).2
          rw [e] at e2; cases e2
          exact absurd rfl d2
    have nsK : ∀ {b : Addr} {m : Str → Option Value}, s₁.heap.Ns b m → (hidT s₁.heap H).Ns b m := fun {b m} ⟨o, es, ep, e, d, r⟩ =>
      ⟨o, es, ep, base_of e (noA e (.inr fun n z => by rw [d] at z; cases z) fun z => by rw [z] at d; cases d), d, r⟩
    have hKb : K.In (hidT s₁.heap H) := fun b o e => base_of (KX b o e) (by
      cases q : H b with
      | none => rfl
      | some u =>
        rcases hA b u q with ⟨rfl, z, _⟩ | ⟨t, ht, rfl, _⟩
        · rw [z] at e; cases e
        · have e2 := KX _ _ e
          rw [(hT t ht).2] at e2; cases e2
          have h2 := List.all_eq_true.mp hnt _ (PySem.W.mem_of_lookupK e)
          exact absurd (show false = true from h2) Bool.false_ne_true)
    have hM : Mod K mg (hidT s₁.heap H) := ⟨hKb, nsK hns, ⟨mb, nsK hb, hbb⟩, let ⟨mc, h1, h2⟩ := hlim; ⟨mc, nsK h1, h2⟩, let ⟨b, o, a1, a2, a3, a4⟩ := hbm; ⟨b, o, a1, a2, base_of a3 (noA a3 (.inl fun z => by rw [a4.1] at z; simp at z) fun z => by rw [z] at a4; cases a4.1), a4⟩⟩
    have e0 : Env0 P w K mg (hidT s₁.heap H) callerA [] s₁ H := ⟨rfl, hM, fun b o e => of_hidT e, Nat.le_of_eq (hidT_size _ _), trivial, fun b hb => absurd (show b ∈ ([] : List Addr) from hb) (by simp), hok, .of_eq hg⟩
    refine codeAny_mono ((F _ hKb (nsK hns)).run callerA [] s₁ H ⟨[.ref a], []⟩ [.ref a] [.ref a] _ _ hr e0 (hbind s₁ (.ref a)) (.cons rfl .nil) (hsp H hS hP)) fun r s' h => ?_
    cases r with
    | error e => exact (hCX H e s' h).elim
    | ok fl =>
      cases fl with
      | next => exact False.elim h
      | brk => exact False.elim h
      | cont => exact False.elim h
      | ret u =>
        obtain ⟨v, H', os, bare, un, hok', r', q⟩ := h
        have q' : v = .bl true := q
        subst q'
        obtain rfl : u = Value.bool true := r'
        have old : ∀ b o, s₁.heap.get? b = some o → s'.heap.get? b = some o ∨ ∃ t ∈ tabs, b = t.2.1 ∧ o = PySem.W.tabObj #[] ∧ ∃ ps, s'.heap.get? b = some (PySem.W.tabObj ps) := fun b o e => by
          cases q : H b with
          | none => exact .inl (un.keep b o e q (by intro z; exact absurd (show b ∈ ([] : List Addr) from z) (by simp)) (by simp))
          | some u =>
            rcases hA b u q with ⟨rfl, _, xs, rfl⟩ | ⟨t, ht, rfl, rfl⟩
            · obtain ⟨e1, _⟩ := hok _ _ q
              obtain ⟨e2, _⟩ := hok' _ _ (un.fix _ _ q trivial)
              rw [e] at e1; cases e1
              exact .inl e2
            · obtain ⟨ps, e2, _⟩ := hok' _ _ (un.fix _ _ q trivial)
              have e3 := (hT t ht).2
              rw [e] at e3; cases e3
              exact .inr ⟨t, ht, rfl, rfl, ps, e2⟩
        refine ⟨rfl, ⟨fun b o e => ?_, fun b o e => ?_⟩, os, bare⟩
        · rcases old b o e with z | ⟨t, ht, rfl, rfl, ps, z⟩
          · exact .inl z
          · exact .inr (.inl ⟨((hT t ht).1.tab (hT t ht).2).isCodeTable, rfl, #[], ps, rfl, by rw [Array.empty_append]; exact z⟩)
        · rcases old b o e with z | ⟨t, ht, rfl, rfl, ps, z⟩
          · exact ⟨o, z⟩
          · exact ⟨_, z⟩
  let Ht : Hp := fun b => (tabs.find? fun q => q.2.1 == b).map fun q => HO.tbl q.2.2
  have HtP : ∀ q ∈ tabs, Ht q.2.1 = some (.tbl q.2.2) := fun q hq => by
    show Option.map _ (tabs.find? _) = _
    cases e : tabs.find? fun r => r.2.1 == q.2.1 with
    | none =>
      have := List.find?_eq_none.mp e q hq
      simp at this
    | some r =>
      have h1 := List.find?_some e
      have h2 := List.mem_of_find?_eq_some e
      have h3 : r.2.1 = q.2.1 := by simpa using h1
      have : r = q := by
        obtain ⟨i, hi⟩ := List.mem_iff_getElem?.mp h2
        obtain ⟨j, hj⟩ := List.mem_iff_getElem?.mp hq
        have ei : (tabs.map fun q => q.2.1)[i]? = some r.2.1 := by rw [List.getElem?_map, hi]; rfl
        have ej : (tabs.map fun q => q.2.1)[j]? = some r.2.1 := by rw [List.getElem?_map, hj, h3]; rfl
        obtain ⟨i1, i2⟩ := List.getElem?_eq_some_iff.mp ei
        obtain ⟨j1, j2⟩ := List.getElem?_eq_some_iff.mp ej
        have := (List.getElem_inj nd).mp (i2.trans j2.symm)
        subst this
        rw [hi] at hj; exact Option.some.inj hj
      subst this
      rfl
  have HtA : ∀ b u, Ht b = some u → ∃ q ∈ tabs, b = q.2.1 ∧ u = .tbl q.2.2 := fun b u e => by
    have e : Option.map (fun q => HO.tbl q.2.2) (tabs.find? fun q => q.2.1 == b) = some u := e
    obtain ⟨q, hq, rfl⟩ := Option.map_eq_some_iff.mp e
    have h1 := List.find?_some hq
    exact ⟨q, List.mem_of_find?_eq_some hq, by have : q.2.1 = b := by simpa using h1
                                               exact this.symm, rfl⟩
  have tok : ∀ {H : Hp} {q}, q ∈ tabs → ObjOk P w H s₁.heap q.2.1 (.tbl q.2.2) := fun {H q} hq => ⟨#[], (hT q hq).2, trivial, fun _ _ _ => .inl rfl⟩
  cases hk : K.lookup a with
  | some o =>
    have e := KX a o hk
    rw [ha] at e
    cases e
    refine core Ht (.inr ⟨_, vs.toArray, _, hk, rfl, rfl, rfl, by rw [List.size_toArray, lenV]; exact hl, by simpa using rv⟩) HtP (fun b u z => .inr (HtA b u z)) fun b u z => ?_
    obtain ⟨q, hq, rfl, rfl⟩ := HtA b u z
    exact tok hq
  | none =>
    refine core (fun b => if b = a then some (.frz { cls := .type "list", data := .seq vs.toArray } (.lst (ns.map V.int))) else Ht b) (.inl (.inr ⟨{ cls := .type "list", data := .seq vs.toArray }, if_pos rfl⟩)) (fun q hq => (if_neg (aP q hq)).trans (HtP q hq)) (fun b u z => ?_) fun b u z => ?_
    · by_cases hb : b = a
      · have z' := (if_pos hb).symm.trans z
        cases z'
        exact .inl ⟨hb, hk, _, rfl⟩
      · exact .inr (HtA b u ((if_neg hb).symm.trans z))
    · by_cases hb : b = a
      · have z' := (if_pos hb).symm.trans z
        cases z'
        subst hb
        exact ⟨ha, by rw [List.length_map]; exact hl, vs, _, rv, ha⟩
      · obtain ⟨q, hq, rfl, rfl⟩ := HtA b u ((if_neg hb).symm.trans z)
        exact tok hq

theorem walk_ofC {l : PySem.W.OpenLaw} {n k : Nat} {q : Program} {loose : List Str} {XP : (Str → Option Value) → Heap → Prop} {YP : World → Heap → Prop} {d : DefRec} {K : Params → PySem.W.Frag} {CX : CXT} {sp : PySem.W.Frag → Sp} {x : Str} {tabs : List (Addr × Addr × List (Pos × Str))}
    (hn : l.most = some n) (hn2 : n ≤ sizeLine) (hdf : d.params.defaults = []) (hr : Room k callerA)
    (hY : ∀ (w : World) (h : Heap), YP w h → (K w.params).In h)
    (hT : ∀ (w : World) (h : Heap), YP w h → (K w.params).In h → ∀ t ∈ tabs, PySem.W.CodeHd h t.1 t.2.1 ∧ h.get? t.2.1 = some (PySem.W.tabObj #[])) (hnt : ∀ w : World, PySem.W.noTabs (K w.params) = true) (nd : (tabs.map fun q => q.2.1).Nodup)
    (F : ∀ (w : World) (mg : Str → Option Value) (fa : Addr) (h : Heap), (K w.params).In h → h.Ns mainGlobals mg → mg d.name = some (.ref fa) →
      ∃ fd : FuncData, (∀ (s : Shared) (u : Value), BindsTo s fd ⟨[u], []⟩ [(x, u)]) ∧
        ∀ base : Heap, (K w.params).In base → base.Ns mainGlobals mg → FnOk l.prog w (K w.params) mg base CX k fa fd [x] (sp (K w.params)))
    (hsp : ∀ (K : PySem.W.Frag) (H : Hp) (a : Addr) (ns : List Int), ns.length ≤ n → SqL K H a (ns.map V.int) → (∀ q ∈ tabs, H q.2.1 = some (.tbl q.2.2)) → sp K [.ref a] H (fun v _ => v = .bl true) fun _ _ _ => False)
    (hCX : ∀ (H : Hp) (s : Shared) (e : Value) (s' : Shared), CX [] H s (fun _ _ _ => False) e s' → False) :
    PySem.W.WalkO q loose XP YP l.row.toRowW d [] (fun f vs => PySem.call f vs) := by
  refine Att.attach_call hn hdf fun w s₀ s₁ mg mb fa o pm cd doc a vs ns G Y ho hd hcd hmg hobj hints hlen hg => ?_
  have KX := hY w _ Y
  obtain ⟨fd, hb, hF⟩ := F w mg fa _ KX G.T.g hmg
  exact law_callC KX G.T.g G.T.b G.T.builtins G.T.nolimit G.T.bmain hg hobj hints (Nat.le_trans hlen hn2) hr (hT w _ Y KX) (hnt w) nd hF hb (fun H hS hP => hsp (K w.params) H a ns hlen hS hP) fun H e s' => hCX H s₁ e s'
end L2

namespace L2
open PySem PySem.Spec PyProof.Rows

/-! ### calling a function that was made inside a def -/
/-  its names: parameters, the names it closes over, its own -/
structure CloScope (N ps fns : List Str) (sc : Scope) : Prop where
  kind : sc.kind = .function
  co : sc.isCoroutine = false
  gen : sc.isGenerator = false
  nd : N.Nodup
  pre : N.take (ps.length + fns.length) = ps ++ fns
  par : ∀ x ∈ ps, sc.names.lookup x = some .local
  fre : ∀ x ∈ fns, sc.names.lookup x = some .free
  nocell : ∀ y ∈ sc.names, y.2 ≠ .cell
def startC (N : List Str) (vs : List V) (fv : List (Str × V)) : St := vs.map some ++ fv.map (fun p => some p.2) ++ List.replicate (N.length - vs.length - fv.length) none
def cxClo (CX : CXT) (P : Program) (w : World) (K : PySem.W.Frag) (mg : Str → Option Value) (base : Heap) (N : List Str) (qual : Str) (scope : Scope) (f : Addr) (cd : Value) (clos : List (Str × Addr)) (A : Around) (outer : List Env) (s : Shared) (H : Hp) (E : XK) : Cx where
  prog := P
  w := w
  K := K
  mg := mg
  base := base
  A := A.deeper (PySem.W.envX qual scope s.heap.objs.size f cd clos)
  N := N
  s₀ := s
  H₀ := H
  env := PySem.W.envX qual scope s.heap.objs.size f cd clos
  outer := outer
  stack := PySem.W.envX qual scope s.heap.objs.size f cd clos :: outer
  ex := []
  calm := true
  cp := fun _ => false
  fn := fun _ => false
  pn := []
  xe := fun e s' => wpAny (model P w) (A.deeper (PySem.W.envX qual scope s.heap.objs.size f cd clos)) (leaving (PySem.W.envX qual scope s.heap.objs.size f cd clos) e) (fun _ s'' => CX outer H s E e s'') (fun e' s'' => CX outer H s E e' s'') s'

theorem lookup_nd {α : Type} : ∀ {l : List (Str × α)} {x : Str} {v : α}, (l.map (·.1)).Nodup → (x, v) ∈ l → l.lookup x = some v
  | [], _, _, _, m => by simp at m
  | (y, u) :: r, x, v, nd, m => by
    obtain ⟨n1, n2⟩ := List.nodup_cons.mp nd
    rw [List.lookup_cons]
    rcases List.mem_cons.mp m with e | m
    · cases e; simp
    · have : x ≠ y := fun e => n1 (by rw [← e]; exact List.mem_map_of_mem (f := (·.1)) m)
      rw [beq_false_of_ne this]
      exact lookup_nd n2 m
theorem zip_keys : ∀ {ps : List Str} {us : List Value}, us.length = ps.length → (ps.zip us).map (·.1) = ps
  | [], [], _ => rfl
  | p :: ps, u :: us, h => by simp [zip_keys (ps := ps) (us := us) (by simpa using h)]
  | [], _ :: _, h => by simp at h
  | _ :: _, [], h => by simp at h
theorem zip_rev_lookup {ps : List Str} {us : List Value} {i : Nat} {x : Str} {u : Value} (hl : us.length = ps.length) (nd : ps.Nodup) (h1 : ps[i]? = some x) (h2 : us[i]? = some u) : (ps.zip us).reverse.lookup x = some u := by
  refine lookup_nd ?_ (List.mem_reverse.mpr ?_)
  · rw [List.map_reverse, zip_keys hl]
    exact List.pairwise_reverse.mpr (nd.imp fun h => Ne.symm h)
  · refine List.mem_iff_getElem?.mpr ⟨i, ?_⟩
    rw [List.getElem?_zip_eq_some]
    exact ⟨h1, h2⟩

def codeOf (body : FuncBody) (env : Env) : Code := match body with
  | .stmts b => .func b env
  | .expr e => .expr e env
section
variable {CX : CXT} {P : Program} {w : World} {K : PySem.W.Frag} {mg : Str → Option Value} {base : Heap} {N ps fns : List Str} {nm qual : Str} {params : Arguments} {scope : Scope} {f : Addr} {cd : Value} {clos : List (Str × Addr)} {A : Around} {outer : List Env} {s : Shared} {H : Hp} {E : XK} {us : List Value} {vs : List V} {fv : List (Str × V)} {k : Nat}
theorem inv_startC {h' : Heap} {tk : Tok} (S : CloScope N ps fns scope) (hd : A.handled = none) (e0 : Env0 P w K mg base A outer s H) (hl : vs.length = ps.length) (r : Vals vs us) (hfv : fv.map (·.1) = fns)
    (hin : ∀ x y a, clos.lookup x = some a → clos.lookup y = some a → x = y) (hhas : ∀ x, (x, NameKind.free) ∈ scope.names → ∃ a, clos.lookup x = some a)
    (hval : ∀ x v, (x, v) ∈ fv → ∃ a, clos.lookup x = some a ∧ H a = some (.cel (some v))) (hall : ∀ x a, clos.lookup x = some a → ∃ v, H a = some (.cel (some v)))
    (hns : h'.Ns s.heap.objs.size fun x => (ps.zip us).reverse.lookup x) (hk : ∀ b o, s.heap.get? b = some o → h'.get? b = some o) :
    Inv (cxClo CX P w K mg base N qual scope f cd clos A outer s H E) [] (startC N vs fv) H { s with heap := h', toks := tk } := by
  have lenF : fv.length = fns.length := by rw [← hfv, List.length_map]
  have hpl : ps.length + fns.length ≤ N.length := by have := congrArg List.length S.pre; rw [List.length_take, List.length_append] at this; omega
  have noA : ∀ b : Addr, b ∉ (cxClo CX P w K mg base N qual scope f cd clos A outer s H E).ex := fun b z => absurd (show b ∈ ([] : List Addr) from z) (by simp)
  have lu : us.length = ps.length := by rw [← r.length]; exact hl
  have ndP : (ps ++ fns).Nodup := by rw [← S.pre]; exact S.nd.sublist (List.take_sublist _ _)
  refine ⟨⟨e0.mod, S.kind, rfl, rfl, Nat.le_refl _, fun y z c h1 h2 => hin y z c h1 h2, fun y hy => ?_, fun y c h _ => (Bool.false_ne_true h).elim, fun _ => hd, Around.frames_deeper e0.frames, .inr ⟨rfl, rfl⟩, fun b z => absurd z (noA b), e0.bs, e0.bsz, fun b _ _ => noA b, fun b z => absurd z (noA b), e0.funs, e0.frf, fun y c h _ => (Bool.false_ne_true h).elim, fun b hb => e0.hok.fresh hb⟩,
    rfl, e0.bare, Un.kept hk, ⟨_, hns, fun i y v h1 h2 h3 => ?_⟩, fun y c h => ?_, e0.hok.fresh (Nat.le_refl _), fun y c h => ?_, fun p hp => absurd (show p ∈ ([] : List (Addr × Obj)) from hp) (by simp), e0.hok.kept hk, ?_⟩
  · have hy : scope.names.lookup y = some .cell ∨ scope.names.lookup y = some .free := hy
    rcases hy with hy | hy
    · exact absurd rfl (S.nocell _ (PySem.mem_of_lookup hy))
    · exact hhas y (PySem.mem_of_lookup hy)
  · have h1 : N[i]? = some y := h1
    unfold startC at h2
    by_cases hi : i < vs.length
    · rw [List.getElem?_append_left (by simp; omega), List.getElem?_append_left (by simpa using hi), List.getElem?_map] at h2
      cases e : vs[i]? with
      | none => rw [e] at h2; cases h2
      | some a =>
        rw [e] at h2; cases h2
        obtain ⟨u, hu, rv⟩ := r.get e
        have hp : ps[i]? = some y := by
          have : (N.take (ps.length + fns.length))[i]? = some y := by rw [List.getElem?_take_of_lt (by omega)]; exact h1
          rw [S.pre, List.getElem?_append_left (by omega)] at this
          exact this
        exact ⟨u, rv, .inl ⟨S.par y (List.mem_of_getElem? hp), zip_rev_lookup lu (ndP.sublist (List.sublist_append_left _ _)) hp hu⟩⟩
    · by_cases hj : i < vs.length + fv.length
      · rw [List.getElem?_append_left (by simp; omega), List.getElem?_append_right (by simpa using hi), List.length_map, List.getElem?_map] at h2
        cases e : fv[i - vs.length]? with
        | none => rw [e] at h2; cases h2
        | some p =>
          obtain ⟨z, v'⟩ := p
          rw [e] at h2; cases h2
          have hp : fns[i - vs.length]? = some y := by
            have : (N.take (ps.length + fns.length))[i]? = some y := by rw [List.getElem?_take_of_lt (by omega)]; exact h1
            rw [S.pre, List.getElem?_append_right (by omega), ← hl] at this
            exact this
          have hz : z = y := by
            rw [← hfv, List.getElem?_map, e] at hp
            exact Option.some.inj hp
          subst hz
          obtain ⟨a, q1, q2⟩ := hval _ _ (List.mem_of_getElem? e)
          obtain ⟨u, q3, q4⟩ := e0.hok a _ q2
          obtain ⟨y', rfl, r'⟩ := q4 v' rfl
          exact ⟨y', r', .inr ⟨.inr (S.fre z (List.mem_of_getElem? hp)), a, q1, q3.keeps hk⟩⟩
      · rw [List.getElem?_append_right (by simp; omega), List.getElem?_replicate] at h2
        split at h2 <;> cases h2
  · obtain ⟨v, q2⟩ := hall y c h
    obtain ⟨u, q3, _⟩ := e0.hok c _ q2
    exact ⟨u, q3.keeps hk⟩
  · obtain ⟨v, q2⟩ := hall y c h
    exact .inr ⟨rfl, some v, q2, fun z => by cases z⟩
  · unfold startC
    show _ = N.length
    simp only [List.length_append, List.length_map, List.length_replicate]
    omega

/-  the promise of a function that was made inside a def: at the values it closes over -/
structure CloOk (P : Program) (w : World) (K : PySem.W.Frag) (mg : Str → Option Value) (base : Heap) (CX : CXT) (k : Nat) (nm qual : Str) (params : Arguments) (body : FuncBody) (scope : Scope) (ps : List Str) (sp : List (Str × V) → Sp) : Prop where
  len : ∀ fv vs H Q E, sp fv vs H Q E → vs.length = ps.length
  run : ∀ (A : Around) (outer : List Env) (s : Shared) (H : Hp) (f : Addr) (fv : List (Str × V)) (us : List Value) (vs : List V) (Q : VK) (E : XK), Room k A → Env0 P w K mg base A outer s H → CloAt H f nm qual params body scope fv → Vals vs us → sp fv vs H Q E →
    codeAny (model P w) A (.call (.ref f) ⟨us, []⟩) (CR CX outer P w H s Q E) s

theorem clo_entry {body : FuncBody} {sp : List (Str × V) → Sp} (S : CloScope N ps fns scope) (len : ∀ fv vs H Q E, sp fv vs H Q E → vs.length = ps.length ∧ fv.map (·.1) = fns)
    (hb : ∀ (clos : List (Str × Addr)) (doc pm cdv ctv : Value) (us : List Value), us.length = ps.length →
      bindArgs { name := nm, qualname := qual, params, body, scope, globals := mainGlobals, closure := clos, defaults := .none, kwdefaults := .none, doc, pyModule := pm, annotations := none, code := cdv, closureTuple := ctv, builtins := builtinsNs } ⟨us, []⟩ = pure (ps.zip us))
    (hgo : ∀ (A : Around) (outer : List Env) (s : Shared) (H : Hp) (f : Addr) (clos : List (Str × Addr)) (cdv : Value) (fv : List (Str × V)) (vs : List V) (Q : VK) (E : XK) (s1 : Shared), Room k (A.deeper (PySem.W.envX qual scope s.heap.objs.size f cdv clos)) → sp fv vs H Q E →
      Inv (cxClo CX P w K mg base N qual scope f cdv clos A outer s H E) [] (startC N vs fv) H s1 →
      codeAny (model P w) A (codeOf body (PySem.W.envX qual scope s.heap.objs.size f cdv clos)) (CR CX outer P w H s Q E) s1) :
    CloOk P w K mg base CX (k + 1) nm qual params body scope ps sp := by
  refine ⟨fun fv vs H Q E h => (len fv vs H Q E h).1, fun A outer s H f fv us vs Q E hr e0 hc r hsp => ?_⟩
  obtain ⟨clos, c, o, u, u', xs, t, doc, pm, ctv, h1, h2, h3, h4, h5, h6, h7, h8⟩ := hc
  obtain ⟨hl, hfv⟩ := len fv vs H Q E hsp
  have lu : us.length = ps.length := by rw [← r.length]; exact hl
  obtain ⟨hf, _⟩ := e0.hok f _ h1
  obtain ⟨hcO, _⟩ := e0.hok c _ h2
  have lim : s.heap.NoLimit := e0.mod.nolimit.keeps fun b o e => (e0.bs b o e).1
  have hloc : ∀ y ∈ ps.zip us, scope.names.lookup y.1 = some .local := fun ⟨n, v⟩ hy => S.par n (List.of_mem_zip hy).1
  have cr : s.heap.CodeRec (.ref c) qual := ⟨c, o, xs, t, rfl, hcO, h3, h4⟩
  have fin : wpAny (model P w) A.in1 (newFunctionEnv scope mainGlobals clos (ps.zip us) (qual ++ ".<locals>.") (some f) (.ref c) none builtinsNs)
      (fun env s₂ => s₂.heap.NoLimit ∧ codeAny (model P w) A (codeOf body env) (CR CX outer P w H s Q E) s₂) (fun e s' => CR CX outer P w H s Q E (.error e) s') s := by
    refine wpAny_newFunctionEnv S.nocell hloc (fun h' hns hsb => ?_) S.kind
    have hk : ∀ b o, s.heap.get? b = some o → h'.get? b = some o := fun b o e => hsb.extBut b o (Nat.ne_of_lt (Heap.lt_size e)) (Heap.get?_push_of_some _ e)
    exact ⟨lim.keeps hk, hgo A outer s H f clos (.ref c) fv vs Q E _ (hr.deeper _) hsp (inv_startC S hr.hd e0 hl r hfv h5 h6 h7 h8 hns hk)⟩
  cases body with
  | stmts b =>
    refine codeAny_call_function hr.depth hf rfl S.co S.gen rfl cr ?_
    rw [hb clos doc pm (.ref c) ctv us lu]
    exact wpAny_pure fin
  | expr e =>
    refine PySem.W.kla_callFunE hr.depth hf rfl S.co S.gen rfl cr ?_
    rw [hb clos doc pm (.ref c) ctv us lu]
    exact wpAny_pure fin

theorem clo_expr {e : Expr} {sp : List (Str × V) → Sp} (S : CloScope N ps fns scope) (len : ∀ fv vs H Q E, sp fv vs H Q E → vs.length = ps.length ∧ fv.map (·.1) = fns)
    (hb : ∀ (clos : List (Str × Addr)) (doc pm cdv ctv : Value) (us : List Value), us.length = ps.length →
      bindArgs { name := nm, qualname := qual, params, body := .expr e, scope, globals := mainGlobals, closure := clos, defaults := .none, kwdefaults := .none, doc, pyModule := pm, annotations := none, code := cdv, closureTuple := ctv, builtins := builtinsNs } ⟨us, []⟩ = pure (ps.zip us))
    (hbody : ∀ (A : Around) (outer : List Env) (s : Shared) (H : Hp) (f : Addr) (clos : List (Str × Addr)) (cdv : Value) (fv : List (Str × V)) (vs : List V) (Q : VK) (E : XK), Room k (A.deeper (PySem.W.envX qual scope s.heap.objs.size f cdv clos)) → sp fv vs H Q E →
      ∃ te, PE (cxClo CX0 P w K mg base N qual scope f cdv clos A outer s H E).nox e te ∧ te (startC N vs fv) H Q) : CloOk P w K mg base CX0 (k + 1) nm qual params (.expr e) scope ps sp :=
  clo_entry S len hb fun A outer s H f clos cdv fv vs Q E s1 hr hsp I => by
    obtain ⟨te, ht, hq⟩ := hbody A outer s H f clos cdv fv vs Q E hr hsp
    refine PySem.W.kla_codeExpr (wpAny_mono (ht [] s1 _ H Q (I.wish _) hq) (fun v s' ⟨x, H', J, rv, q⟩ => ?_) fun _ _ z => z.elim)
    exact ⟨x, H', J.os, J.bare, J.base, J.hok, rv, q⟩
end

section
variable {X : Cx} {CX : CXT} {k : Nat} {nm qual x : Str} {params : Arguments} {body : FuncBody} {scope : Scope} {ps : List Str} {sp : List (Str × V) → Sp} {p pos : Pos} {e : Expr} {es : List Expr} {t : TA} {E : XK} {i : Nat}
theorem run_clo {pins : List (Addr × Obj)} {σ : St} {H : Hp} {s : Shared} {Q : VK} {us : List Value} {vs : List V} {f : Addr} {fv : List (Str × V)} (F : CloOk X.prog X.w X.K X.mg X.base CX k nm qual params body scope ps sp) (hr : Room k X.A) (hx : Passes CX X E)
    (I : Inv X pins σ H s) (hc : CloAt H f nm qual params body scope fv) (r : Vals vs us) (h : sp fv vs H Q E) : wpAny (model X.prog X.w) X.A (call (.ref f) us) (EP X pins σ Q) X.xe s := by
  refine wpAny_call (codeAny_mono (F.run X.A X.stack s H f fv us vs Q E hr I.env0 hc r h) fun r s' hq => ?_)
  cases r with
  | error e => exact hx pins σ H s e s' I hq
  | ok fl =>
    cases fl with
    | ret u => exact I.after hq
    | next => exact False.elim hq
    | brk => exact False.elim hq
    | cont => exact False.elim hq
theorem CloAt.fn {pins : List (Addr × Obj)} {σ : St} {H : Hp} {s : Shared} {f : Addr} {fv : List (Str × V)} (hc : CloAt H f nm qual params body scope fv) (I : Inv X pins σ H s) : PySem.W.FnAt f s.heap := by
  obtain ⟨clos, c, o, u, u', xs, t, doc, pm, ctv, h1, _⟩ := hc
  obtain ⟨e, _⟩ := I.hok f _ h1
  exact ⟨_, _, _, _, e⟩
/-  f(e, ..) where the name f (slot i) holds a function that was made inside a def -/
def tCallV (nm qual : Str) (params : Arguments) (body : FuncBody) (scope : Scope) (sp : List (Str × V) → Sp) (E : XK) (i : Nat) (t : TA) : TE := fun σ H Q => ∃ f fv, σ[i]? = some (some (.ref f)) ∧ CloAt H f nm qual params body scope fv ∧ t σ H fun vs H1 => CloAt H1 f nm qual params body scope fv ∧ sp fv vs H1 Q E
theorem pe_callV (i : Nat) (F : CloOk X.prog X.w X.K X.mg X.base CX k nm qual params body scope ps sp) (hr : Room k X.A) (hx : Passes CX X E) (ha : PA X (e :: es) t) (hN : X.N[i]? = some x := by rfl) (hv : Vis X.env.scope x := by first | exact Or.inl rfl | exact Or.inr (Or.inl rfl) | exact Or.inr (Or.inr rfl)) (hd : (x == ("__debug__" : Str)) = false := by decide)
    (hcd : (x == ("__classdict__" : Str)) = false := by decide) (he : starEach (e :: es) X.env = (false, eval e X.env) :: starEach es X.env := by rfl) (hpl : (backTo pos (starEach es X.env)).any (·.1) = false := by rfl) :
    PE X (.Call (.Name x p) (e :: es) [] pos) (tCallV nm qual params body scope sp E i t) := by
  intro pins s σ H Q I h
  obtain ⟨f, fv, e1, hc, h⟩ := h
  refine wpAny_Call_Name_kw (thn (pe_var (pos := p) hN hv hd hcd pins s σ H (fun v H1 => v = .ref f ∧ H1 = H) I ⟨_, e1, rfl, rfl⟩) fun u s1 ⟨v, H1, I1, r, q1, q2⟩ => ?_)
  subst q1; subst q2
  cases (show u = Value.ref f from r)
  refine PySem.W.callWith_F (hc.fn I1) (thn (ha pos pins s1 σ H1 _ I1 h) fun us s2 ⟨vs, H2, I2, r2, q⟩ => ⟨q.1.fn I2, ?_⟩) he hpl
  exact run_clo F hr hx I2 q.1 r2 q.2
end

/-! ### a def that makes functions: the names they close over (cap) are stored once -/
theorem Inv.capd {X : Cx} {pins : List (Addr × Obj)} {σ : St} {H : Hp} {s : Shared} (hfn : ∀ x, X.fn x = true) (I : Inv X pins σ H s) (g : Str → Bool) : Inv { X with fn := g } pins σ H s := by
  have ok := I.ok
  refine ⟨⟨ok.mod, ok.kind, ok.glob, ok.blt, ok.above, ok.inj, ok.has, fun x c _ h => ok.cab x c (hfn x) h, ok.hd, ok.frames, ok.stk, ok.exf, ok.bs, ok.bsz, ok.noex, ok.exfs, ok.funs, ok.frf, ok.cab2, ok.hz⟩, I.os, I.bare, I.base, I.loc, I.cell, I.free, fun x c e => ?_, I.pin, I.hok, I.len⟩
  rcases I.freeC x c e with z | ⟨z, _⟩
  · exact .inl z
  · rw [hfn x] at z; cases z
abbrev capFn (cap : List Str) : Str → Bool := fun x => !(cap.contains x)
abbrev cxCap (cap : List Str) (CX : CXT) (P : Program) (w : World) (K : PySem.W.Frag) (mg : Str → Option Value) (base : Heap) (N : List Str) (qual : Str) (scope : Scope) (f : Addr) (cd : Value) (A : Around) (outer : List Env) (s : Shared) (H : Hp) (E : XK) : Cx :=
  { cxOf CX P w K mg base N qual scope f cd A outer s H E with fn := capFn cap }
theorem Fun.okC {P : Program} {w : World} {K : PySem.W.Frag} {mg : Str → Option Value} {base : Heap} {x qual : Str} {st : Stmt} {f c : Addr} {fd : FuncData} {N ps : List Str} {k : Nat} {sp : Sp} (cap : List Str) (F : Fun K x qual st f fd) (hc : fd.code = .ref c) (S : FnScope N ps (defScope st)) (len : ∀ vs H Q E, sp vs H Q E → vs.length = ps.length)
    (hbody : ∀ (A : Around) (outer : List Env) (s : Shared) (H : Hp) (vs : List V) (Q : VK) (E : XK), Room k (A.deeper (envOfC qual (defScope st) s.heap.objs.size f (.ref c))) → sp vs H Q E →
      ∃ t, PSs (cxCap cap CX0 P w K mg base N qual (defScope st) f (.ref c) A outer s H E).nox (defBody st) t ∧ t { nx := fun _ H' => Q .non H', rt := Q } (start N vs) H) : FnOk P w K mg base CX0 (k + 1) f fd ps sp := by
  obtain ⟨oc, od, kV, doc, pm, an, cdv, ct, osl, rfl, lk, hcd⟩ := F.ex
  obtain rfl : cdv = .ref c := hc
  refine ⟨len, fun A outer s H args us vs Q E hr e0 hb r hsp => ?_⟩
  have hl := len _ _ _ _ hsp
  have KX : K.In s.heap := e0.mod.kin.keeps fun b o e => (e0.bs b o e).1
  have lim : s.heap.NoLimit := e0.mod.nolimit.keeps fun b o e => (e0.bs b o e).1
  have hkind : ∀ y ∈ ps.zip us, (defScope st).names.lookup y.1 = some .local ∨ ((defScope st).names.lookup y.1 = some .cell ∧ ((cellsFrom (s.heap.objs.size + 1) (defScope st).names []).lookup y.1).isSome = true) := fun ⟨n, v⟩ hy => by
    rcases S.par n (List.of_mem_zip hy).1 with q | q
    · exact .inl q
    · exact .inr ⟨q, PySem.W.cellsFrom_some _ _ _ (.inl q)⟩
  refine codeAny_call_function hr.depth (KX _ _ lk) rfl S.co S.gen rfl (PySem.W.codeRec_of KX hcd) (hb _ _ _ _ ?_)
  refine wpAny_newFunctionEnv_cells S.kind hkind fun env he s1 x => ?_
  subst he
  refine ⟨lim.keeps x.toInCall.keep, codeAny_func ?_⟩
  obtain ⟨t, ht, hq⟩ := hbody A outer s H vs Q E (hr.deeper _) hsp
  have I : Inv (cxOf CX0 P w K mg base N qual (defScope st) f (.ref c) A outer s H E) [] (start N vs) H s1 := inv_start S hr.hd e0 hl r x
  have I' : Inv (cxCap cap CX0 P w K mg base N qual (defScope st) f (.ref c) A outer s H E).nox [] (start N vs) H s1 := (I.capd (fun _ => rfl) (capFn cap)).wish _
  refine wpAny_mono (ht [] s1 (start N vs) H _ I' hq) (fun fl s' hs => ?_) fun e s' hs => hs.elim
  have fin : ∀ {σ' : St} {H' : Hp} {v : V} {u : Value}, Inv (cxCap cap CX0 P w K mg base N qual (defScope st) f (.ref c) A outer s H E).nox [] σ' H' s' → RelV v u → Q v H' → CE outer P w H s Q u s' :=
    fun {σ' H' v u} J rv q => ⟨v, H', J.os, J.bare, J.base, J.hok, rv, q⟩
  cases fl with
  | ret u =>
    obtain ⟨v, σ', H', J, rv, q⟩ := hs
    exact fin J rv q
  | next =>
    obtain ⟨σ', H', J, q⟩ := hs
    exact fin (v := V.non) (u := Value.none) J rfl q
  | brk =>
    obtain ⟨_, _, _, q⟩ := hs
    exact False.elim q
  | cont =>
    obtain ⟨_, _, _, q⟩ := hs
    exact False.elim q

section
variable {X : Cx} {c P : Addr} {qs : List (Pos × Str)} {name q : Str} {params : Arguments} {scope : Scope} {pos : Pos} {fns : List Str}
theorem ce_lambda {e : Expr} (hcode : X.env.code = .ref c) (T : TabK X.K c P) (hql : X.env.qual ++ "<lambda>" = q) (hq : (pos, q) ∈ qs) (hu : (qs.all fun p => !((pos.line == p.1.line) && (pos.col == p.1.col)) || (p.2 == q)) = true)
    (hfr : (scope.names.filter fun y => y.2 == .free).map (·.1) = fns) (hdef : defaultsOf params X.env = ([], []) := by rfl) :
    PE X (.Lambda params e scope pos) (tFn X P qs fns "<lambda>" q params (.expr e) scope) := by
  subst hql
  exact pe_lambda hcode T hq hu hfr hdef
end
/-  a code table of the written part -/
theorem tabK_of {K : PySem.W.Frag} {c P : Addr} (e : PySem.W.codeHdIn K c P = true) : TabK K c P := fun _ X => PySem.W.codeHd_of_K X e
end L2
namespace L2
open PySem PySem.Spec PyProof.Rows
end L2
namespace L2
open PySem PySem.Spec PyProof.Rows
/-  [f(x) for x in a list], f's values known -/
end L2

/-! comprehensions by an invariant of what was made; with a test; over enumerate; the same data on both sides of == -/
namespace L2
open PySem PySem.Spec PyProof.Rows
/-  the heap without D -/
def del (H : Hp) (D : Addr) : Hp := fun b => if b = D then none else H b
theorem del_self {H : Hp} {D : Addr} : del H D D = none := by unfold del; rw [if_pos rfl]
theorem del_ne {H : Hp} {D b : Addr} (h : b ≠ D) : del H D b = H b := by unfold del; rw [if_neg h]
theorem del_same {H : Hp} {D : Addr} : Same (del H D) H := fun b u e => by
  by_cases h : b = D
  · rw [h, del_self] at e; cases e
  · rw [del_ne h] at e; exact e
theorem del_upd {H : Hp} {D : Addr} {o : HO} : del (upd H D o) D = del H D := by
  funext b
  by_cases h : b = D
  · rw [h, del_self, del_self]
  · rw [del_ne h, del_ne h, upd_ne h]
theorem del_none {H : Hp} {D : Addr} (h : H D = none) : del H D = H := by
  funext b
  by_cases e : b = D
  · rw [e, del_self, h]
  · rw [del_ne e]
theorem same_del {H H' : Hp} {D : Addr} (s : Same H H') : Same (del H D) (del H' D) := fun b u e => by
  by_cases h : b = D
  · rw [h, del_self] at e; cases e
  · rw [del_ne h] at e ⊢; exact s b u e
/-  [e for x in range(..)]: an invariant of what was made -/
theorem comp_itsP {lo st : Int} {n : Nat} {te : TE} {caps : L2.St} {Q : VK} {H2 : Hp} (Pv : Nat → List V → Hp → Prop) (hn : n ≤ sizeLine) (h0 : Pv 0 [] H2)
    (hs : ∀ (i : Nat) acc H3 H3', i < n → Same H2 H3 → Same H3 H3' → Pv i acc H3 → ∀ R : VK, (∀ u H6', Same H3' H6' → (∀ H6, Same H3 H6 → (∀ p o, (H3' p = none ∨ ∀ ys, o ≠ HO.lst ys) → H6' p = some o → H6 p = some o) → Pv (i + 1) (acc ++ [u]) H6) → R u H6') → te (some (.int (lo + i * st)) :: caps) H3' R)
    (hd : ∀ D acc H H', H2 D = none → H D = none → Same H2 H → Same H H' → Pv n acc H → acc.length = n → H' D = some (.lst acc) → Q (.ref D) H') : CompAt (Its lo st n) caps tAll te Q H2 := by
  unfold CompAt
  intro D hD
  refine ⟨fun i m acc H3 => m = n - i ∧ i ≤ n ∧ acc.length = i ∧ H3 D = some (.lst acc) ∧ Same H2 (del H3 D) ∧ Pv i acc (del H3 D), ⟨n, by simp, Nat.zero_le _, rfl, upd_same, ?_, ?_⟩, ?_⟩
  · rw [del_upd, del_none hD]; exact Same.refl _
  · rw [del_upd, del_none hD]; exact h0
  rintro i m acc H3 ⟨rfl, hi, hacc, hD3, s3, p3⟩
  refine ⟨hD3, ?_⟩
  by_cases hlt : i < n
  · refine .inr ⟨hlt, by omega, fun v H4 y => ?_⟩
    obtain ⟨e, y⟩ := y
    subst e y
    refine ⟨fun _ => ?_, fun z => by cases z⟩
    refine hs i acc _ _ hlt s3 del_same p3 _ fun u H6' s6 k => ⟨s6.at hD3, n - (i + 1), by omega, rfl, hlt, by simp [hacc], upd_same, ?_, ?_⟩
    · rw [del_upd]; exact s3.trans (same_del s6)
    · rw [del_upd]
      refine k _ (same_del s6) fun p o q1 q2 => ?_
      rw [del_ne (fun z => by
        rcases q1 with q1 | q1
        · rw [z, hD3] at q1; cases q1
        · rw [z, s6.at hD3] at q2; cases q2; exact q1 _ rfl)]
      exact q2
  · have e : i = n := by omega
    subst e
    exact .inl ⟨Nat.le_refl _, hd D acc _ H3 hD del_self s3 del_same p3 hacc hD3⟩
/-  [x for x in xs if p(x)] -/
theorem comp_listF {K : PySem.W.Frag} {l : Addr} {xs : List V} {tt : TT} {te : TE} {caps : L2.St} {Q : VK} {H2 : Hp} (p : V → Bool) (f : V → V) (hl : SqL K H2 l xs) (hn : xs.length < sizeLine)
    (ht : ∀ (x : V) (H3 : Hp), x ∈ xs → Same H2 H3 → ∀ R : Bool → Hp → Prop, (∀ H6, Same H3 H6 → R (p x) H6) → tt (some x :: caps) H3 R)
    (hs : ∀ (x : V) (H3 : Hp), x ∈ xs → p x = true → Same H2 H3 → ∀ R : VK, (∀ H6, Same H3 H6 → R (f x) H6) → te (some x :: caps) H3 R)
    (hd : ∀ D H', H2 D = none → Same H2 H' → H' D = some (.lst ((xs.filter p).map f)) → Q (.ref D) H') : CompAt (Itl K l) caps tt te Q H2 := by
  unfold CompAt
  intro D hD
  refine ⟨fun i m acc H3 => m = xs.length - i ∧ i ≤ xs.length ∧ acc = ((xs.take i).filter p).map f ∧ H3 D = some (.lst acc) ∧ Same H2 H3, ⟨xs.length, by simp, Nat.zero_le _, rfl, upd_same, Same.new hD⟩, ?_⟩
  rintro i m acc H3 ⟨rfl, hi, rfl, hD3, s3⟩
  refine ⟨hD3, ?_⟩
  have q := s3.seq hl
  by_cases hlt : i < xs.length
  · have hx : xs[i]? = some xs[i] := List.getElem?_eq_getElem hlt
    have hle : (((xs.take i).filter p).map f).length < sizeLine := by
      rw [List.length_map]
      refine Nat.lt_of_le_of_lt (List.length_filter_le _ _) ?_
      rw [List.length_take]; omega
    have et : xs.take (i + 1) = xs.take i ++ [xs[i]] := by rw [List.take_succ, hx]; rfl
    refine .inr ⟨⟨xs, xs[i], q, hx⟩, hle, fun v H4 y => ?_⟩
    obtain ⟨e, y⟩ := y
    have ev := y xs q
    rw [hx] at ev
    cases ev
    subst e
    refine ht _ _ (List.getElem_mem hlt) s3 _ fun H5 s5 => ⟨fun hp => ?_, fun hp => ?_⟩
    · refine hs _ _ (List.getElem_mem hlt) hp (s3.trans s5) _ fun H6 s6 => ⟨s6.at (s5.at hD3), xs.length - (i + 1), by omega, rfl, hlt, ?_, upd_same, (s3.trans (s5.trans s6)).put hD⟩
      rw [et, List.filter_append, List.map_append]
      simp [hp]
    · refine ⟨xs.length - (i + 1), by omega, rfl, hlt, ?_, s5.at hD3, s3.trans s5⟩
      rw [et, List.filter_append, List.map_append]
      simp [hp]
  · have e : i = xs.length := by omega
    subst e
    rw [List.take_length] at hD3 ⊢
    exact .inl ⟨⟨xs, q, Nat.le_refl _⟩, hd D H3 hD s3 hD3⟩
/-  [i for i, x in enumerate(xs) if p(i, x)] -/
/-  == of what has the same data -/
theorem deq_same {K : PySem.W.Frag} {f : Bool → Bool} {x y : V} {H : Hp} {Q : VK} {d : PyData} (hx : Rp K H x d) (hy : Rp K H y d) (hd : SeqAt.shaped d = true) (q : Q (.bl (f true)) H) : rDeq K f x y H Q :=
  ⟨d, d, hx, hy, hd, hd, by rw [PySem.SeqAt.eqv_refl d (SeqAt.canLay_of_shaped hd)]; exact q⟩
end L2
namespace L2
open PySem PySem.Spec PyProof.Rows
section
variable {X : Cx} {K : PySem.W.Frag}
/-! the same rules in a block, with the fragment by its name -/
theorem ix_listK (e : X.K = K) : IxR X (rIxL K) := e ▸ ix_list
end
end L2
namespace L2
open PySem PySem.Spec PyProof.Rows
theorem cutV_ints (es : List Int) (lo hi : Option Int) : cutV (es.map V.int) lo hi = ((es.drop (HT.sIx es.length 0 lo)).take (HT.sIx es.length es.length hi - HT.sIx es.length 0 lo)).map V.int := by
  unfold cutV
  rw [List.length_map, ← List.map_drop, ← List.map_take]
end L2
namespace L2
open PySem PySem.Spec PyProof.Rows
theorem sIx_nn {n d : Nat} {i : Int} (h0 : 0 ≤ i) : HT.sIx n d (some i) = min i.toNat n := by
  show (if i < 0 then (i + (n : Int)).toNat else min i.toNat n) = _
  rw [if_neg (by omega)]
end L2

/-! a walk over what is a list or a tuple; xs.insert(i, y); pairs and permutations; places of lambdas -/
namespace L2
open PySem PySem.Spec PyProof.Rows
section
variable {X : Cx}
def rInsertI : V → List V → Hp → VK → Prop := fun x vs H Q => ∃ (l : Addr) (xs : List V) (y : V) (k : Int), x = .ref l ∧ vs = [.int k, y] ∧ H l = some (.lst xs) ∧ xs.length < sizeLine ∧ 0 ≤ k ∧ k ≤ xs.length ∧ Q .non (upd H l (.lst (xs.take k.toNat ++ y :: xs.drop k.toNat)))
end
/-! the way to a lambda in a text -/
def forBody : Stmt → List Stmt
  | .For _ _ b _ _ => b
  | _ => []
def asgVal : Stmt → Expr
  | .Assign _ v _ => v
  | _ => .Constant .none 0 ⟨0, 0, 0, 0⟩
def retVal : Stmt → Expr
  | .Return (some v) _ => v
  | _ => .Constant .none 0 ⟨0, 0, 0, 0⟩
def callArg (i : Nat) : Expr → Expr
  | .Call _ as _ _ => as.getD i (.Constant .none 0 ⟨0, 0, 0, 0⟩)
  | _ => .Constant .none 0 ⟨0, 0, 0, 0⟩
def lamArgs : Expr → Arguments
  | .Lambda a _ _ _ => a
  | _ => defArgs (.Pass ⟨0, 0, 0, 0⟩)
def lamBody : Expr → Expr
  | .Lambda _ b _ _ => b
  | e => e
def lamScope : Expr → Scope
  | .Lambda _ _ s _ => s
  | _ => defScope (.Pass ⟨0, 0, 0, 0⟩)
theorem atI_in {xs : List Int} {x v : Int} (h0 : 0 ≤ x) (h : xs[x.toNat]? = some v) : atI (xs.map V.int) x = some (.int v) := by
  have := atI_nat (xs := xs.map V.int) (j := x.toNat) (v := .int v) (by rw [List.getElem?_map, h]; rfl)
  rwa [Int.toNat_of_nonneg h0] at this
theorem ixN_in {n : Nat} {x : Int} (h0 : 0 ≤ x) (h : x < n) : ixN n x = some x.toNat := by
  unfold ixN
  rw [if_pos h0, if_pos h]
end L2

/-! max(a list of ints, default=d); xs[::-1] -/
namespace L2
open PySem PySem.Spec PyProof.Rows PySem.W
def bstIts : Option (Int × Tok) → Array Value
  | none => #[]
  | some (m, t) => #[.int m t, .int m t]
def BstOf (f : Nat → Int) (j : Nat) : Option (Int × Tok) → Prop
  | none => j = 0
  | some (m, _) => (∃ i, i < j ∧ f i = m) ∧ ∀ i, i < j → f i ≤ m
/-  what max with a default answers -/
def MaxOut (f : Nat → Int) (n : Nat) (d v : Value) : Prop := (n = 0 → v = d) ∧ (0 < n → ∃ m t, v = .int m t ∧ (∃ i, i < n ∧ f i = m) ∧ ∀ i, i < n → f i ≤ m)
theorem mxd_args (a v : Value) : argsOk "max" ⟨[a], [(Str.ofString "default", v)]⟩ := by unfold argsOk; kernel_rfl
section
variable {prog : Program} {w : World} {A : Around} {R : Result → Shared → Prop} {I : Addr} {fp wr : List Addr} {n : Nat} {P : Nat → Value → Prop} {St : Nat → Heap → Prop}
theorem mxd_loop (W : Walks prog w A.in1 I fp wr n P St) (f : Nat → Int) (hP : ∀ i v, P i v → ∃ t, v = .int (f i) t) (S : Addr) (hSf : S ∉ fp) (d : Value) : ∀ (k j : Nat) (s : Shared) (b : Option (Int × Tok)) (c : Nat), n - j = k → j ≤ n → St j s.heap →
    s.heap.get? S = some { cls := .type "list", dict := none, data := .seq (bstIts b) c, slots := #[] } → BstOf f j b →
    (∀ v h' tk, MaxOut f n d v → (∀ b o, b ∉ wr → b ≠ S → s.heap.get? b = some o → h'.get? b = some o) → R (.ok (.ret v)) { s with heap := h', toks := tk }) →
    codeAny (model prog w) A (.builtin "max.loop" ⟨[.ref I, .none, .ref S], [(Str.ofString "default", d)]⟩) R s
  | 0, j, s, b, c, hk, hj, hst, hS, hb, hR => by
    have hin : j = n := by omega
    subst hin
    have hSw : S ∉ wr := fun h => hSf (W.sub _ h)
    refine codeAny_builtin F.entry_max_loop ?_
    rw [Around.under_plainId F.plain_max_loop _]
    show wpAny _ A.in1 (seqItems? (.ref S) >>= _) _ _ s
    refine wpAny_bind (wpAny_seqItems hS rfl ?_)
    show wpAny _ A.in1 (tryCatch (pyNext (.ref I)) _ >>= _) _ _ s
    refine wpAny_bind (wpAny_tryCatch (W.done s _ _ hst fun h' tk hk' => ?_))
    have hS' := hk' S _ hSw hS
    cases b with
    | none =>
      cases hb
      exact wpAny_bind (m := rule _) (wpAny_rule (wpAny_pure (hR d _ tk ⟨fun _ => rfl, fun q => absurd q (Nat.lt_irrefl _)⟩ fun b o hbw _ e => hk' b o hbw e)))
    | some p =>
      obtain ⟨m, t⟩ := p
      show wpAny _ A.in1 (updateSeq S (fun _ => #[]) >>= _) _ _ _
      refine wpAny_bind (wpAny_updateSeq hS' rfl (wpAny_bind (wpAny_letGo (wpAny_pure ?_))) (by show (2 : Nat) ≤ _; decide))
      refine hR _ _ tk ⟨fun q => ?_, fun _ => ⟨m, t, rfl, hb⟩⟩ fun b o hbw hbS e => (Heap.get?_update_other _ _ (Ne.symm hbS)).trans (hk' b o hbw e)
      obtain ⟨⟨i, hi, _⟩, _⟩ := hb
      omega
  | k + 1, j, s, b, c, hk, hj, hst, hS, hb, hR => by
    have hlt : j < n := by omega
    have hSw : S ∉ wr := fun h => hSf (W.sub _ h)
    have hname : (toString "max" ++ toString ".loop" : String) = "max.loop" := by decide
    refine codeAny_builtin F.entry_max_loop ?_
    rw [Around.under_plainId F.plain_max_loop _]
    show wpAny _ A.in1 (seqItems? (.ref S) >>= _) _ _ s
    refine wpAny_bind (wpAny_seqItems hS rfl ?_)
    show wpAny _ A.in1 (tryCatch (pyNext (.ref I)) _ >>= _) _ _ s
    refine wpAny_bind (wpAny_tryCatch (W.item j s _ _ hlt hst fun v h' tk hv hst' hk' => ?_))
    have hS' := hk' S _ hSw hS
    obtain ⟨t, rfl⟩ := hP _ _ hv
    have turned : ∀ (g : Array Value → Array Value), (∀ b ∈ fp, ∀ o, h'.get? b = some o → (h'.update S (Obj.mapSeq g)).get? b = some o) := fun g b hbf o e => (Heap.get?_update_other _ _ (fun h : S = b => hSf (by rw [h]; exact hbf))).trans e
    cases b with
    | none =>
      cases hb
      show wpAny _ A.in1 (updateSeq S (fun _ => #[.int (f 0) t, .int (f 0) t]) >>= _) _ _ _
      refine wpAny_bind (wpAny_updateSeq hS' rfl ?_)
      rw [hname]
      refine wpAny_pure ⟨plainId_quiet F.plain_max_loop _, mxd_loop W f hP S hSf d k 1 _ (some (f 0, t)) (c + 1) (by omega) (by omega) (W.frame _ _ _ hst' (turned _)) ?_ ⟨⟨0, by omega, rfl⟩, fun i hi => ?_⟩ fun v' h'' tk'' ho hk'' => ?_⟩
      · exact (Heap.get?_update_self _ hS' rfl).trans rfl
      · rw [show i = 0 by omega]; exact Int.le_refl _
      exact hR v' h'' tk'' ho fun b o hbw hbS e => hk'' b o hbw hbS ((Heap.get?_update_other _ _ (Ne.symm hbS)).trans (hk' b o hbw e))
    | some p =>
      obtain ⟨m, u⟩ := p
      obtain ⟨⟨i0, hi0, e0⟩, hle⟩ := hb
      show wpAny _ A.in1 (tryCatch (holding [.int (f j) t, .int (f j) t] (richCompare .Gt (.int (f j) t) (.int m u) >>= _)) _ >>= _) _ _ _
      have hcmp := CmpOf.ints_gt (prog := prog) (w := w) (A := A.in1) (P := fun i v => ∃ t, v = .int (if i = 0 then f j else m) t) (fun i => if i = 0 then f j else m) (fun i v e => e)
      refine wpAny_bind (wpAny_tryCatch (wpAny_holding (wpAny_bind (hcmp 0 1 _ _ _ _ _ ⟨t, rfl⟩ ⟨u, rfl⟩ ?_))))
      refine wpAny_bind (wpAny_holding (wpAny_truthy_bool ?_))
      refine wpAny_bind (wpAny_letGo (wpAny_pure ?_))
      by_cases hb : f j > m
      · show wpAny _ _ (if decide (f j > m) = true then _ else _) _ _ _
        rw [if_pos (decide_eq_true hb)]
        refine wpAny_bind (wpAny_updateSeq hS' rfl (wpAny_bind (wpAny_letGo ?_)) (by show (2 : Nat) ≤ _; decide))
        rw [hname]
        obtain ⟨c', e'⟩ : ∃ c', (h'.update S (Obj.mapSeq fun _ => #[.int (f j) t, .int (f j) t])).get? S = some { cls := .type "list", dict := none, data := .seq #[.int (f j) t, .int (f j) t] c', slots := #[] } := ⟨_, Heap.get?_update_self _ hS' rfl⟩
        refine wpAny_pure ⟨plainId_quiet F.plain_max_loop _, mxd_loop W f hP S hSf d k (j + 1) _ (some (f j, t)) c' (by omega) hlt (W.frame _ _ _ hst' (turned _)) e' ⟨⟨j, by omega, rfl⟩, fun i hi => ?_⟩ fun v' h'' tk'' ho hk'' => ?_⟩
        · by_cases q : i = j
          · subst q; exact Int.le_refl _
          · have := hle i (by omega)
            omega
        · exact hR v' h'' tk'' ho fun b o hbw hbS e => hk'' b o hbw hbS ((Heap.get?_update_other _ _ (Ne.symm hbS)).trans (hk' b o hbw e))
      · show wpAny _ _ (if decide (f j > m) = true then _ else _) _ _ _
        rw [if_neg (by rw [decide_eq_false hb]; exact Bool.false_ne_true)]
        refine wpAny_bind (wpAny_letGo ?_)
        rw [hname]
        refine wpAny_pure ⟨plainId_quiet F.plain_max_loop _, mxd_loop W f hP S hSf d k (j + 1) _ (some (m, u)) c (by omega) hlt hst' hS' ⟨⟨i0, by omega, e0⟩, fun i hi => ?_⟩ fun v' h'' tk'' ho hk'' => hR v' h'' tk'' ho fun b o hbw hbS e => hk'' b o hbw hbS (hk' b o hbw e)⟩
        by_cases q : i = j
        · subst q; omega
        · exact hle i (by omega)
theorem mxd_call {E : Value → Shared → Prop} {s : Shared} {l : Addr} {xs : Array (Int × Tok)} {d : Value} {Q : Value → Shared → Prop} (hh : A.handled = none) (hl : s.heap.IsList l (intItems xs))
    (h : ∀ v h' tk, MaxOut (numAt xs) xs.size d v → (∀ b o, s.heap.get? b = some o → h'.get? b = some o) → Q v { s with heap := h', toks := tk }) :
    wpAny (model prog w) A (call (.builtin "max") [.ref l] [(Str.ofString "default", d)]) Q E s := by
  have hname : (toString "max" ++ toString ".loop" : String) = "max.loop" := by decide
  refine kmk_tree F.kind_max F.plain_max F.entry_max (mxd_args _ _) ?_
  show wpAny _ A.in1 (Builtin.Builtins.bindParams "max" ["key", "default"] 0 ⟨[], [(Str.ofString "default", d)]⟩ >>= _) _ _ s
  refine wpAny_bind (wpAny_of_eq (show Builtin.Builtins.bindParams "max" ["key", "default"] 0 ⟨[], [(Str.ofString "default", d)]⟩ = pure [none, some d] from rfl) ?_)
  refine wpAny_bind (wpAny_pure (wpAny_bind (iter_intList hl fun s₂ e st hfp hlI => ?_)))
  subst e
  refine wpAny_bind (wpAny_newObj_type ?_)
  rw [hname]
  have W := Walks.list (prog := prog) (w := w) (A := A.in1) hh s.heap.objs.size l hlI (intItems xs)
  have hsz : (intItems xs).size = xs.size := by simp [intItems]
  refine wpAny_pure ⟨plainId_quiet F.plain_max_loop _, mxd_loop W (numAt xs) (fun i v e => intItems_at e) _ (fun hm => Nat.lt_irrefl _ (hfp _ hm)) d _ 0 _ none 0 rfl (Nat.zero_le _) (W.frame _ _ _ st fun b _ o e => Heap.get?_push_of_some _ e) (Heap.get?_push_size _ rfl) rfl fun v h' tk ho hk => ?_⟩
  rw [hsz] at ho
  exact h v h' tk ho (old_kept fun b o hbw e => hk b o hbw (Nat.ne_of_lt (Heap.lt_size e)) (Heap.get?_push_of_some _ e))
end
section
variable {X : Cx}
/-  max(e, default=fe) -/
def tMaxD (K : PySem.W.Frag) (ta : TA) (tf : TE) : TE := fun σ H Q => ta σ H fun xs H1 => tf σ H1 fun y H2 =>
  ∃ (l : Addr) (ns : List Int) (z : Int), xs = [.ref l] ∧ y = .int z ∧ SqL K H2 l (ns.map V.int) ∧ ∀ m, (ns = [] → m = z) → (ns ≠ [] → m ∈ ns ∧ ∀ a ∈ ns, a ≤ m) → Q (.int m) H2
theorem pe_maxD {e fe : Expr} {ta : TA} {tf : TE} {p pos kp : Pos} (hc : X.calm = true) (hg : Gl X "max") (hm : X.mg "max" = none) (ha : PA X [e] ta) (hf : PE X fe tf)
    (he : backTo pos (starEach [e] X.env) = (false, eval e X.env) :: backTo pos (starEach [] X.env) := by rfl) :
    PE X (.Call (.Name "max" p) [e] [⟨some "default", fe, kp⟩] pos) (tMaxD X.K ta tf) := by
  intro pins s σ H Q I h
  refine wpAny_Call_Name_kw (ld_blt I hg hm bt_max ?_ (by decide) (by decide))
  refine callWith_kw (thn (ha pos pins s σ H _ I h) fun us s1 ⟨xs, H1, I1, r1, q1⟩ => ?_) he (by rw [he]; rfl) rfl rfl
  refine kws_cons (thn (hf pins s1 σ H1 _ I1 q1) fun fu s2 ⟨y, H2, I2, r2, q2⟩ => kws_nil ?_)
  obtain ⟨l, ns, z, rfl, rfl, hl, q⟩ := q2
  obtain ⟨u, rfl, ru⟩ := Vals.one r1
  cases ru
  obtain ⟨tz, rfl⟩ := r2
  obtain ⟨its, r', pl, hz⟩ := I2.list hl
  have hi := intsAre_of r'
  have hL := pl.isList
  have hn := hi.numsOf
  obtain ⟨ys, e⟩ := hi.allInts.items
  rw [e] at hL
  have e2 : numsOf its = numsOf (intItems ys).toList := by rw [← e]
  rw [e2, nums_intItems] at hn
  have hlen := congrArg List.length hn
  rw [List.length_map, Array.length_toList] at hlen
  show wpAny _ _ (call (.builtin "max") [.ref l] [(Str.ofString "default", .int z tz)]) _ _ s2
  refine mxd_call (I.ok.hd hc) hL fun v h' tk ho hk => ?_
  by_cases hne : ns = []
  · have h0 : ys.size = 0 := by rw [hlen, hne]; rfl
    have := ho.1 h0
    subst this
    exact ⟨.int z, H2, I2.kept (t' := tk) hk, ⟨tz, rfl⟩, q z (fun _ => rfl) fun x => absurd hne x⟩
  · have hpos : 0 < ns.length := List.length_pos_iff.mpr hne
    obtain ⟨m, t, rfl, ⟨i, hi', ei⟩, hle⟩ := ho.2 (by omega)
    refine ⟨.int m, H2, I2.kept (t' := tk) hk, ⟨t, rfl⟩, q m (fun x => absurd x hne) fun _ => ⟨?_, fun a ha' => ?_⟩⟩
    · rw [← hn, ← ei, numAt_eq]; exact getD_mem (by rw [List.length_map, Array.length_toList]; omega)
    · rw [← hn] at ha'
      obtain ⟨j, hj, rfl⟩ := mem_getD ha'
      rw [List.length_map, Array.length_toList] at hj
      rw [← numAt_eq]; exact hle j hj
/-  e[::st], st = -1, of a list -/
def tRevS (K : PySem.W.Frag) (te : TE) (ts : TO) : TE := fun σ H Q => te σ H fun x H1 => ts σ H1 fun o H2 => ∃ a xs, x = .ref a ∧ o = some (-1) ∧ SqL K H2 a xs ∧ ∀ p, H2 p = none → Q (.ref p) (upd H2 p (.lst xs.reverse))
end
end L2

/-! defs with defaults -/
namespace L2
open PySem PySem.Spec PyProof.Rows PySem.W
structure FunD (K : PySem.W.Frag) (x qual : Str) (st : Stmt) (f : Addr) (fd : FuncData) (ds : List Value) : Prop where
  ex : ∃ (oc : Value) (od : Option Addr) (dT : Addr) (o : Obj) (n : Nat) (kV doc pm : Value) (an : Option Addr) (cdv ct : Value) (osl : Array (Option Value)),
    fd = PySem.W.fnOf x qual (defArgs st) (defBody st) (defScope st) (.ref dT) kV doc pm an cdv ct ∧ K.lookup f = some ⟨oc, od, .func fd, osl⟩ ∧ PySem.W.codeIn K cdv qual = true ∧ K.lookup dT = some o ∧ o.data = .seq ds.toArray n
  kp : PySem.W.keepIn K (.ref f) = true
section
variable {P : Program} {w : World} {K : PySem.W.Frag} {mg : Str → Option Value} {base : Heap}
theorem FunD.ok {x qual : Str} {st : Stmt} {f : Addr} {fd : FuncData} {ds : List Value} {N ps : List Str} {k : Nat} {sp : Sp} (F : FunD K x qual st f fd ds) (S : FnScope N ps (defScope st)) (len : ∀ vs H Q E, sp vs H Q E → vs.length = ps.length)
    (hbody : ∀ (cdv : Value) (A : Around) (outer : List Env) (s : Shared) (H : Hp) (vs : List V) (Q : VK) (E : XK), Room k (A.deeper (envOfC qual (defScope st) s.heap.objs.size f cdv)) → sp vs H Q E →
      ∃ t, PSs (cxOf CX0 P w K mg base N qual (defScope st) f cdv A outer s H E).nox (defBody st) t ∧ t { nx := fun _ H' => Q .non H', rt := Q } (start N vs) H) : FnOk P w K mg base CX0 (k + 1) f fd ps sp := by
  obtain ⟨oc, od, dT, o, n, kV, doc, pm, an, cdv, ct, osl, rfl, lk, hcd, _⟩ := F.ex
  refine fn_of lk hcd S len fun A outer s H vs Q E hr hsp => ?_
  obtain ⟨t, h, q⟩ := hbody cdv A outer s H vs Q E hr hsp
  exact ⟨t, h.nox, q⟩
/-  how its arguments bind, the last ones left out or not: h₁ and h₂ by rfl at each count -/
theorem FunD.binds {x qual : Str} {st : Stmt} {f : Addr} {fd : FuncData} {ps : List Str} {ds es : List Value} (F : FunD K x qual st f fd ds) (n : Nat) (hn : n + es.length = ps.length)
    (h : ∀ (dT : Addr) (kV doc pm : Value) (an : Option Addr) (cdv ct : Value) (us : List Value), us.length = n →
      ∃ k : Option (Array Value) → Sem (List (Str × Value)), bindArgs (PySem.W.fnOf x qual (defArgs st) (defBody st) (defScope st) (.ref dT) kV doc pm an cdv ct) ⟨us, []⟩ = seqItems? (.ref dT) >>= k ∧ k (some ds.toArray) = pure (ps.zip (us ++ es))) : Binds K fd ps es := by
  obtain ⟨oc, od, dT, o, n, kV, doc, pm, an, cdv, ct, osl, rfl, lk, hcd, ho, hs⟩ := F.ex
  intro s us X hl
  obtain ⟨k, h1, h2⟩ := h dT kV doc pm an cdv ct us (by rw [List.length_append] at hl; omega)
  exact binds_K X rfl ho hs h1 h2
theorem fund_mk {x qual : Str} {st : Stmt} {f dT : Addr} {oc : Value} {od an dod : Option Addr} {osl dsl : Array (Option Value)} {kV doc pm cdv ct dc : Value} {ds : List Value} {n : Nat} (l : K.lookup f = some ⟨oc, od, .func (PySem.W.fnOf x qual (defArgs st) (defBody st) (defScope st) (.ref dT) kV doc pm an cdv ct), osl⟩)
    (c : PySem.W.codeIn K cdv qual = true) (k : PySem.W.keepIn K (.ref f) = true) (d : K.lookup dT = some ⟨dc, dod, .seq ds.toArray n, dsl⟩) : FunD K x qual st f (PySem.W.fnOf x qual (defArgs st) (defBody st) (defScope st) (.ref dT) kV doc pm an cdv ct) ds :=
  ⟨⟨oc, od, dT, _, n, kV, doc, pm, an, cdv, ct, osl, rfl, l, c, d, rfl⟩, k⟩
end
end L2

/-! exceptions of own classes: raise C(..), how one leaves a def, try / except -/
namespace L2
open PySem PySem.Spec PyProof.Rows

/-  what is known of an address that an exception (or its traceback) has: untracked, new since the entry, no pin -/
def Nu (X : Cx) (H : Hp) (b : Addr) : Prop := H b = none ∧ X.s₀.heap.get? b = none ∧ ∀ p ∈ X.pn, p.1 ≠ b
/-  an exception without a traceback -/
def Fly0 (X : Cx) (H : Hp) (h : Heap) (a : Addr) (cls : Value) (dx : Option Addr) : Prop :=
  ∃ oe vs a0, h.get? a = some oe ∧ oe.cls = cls ∧ oe.dict = dx ∧ oe.data = .fields vs ∧ vs[0]? = some a0 ∧ vs[1]? = some .none ∧ Nu X H a
/-  an exception whose newest entry bears the flight mark fl -/
def FlyT (X : Cx) (fl : Value) (H : Hp) (h : Heap) (a : Addr) (cls : Value) (dx : Option Addr) : Prop :=
  ∃ oe vs a0 T oT ts, h.get? a = some oe ∧ oe.cls = cls ∧ oe.dict = dx ∧ oe.data = .fields vs ∧ vs[0]? = some a0 ∧ vs[1]? = some (.ref T) ∧ T ≠ a ∧ h.get? T = some oT ∧ oT.data = .fields ts ∧ ts[3]? = some fl ∧ Nu X H a ∧ Nu X H T
def Fly (X : Cx) (H : Hp) (h : Heap) (a : Addr) (cls : Value) (dx : Option Addr) : Prop :=
  Fly0 X H h a cls dx ∨ FlyT X .none H h a cls dx ∨ FlyT X (rawInt X.env.locals) H h a cls dx
/-  a def's own frame, no walked iterators of others -/
structure Own (X : Cx) : Prop where
  ex : X.ex = []
  st : X.stack = X.env :: X.outer
  fr : X.env.frame = some X.env.locals
abbrev EEs := St → XK
/-  what is wanted of an exception within X -/
def XE (X : Cx) (EE : EEs) : Value → Shared → Prop := fun e s' =>
  ∃ a cls dx σ H, e = .ref a ∧ Inv X [] σ H s' ∧ Fly X H s'.heap a cls dx ∧ EE σ cls dx H

section
variable {X : Cx} {pins : List (Addr × Obj)} {σ : St} {H : Hp} {s : Shared}
theorem Inv.nopins (I : Inv X pins σ H s) : Inv X [] σ H s := I.pins_of fun p hp => nomatch hp
theorem Own.mem (o : Own X) {b : Addr} : b ∈ frs X.stack ↔ b = X.env.locals ∨ b ∈ X.fs := by
  rw [o.st]; unfold frs; rw [List.filterMap_cons, o.fr]; exact List.mem_cons
/-  records that are new and untracked have changed, the frames up to slots -/
theorem Inv.flown {h' : Heap} (o : Own X) (I : Inv X [] σ H s) (ch : Addr → Prop)
    (keep : ∀ b u, ¬ ch b → b ∉ frs X.stack → s.heap.get? b = some u → h'.get? b = some u)
    (slot : ∀ b u, ¬ ch b → b ∈ frs X.stack → s.heap.get? b = some u → ∃ sl, h'.get? b = some { u with slots := sl })
    (new : ∀ b, ch b → Nu X H b ∧ ∀ u, s.heap.get? b = some u → ∃ vs, u.data = .fields vs) : Inv X [] σ H { s with heap := h' } := by
  have any : ∀ b u, ¬ ch b → s.heap.get? b = some u → ∃ sl, h'.get? b = some { u with slots := sl } := fun b u n e => by
    by_cases hb : b ∈ frs X.stack
    · exact slot b u n hb e
    · exact ⟨u.slots, keep b u n hb e⟩
  have old : ∀ b u, X.s₀.heap.get? b = some u → ¬ ch b := fun b u e z => by
    have := (new b z).1.2.1
    rw [e] at this; cases this
  have neL : ∀ b u, X.s₀.heap.get? b = some u → b ≠ X.env.locals := fun b u e => Nat.ne_of_lt (Nat.lt_of_lt_of_le (Heap.lt_size e) I.ok.above)
  have cel : ∀ c v, s.heap.IsCell c v → h'.IsCell c v := fun c v ⟨u, e, d⟩ => by
    obtain ⟨sl, q⟩ := any c u (fun z => by
      obtain ⟨vs, w⟩ := (new c z).2 u e
      rw [d] at w; cases w) e
    exact ⟨_, q, d⟩
  refine ⟨I.ok, I.os, I.bare, ⟨fun b u e n hb hx => ?_, fun b u e n hb hx => ?_, I.base.free, fun b u e hx => ?_, I.base.fix⟩, ?_, fun x c e => ?_, I.free, I.freeC, fun p hp => ?_, fun b u e => ?_, I.len⟩
  · exact keep b u (old b u e) (fun z => (o.mem.mp z).elim (neL b u e) hb) (I.base.keep b u e n hb hx)
  · obtain ⟨sl, e1⟩ := I.base.slot b u e n hb hx
    obtain ⟨sl', e2⟩ := slot b _ (old b u e) (o.mem.mpr (.inr hb)) e1
    exact ⟨sl', e2⟩
  · by_cases hb : b ∈ X.fs
    · obtain ⟨o', e1⟩ := I.base.there b u e hx
      obtain ⟨sl, e2⟩ := any b _ (old b u e) e1
      exact ⟨_, e2⟩
    · obtain ⟨o', e1⟩ := I.base.there b u e hx
      obtain ⟨sl, e2⟩ := any b _ (old b u e) e1
      exact ⟨_, e2⟩
  · obtain ⟨m, ⟨u, es, ep, e, d⟩, l⟩ := I.loc
    obtain ⟨sl, q⟩ := any _ u (fun z => by
      obtain ⟨vs, w⟩ := (new _ z).2 u e
      rw [d.1] at w; cases w) e
    refine ⟨m, ⟨_, es, ep, q, d⟩, fun i x v e1 e2 e3 => ?_⟩
    obtain ⟨y, r, z⟩ := l i x v e1 e2 e3
    exact ⟨y, r, z.imp id fun ⟨k, c, e, z⟩ => ⟨k, c, e, cel c _ z⟩⟩
  · obtain ⟨v, z⟩ := I.cell x c e
    exact ⟨v, cel c v z⟩
  · obtain ⟨e, n, ne, nf, d⟩ := I.pin p hp
    have hp' : p ∈ X.pn := by simpa using hp
    exact ⟨keep p.1 p.2 (fun z => (new _ z).1.2.2 p hp' rfl) (fun z => (o.mem.mp z).elim ne nf) e, n, ne, nf, d⟩
  · refine (I.hok b u e).stay (fun c v hc q => ?_) (fun _ q => q) fun _ _ q _ => q
    have tr : ∃ u, H c = some u := by
      rcases hc with rfl | hc
      · exact ⟨u, e⟩
      · exact ⟨_, hc⟩
    obtain ⟨u', tr⟩ := tr
    refine keep c v (fun z => ?_) (fun z => ?_) q
    · rw [(new c z).1.1] at tr; cases tr
    · rw [I.stkFree c z] at tr; cases tr

/-  a fresh entry is laid on the exception -/
theorem entry_laid {M : Model} {A' : Around} {E : Value → Shared → Prop} {Q : Unit → Shared → Prop} {a : Addr} {oe : Obj} {vs : Array Value} {a0 head : Value} {had : Bool} (o : Own X) (hfr : A'.frames = some X.stack) (I : Inv X [] σ H s)
    (he : s.heap.get? a = some oe) (hd : oe.data = .fields vs) (h0 : vs[0]? = some a0) (h1 : 1 < vs.size) (hn : Nu X H a)
    (h : ∀ s', Inv X [] σ H s' → FlyT X (rawInt X.env.locals) H s'.heap a oe.cls oe.dict → Q () s') :
    wpAny M A' (do let f ← frameOf X.env; let pl ← entryPlaceOf X.env.locals had; let b ← EntryCells.newEntry head f .none (rawInt X.env.locals) .none pl; setField (.ref a) 1 b) Q E s := by
  have hfs : s.heap.FunFrames X.base (X.env :: X.outer) := by have := I.stack; rwa [o.st] at this
  have hmem : ∀ b, b ∈ (X.env :: X.outer).filterMap (·.frame) ↔ b ∈ frs X.stack := fun b => by rw [o.st]; rfl
  have hna : a ∉ frs X.stack := fun z => by
    obtain ⟨_, u, hu, hnf⟩ := hfs.mem ((hmem a).mpr z)
    rw [he] at hu; injection hu with hu; subst hu; exact hnf vs hd
  refine wpAny_bind (wpAny_frameOf_fun (by rw [hfr, o.st]) hfs o.fr fun g1 so => ?_)
  refine wpAny_bind (wpAny_entryPlaceOf fun pl hpl => ?_)
  unfold EntryCells.newEntry newFields
  refine wpAny_bind (wpAny_newObj_type ?_ (hpl.sizeOk5 _ _ _ _ _))
  have g1a : g1.get? a = some oe := (so.2.1 a fun z => hna ((hmem a).mp z)).trans he
  generalize hT : ({ cls := .type "traceback", dict := none, data := .fields ([head, .ref X.env.locals, .none, rawInt X.env.locals, .none] ++ (if pl.isEmpty then List.replicate 6 Value.none else pl)).toArray } : Obj) = ot
  have g2a := Heap.get?_push_of_some (h := g1) ot g1a
  refine wpAny_setField g2a hd h1 ?_
  have neT : g1.objs.size ≠ a := Nat.ne_of_gt (Heap.lt_size g1a)
  have d3 := Obj.data_mapFields hd (·.setIfInBounds 1 (Value.ref g1.objs.size))
  have a3 := Heap.get?_update_self (Obj.mapFields (·.setIfInBounds 1 (Value.ref g1.objs.size))) g2a (Obj.isFreed_of_fields d3)
  have t3 : ((g1.push ot).update a (Obj.mapFields (·.setIfInBounds 1 (Value.ref g1.objs.size)))).get? g1.objs.size = some ot := (Heap.get?_update_other _ _ (Ne.symm neT)).trans (Heap.get?_push_size g1 (by rw [← hT]; rfl))
  have kp : ∀ b u, b ≠ a → g1.get? b = some u → ((g1.push ot).update a (Obj.mapFields (·.setIfInBounds 1 (Value.ref g1.objs.size)))).get? b = some u := fun b u nb e =>
    (Heap.get?_update_other _ _ (Ne.symm nb)).trans (Heap.get?_push_of_some _ e)
  have old : ∀ b u, s.heap.get? b = some u → b ≠ g1.objs.size := fun b u e => Nat.ne_of_lt (by rw [so.1]; exact Heap.lt_size e)
  have nT : Nu X H g1.objs.size := by
    refine ⟨I.hok.fresh (by rw [so.1]; exact Nat.le_refl _), ?_, fun p hp z => old p.1 p.2 (I.pin p (by simpa using hp)).1 z⟩
    exact Heap.get?_none_of_le (by rw [so.1]; exact I.sz)
  have J : Inv X [] σ H { s with heap := (g1.push ot).update a (Obj.mapFields (·.setIfInBounds 1 (Value.ref g1.objs.size))) } := by
    refine I.flown o (fun b => b = a) (fun b u n nf e => kp b u n ((so.2.1 b fun z => nf ((hmem b).mp z)).trans e)) (fun b u n _ e => ?_) (fun b z => ?_)
    · obtain ⟨sl, e1⟩ := so.2.2 b u e
      exact ⟨sl, kp b _ n e1⟩
    · subst z
      exact ⟨hn, fun u e => ⟨vs, by rw [he] at e; cases e; exact hd⟩⟩
  refine h _ J ?_
  · refine ⟨_, _, a0, g1.objs.size, ot, _, a3, Obj.cls_mapFields _ _, ?_, d3, by rw [Array.getElem?_setIfInBounds_ne (by decide)]; exact h0, by simp [h1], neT, t3, by rw [← hT], by simp, hn, nT⟩
    obtain ⟨c, d, dt, sl⟩ := oe
    cases dt <;> rfl

/-  an exception is noted in this frame -/
theorem note_ok {M : Model} {A' : Around} {E : Value → Shared → Prop} {Q : Unit → Shared → Prop} {a : Addr} {cls : Value} {dx : Option Addr} (o : Own X) (hfr : A'.frames = some X.stack) (I : Inv X [] σ H s) (F : Fly X H s.heap a cls dx)
    (h : ∀ s', Inv X [] σ H s' → FlyT X (rawInt X.env.locals) H s'.heap a cls dx → Q () s') : wpAny M A' (noteFrame (.ref a) X.env) Q E s := by
  unfold noteFrame
  simp only [o.fr]
  rcases F with ⟨oe, vs, a0, he, rfl, rfl, hd, h0, h1, hn⟩ | ⟨oe, vs, a0, T, oT, ts, he, rfl, rfl, hd, h0, h1, nT, hT, hdT, h3, hn, hnT⟩ | F
  · refine wpAny_bind (wpAny_field he hd h1 ?_)
    rw [if_neg (by decide)]
    exact entry_laid o hfr I he hd h0 (Array.getElem?_eq_some_iff.mp h1).1 hn h
  · refine wpAny_bind (wpAny_field he hd h1 ?_)
    rw [if_pos (by simp : (Value.ref T != Value.none) = true)]
    refine wpAny_bind (wpAny_field hT hdT h3 ?_)
    rw [if_neg (by simp [rawInt] : ¬ ((Value.none == rawInt X.env.locals) = true))]
    refine wpAny_bind (wpAny_setField hT hdT (Array.getElem?_eq_some_iff.mp h3).1 ?_)
    have ot : ∀ b, b ≠ T → (s.heap.update T (Obj.mapFields (·.setIfInBounds 3 Value.none))).get? b = s.heap.get? b := fun b nb => Heap.get?_update_other _ _ (Ne.symm nb)
    have I' : Inv X [] σ H { s with heap := s.heap.update T (Obj.mapFields (·.setIfInBounds 3 Value.none)) } := by
      refine I.flown o (fun b => b = T) (fun b u n _ e => (ot b n).trans e) (fun b u n _ e => ⟨u.slots, (ot b n).trans e⟩) (fun b z => ?_)
      subst z
      exact ⟨hnT, fun u e => ⟨ts, by rw [hT] at e; cases e; exact hdT⟩⟩
    exact entry_laid o hfr I' ((ot a (Ne.symm nT)).trans he) hd h0 (Array.getElem?_eq_some_iff.mp h1).1 hn h
  · obtain ⟨oe, vs, a0, T, oT, ts, he, hc, hx, hd, h0, h1, nT, hT, hdT, h3, hn, hnT⟩ := id F
    refine wpAny_bind (wpAny_field he hd h1 ?_)
    rw [if_pos (by simp : (Value.ref T != Value.none) = true)]
    refine wpAny_bind (wpAny_field hT hdT h3 ?_)
    rw [if_pos (by simp : (rawInt X.env.locals == rawInt X.env.locals) = true)]
    exact wpAny_pure (h s I F)
/-  its flight mark is written -/
theorem flight_ok {M : Model} {A' : Around} {E : Value → Shared → Prop} {Q : Unit → Shared → Prop} {a : Addr} {cls fl : Value} {dx : Option Addr} {to : Option Addr} (o : Own X) (I : Inv X [] σ H s) (F : FlyT X fl H s.heap a cls dx)
    (h : ∀ s', Inv X [] σ H s' → FlyT X (to.elim .none fun f => rawInt f) H s'.heap a cls dx → Q () s') : wpAny M A' (setFlight (.ref a) to) Q E s := by
  obtain ⟨oe, vs, a0, T, oT, ts, he, rfl, rfl, hd, h0, h1, nT, hT, hdT, h3, hn, hnT⟩ := F
  unfold setFlight
  refine wpAny_bind (wpAny_field he hd h1 ?_)
  rw [if_pos (by simp : (Value.ref T != Value.none) = true)]
  have z3 := (Array.getElem?_eq_some_iff.mp h3).1
  have ot : ∀ b, b ≠ T → (s.heap.update T (Obj.mapFields (·.setIfInBounds 3 (to.elim Value.none fun f => rawInt f)))).get? b = s.heap.get? b := fun b nb => Heap.get?_update_other _ _ (Ne.symm nb)
  have d3 := Obj.data_mapFields hdT (·.setIfInBounds 3 (to.elim Value.none fun f => rawInt f))
  refine wpAny_setField hT hdT z3 (h _ (I.flown o (fun b => b = T) (fun b u n _ e => (ot b n).trans e) (fun b u n _ e => ⟨u.slots, (ot b n).trans e⟩) fun b z => ?_) ?_)
  · subst z
    exact ⟨hnT, fun u e => ⟨ts, by rw [hT] at e; cases e; exact hdT⟩⟩
  · exact ⟨oe, vs, a0, T, _, _, (ot a (Ne.symm nT)).trans he, rfl, rfl, hd, h0, h1, nT, Heap.get?_update_self _ hT (Obj.isFreed_of_fields d3), d3, by simp [z3], hn, hnT⟩
theorem leaving_ok {M : Model} {A' : Around} {E : Value → Shared → Prop} {Q : Unit → Shared → Prop} {a : Addr} {cls : Value} {dx : Option Addr} (o : Own X) (hfr : A'.frames = some X.stack) (I : Inv X [] σ H s) (F : Fly X H s.heap a cls dx)
    (h : ∀ s', Inv X [] σ H s' → FlyT X .none H s'.heap a cls dx → Q () s') : wpAny M A' (leaving X.env (.ref a)) Q E s := by
  unfold leaving
  exact wpAny_bind (note_ok o hfr I F fun s1 I1 F1 => flight_ok (to := none) o I1 F1 h)
/-  own activations (loops) pass it on -/
end

/-  how an exception lies behind a call -/
def CXE (P : Program) (w : World) : CXT := fun outer H s E e s' => ∃ a cls dx H' oe vs a0 T oT ts, e = .ref a ∧ s'.os = s.os ∧ AllBare s'.gens ∧ Un (frs outer) [] H H' s.heap s'.heap ∧ HOk P w H' s'.heap ∧
  s'.heap.get? a = some oe ∧ oe.cls = cls ∧ oe.dict = dx ∧ oe.data = .fields vs ∧ vs[0]? = some a0 ∧ vs[1]? = some (.ref T) ∧ T ≠ a ∧ s'.heap.get? T = some oT ∧ oT.data = .fields ts ∧ ts[3]? = some .none ∧
  H' a = none ∧ s.heap.get? a = none ∧ H' T = none ∧ s.heap.get? T = none ∧ E cls dx H'
theorem own_cxOf {CX : CXT} {P : Program} {w : World} {K : PySem.W.Frag} {mg : Str → Option Value} {base : Heap} {N : List Str} {qual : Str} {sc : Scope} {f : Addr} {cd : Value} {A : Around} {outer : List Env} {s : Shared} {H : Hp} {E : XK} :
    Own (cxOf CX P w K mg base N qual sc f cd A outer s H E) := ⟨rfl, rfl, rfl⟩
theorem PSs.wished {X : Cx} {E : Value → Shared → Prop} {st : List Stmt} {t : TS} (h : PSs (X.wish E) st t) (hE : ∀ e s, E e s → X.xe e s) : PSs X st t := fun pins s σ H D I hw =>
  wpAny_mono (h pins s σ H D (I.wish _) hw) (fun _ _ q => q.unwish) hE
/-  the context of a body that may raise -/
abbrev cxX (P : Program) (w : World) (K : PySem.W.Frag) (mg : Str → Option Value) (base : Heap) (N : List Str) (qual : Str) (sc : Scope) (f : Addr) (cd : Value) (A : Around) (outer : List Env) (s : Shared) (H : Hp) (E : XK) : Cx :=
  (cxOf (CXE P w) P w K mg base N qual sc f cd A outer s H E).wish (XE (cxOf (CXE P w) P w K mg base N qual sc f cd A outer s H E) fun _ => E)
section
variable {P : Program} {w : World} {K : PySem.W.Frag} {mg : Str → Option Value} {base : Heap}
/-  THE RULE for a def that may raise -/
theorem Fun.okX {x qual : Str} {st : Stmt} {f : Addr} {fd : FuncData} {N ps : List Str} {k : Nat} {sp : Sp} (F : Fun K x qual st f fd) (S : FnScope N ps (defScope st)) (len : ∀ vs H Q E, sp vs H Q E → vs.length = ps.length)
    (hbody : ∀ (cdv : Value) (A : Around) (outer : List Env) (s : Shared) (H : Hp) (vs : List V) (Q : VK) (E : XK), Room k (A.deeper (envOfC qual (defScope st) s.heap.objs.size f cdv)) → sp vs H Q E →
      ∃ t, PSs (cxX P w K mg base N qual (defScope st) f cdv A outer s H E) (defBody st) t ∧ t { nx := fun _ H' => Q .non H', rt := Q } (start N vs) H) : FnOk P w K mg base (CXE P w) (k + 1) f fd ps sp := by
  obtain ⟨oc, od, kV, doc, pm, an, cdv, ct, osl, rfl, lk, hcd⟩ := F.ex
  refine fn_of lk hcd S len fun A outer s H vs Q E hr hsp => ?_
  obtain ⟨t, h, q⟩ := hbody cdv A outer s H vs Q E hr hsp
  refine ⟨t, h.wished fun e s' ⟨a, cls, dx, σ, H', he, I, Fl, z⟩ => ?_, q⟩
  subst he
  refine leaving_ok own_cxOf I.ok.frames I Fl fun s2 I2 F2 => ?_
  obtain ⟨oe, vs, a0, T, oT, ts, he, hc, hx, hd, h0, h1, nT, hT, hdT, h3, hn, hnT⟩ := F2
  exact ⟨a, cls, dx, H', oe, vs, a0, T, oT, ts, rfl, I2.os, I2.bare, I2.base, I2.hok, he, hc, hx, hd, h0, h1, nT, hT, hdT, h3, hn.1, hn.2.1, hnT.1, hnT.2.1, z⟩
end

section
variable {X : Cx} {EE : EEs}
/-  what comes out of a callee -/
theorem xe_of_call {pins : List (Addr × Obj)} {σ : St} {H : Hp} {s s' : Shared} {e : Value} (o : Own X) (I : Inv (X.wish (XE X EE)) pins σ H s) (h : CXE X.prog X.w X.stack H s (EE σ) e s') : XE X EE e s' := by
  obtain ⟨a, cls, dx, H', oe, vs, a0, T, oT, ts, rfl, os, bare, un, hok, he, hc, hx, hd, h0, h1, nT, hT, hdT, h3, n1, n2, n3, n4, q⟩ := h
  have I0 : Inv X pins σ H s := I.unwish
  have I1 : Inv X pins σ H' s' := I0.call' os un hok bare fun b z => absurd z (by simp)
  have nu : ∀ b, H' b = none → s.heap.get? b = none → Nu X H' b := fun b m1 m2 => by
    refine ⟨m1, ?_, fun p hp z => ?_⟩
    · cases q : X.s₀.heap.get? b with
      | none => rfl
      | some u =>
        obtain ⟨u', e⟩ := I0.base.there b u q (by rw [o.ex]; simp)
        rw [m2] at e; cases e
    · have := (I0.pin p (List.mem_append_left _ hp)).1
      rw [z, m2] at this; cases this
  exact ⟨a, cls, dx, σ, H', rfl, I1.nopins, .inr (.inl ⟨oe, vs, a0, T, oT, ts, he, hc, hx, hd, h0, h1, nT, hT, hdT, h3, nu a n1 n2, nu T n3 n4⟩), q⟩
variable {k : Nat} {f C : Addr} {fd : FuncData} {ps : List Str} {sp : Sp} {dvs : List V} {ds : List Value} {x m : Str} {p pos apos : Pos} {e ob : Expr} {es : List Expr} {ta : TE} {t : TA}
theorem run_fnX {pins : List (Addr × Obj)} {σ : St} {H : Hp} {s : Shared} {Q : VK} {us : List Value} {vs : List V} (o : Own X) (F : FnOk X.prog X.w X.K X.mg X.base (CXE X.prog X.w) k f fd ps sp) (hr : Room k X.A) (hb : Binds X.K fd ps ds) (hd : Vals dvs ds)
    (I : Inv (X.wish (XE X EE)) pins σ H s) (r : Vals vs us) (h : sp (vs ++ dvs) H Q (EE σ)) : wpAny (model X.prog X.w) X.A (call (.ref f) us) (EP (X.wish (XE X EE)) pins σ Q) (XE X EE) s := by
  have r2 : Vals (vs ++ dvs) (us ++ ds) := r.append hd
  have hl : (us ++ ds).length = ps.length := r2.length.symm.trans (F.len _ _ _ _ h)
  refine wpAny_call (codeAny_mono (F.run X.A X.stack s H ⟨us, []⟩ (us ++ ds) (vs ++ dvs) Q (EE σ) hr I.unwish.env0 (hb s us I.unwish.kIn hl) r2 h) fun z s' hq => ?_)
  match z, hq with
  | .error e, hq => exact xe_of_call o I hq
  | .ok (.ret u), hq => exact I.after hq
  | .ok .next, hq => exact hq.elim
  | .ok .brk, hq => exact hq.elim
  | .ok .cont, hq => exact hq.elim
def tCallX (sp : Sp) (dvs : List V) (EE : EEs) (t : TA) : TE := fun σ H Q => t σ H fun vs H1 => sp (vs ++ dvs) H1 Q (EE σ)
/-  f(e, ..), f a def that may raise -/
end
end L2

/-! raise C(..), try / except C, try / except C as e -/
namespace L2
open PySem PySem.Spec PyProof.Rows
def mroV : List Value := [.type "ValueError", .type "Exception", .type "BaseException", .type "object"]
/-  an own exception class below ValueError, without __init__ -/
def XCls (K : PySem.W.Frag) (C : Addr) : Prop := PySem.W.excIn K C mroV "ValueError.__new__" = true
theorem ObjOk.here {P : Program} {w : World} {H : Hp} {h : Heap} {a : Addr} {o : HO} (x : ObjOk P w H h a o) : ∃ u, h.get? a = some u := by
  cases o with
  | lst xs => obtain ⟨_, _, _, _, e⟩ := x; exact ⟨_, e⟩
  | tup xs => obtain ⟨_, _, _, u, e, _⟩ := x; exact ⟨_, e⟩
  | dK kvs => obtain ⟨_, _, _, _, o, _, _, e, _⟩ := x; exact ⟨_, e⟩
  | dT kvs => obtain ⟨_, _, _, _, o, _, _, e, _⟩ := x; exact ⟨_, e⟩
  | set S n => obtain ⟨o, _, _, _, e, _⟩ := x; exact ⟨_, e⟩
  | ins C dx fs => obtain ⟨_, _, _, e, _⟩ := x; exact ⟨_, e⟩
  | own y => exact x
  | xd fs => obtain ⟨_, ⟨_, _, _, e, _⟩, _⟩ := x; exact ⟨_, e⟩
  | rng lo hi => obtain ⟨_, _, _, e⟩ := x; exact ⟨_, e⟩
  | frz ob u => obtain ⟨e, _⟩ := x; exact ⟨_, e⟩
  | tbl qs => obtain ⟨_, e, _⟩ := x; exact ⟨_, e⟩
  | cel v => obtain ⟨_, ⟨_, e, _⟩, _⟩ := x; exact ⟨_, e⟩
  | met f y => exact ⟨_, x⟩
  | ext φ => exact x.2.1
section
variable {X : Cx} {EE : EEs}
theorem nu_of {pins : List (Addr × Obj)} {σ : St} {H : Hp} {s : Shared} (o : Own X) (I : Inv X pins σ H s) {b : Addr} (m : s.heap.get? b = none) : Nu X H b := by
  refine ⟨?_, ?_, fun p hp z => ?_⟩
  · cases q : H b with
    | none => rfl
    | some u =>
      obtain ⟨v, e⟩ := (I.hok b u q).here
      rw [m] at e; cases e
  · cases q : X.s₀.heap.get? b with
    | none => rfl
    | some u =>
      obtain ⟨u', e⟩ := I.base.there b u q (by rw [o.ex]; simp)
      rw [m] at e; cases e
  · have := (I.pin p (List.mem_append_left _ hp)).1
    rw [z, m] at this; cases this
def tRaise (C : Addr) (EE : EEs) (t : TA) : TS := fun _ σ H => t σ H fun vs H1 => vs.length ≤ sizeLine ∧ EE σ (.ref C) none H1
/-! the context of a try's body, of an except's suite -/
abbrev Cx.pnd (X : Cx) (ps : List (Addr × Obj)) : Cx := { X with pn := X.pn ++ ps }
abbrev Cx.held (X : Cx) (a : Addr) (ps : List (Addr × Obj)) : Cx := { X with A := X.A.mark (some (.ref a)), calm := false, xe := fun _ _ => False, pn := X.pn ++ ps }
theorem Cx.Ok.pnd {ps : List (Addr × Obj)} (ok : X.Ok) : (X.pnd ps).Ok :=
  ⟨ok.mod, ok.kind, ok.glob, ok.blt, ok.above, ok.inj, ok.has, ok.cab, ok.hd, ok.frames, ok.stk, ok.exf, ok.bs, ok.bsz, ok.noex, ok.exfs, ok.funs, ok.frf, ok.cab2, ok.hz⟩
theorem Cx.Ok.held {a : Addr} {ps : List (Addr × Obj)} (ok : X.Ok) : (X.held a ps).Ok :=
  ⟨ok.mod, ok.kind, ok.glob, ok.blt, ok.above, ok.inj, ok.has, ok.cab, (fun z => by cases z), ok.frames, ok.stk, ok.exf, ok.bs, ok.bsz, ok.noex, ok.exfs, ok.funs, ok.frf, ok.cab2, ok.hz⟩
theorem Own.pnd {ps : List (Addr × Obj)} (o : Own X) : Own (X.pnd ps) := ⟨o.ex, o.st, o.fr⟩
section
variable {pins ps : List (Addr × Obj)} {σ : St} {H : Hp} {s : Shared}
theorem Inv.pnd (I : Inv X pins σ H s) : Inv (X.pnd pins) [] σ H s :=
  ⟨I.ok.pnd, I.os, I.bare, I.base, I.loc, I.cell, I.free, I.freeC, fun p hp => I.pin p (by simpa using hp), I.hok, I.len⟩
theorem Inv.unpnd {qs : List (Addr × Obj)} (ok : X.Ok) (I : Inv (X.pnd pins) qs σ H s) : Inv X pins σ H s :=
  ⟨ok, I.os, I.bare, I.base, I.loc, I.cell, I.free, I.freeC, fun p hp => I.pin p (List.mem_append_left _ hp), I.hok, I.len⟩
theorem SP.unpnd {qs : List (Addr × Obj)} (ok : X.Ok) {D : Ends} {f : Flow} {s' : Shared} (h : SP (X.pnd pins) qs D f s') : SP X pins D f s' := by
  cases f with
  | next => obtain ⟨σ', H', I, q⟩ := h; exact ⟨σ', H', I.unpnd ok, q⟩
  | brk => obtain ⟨σ', H', I, q⟩ := h; exact ⟨σ', H', I.unpnd ok, q⟩
  | cont => obtain ⟨σ', H', I, q⟩ := h; exact ⟨σ', H', I.unpnd ok, q⟩
  | ret u => obtain ⟨v, σ', H', I, r, q⟩ := h; exact ⟨v, σ', H', I.unpnd ok, r, q⟩
theorem Inv.held {a : Addr} {oe : Obj} (I : Inv (X.pnd pins) [] σ H s) (ok : X.Ok) (he : s.heap.get? a = some oe) (hn : H a = none) {vs : Array Value} (hd : oe.data = .fields vs) : Inv (X.held a (pins ++ [(a, oe)])) [] σ H s := by
  refine ⟨ok.held, I.os, I.bare, I.base, I.loc, I.cell, I.free, I.freeC, fun p hp => ?_, I.hok, I.len⟩
  have hp' : p ∈ X.pn ++ pins ∨ p = (a, oe) := by
    have : p ∈ (X.pn ++ (pins ++ [(a, oe)])) ++ [] := hp
    rw [List.append_nil, ← List.append_assoc] at this
    rcases List.mem_append.mp this with z | z
    · exact .inl z
    · exact .inr (List.mem_singleton.mp z)
  rcases hp' with hp' | rfl
  · exact I.pin p (List.mem_append_left _ hp')
  · refine ⟨he, hn, fun z => ?_, fun z => ?_, fun v z => ?_⟩
    · obtain ⟨m, ⟨u, es, ep, e, d⟩, _⟩ := I.loc
      have z' : a = X.env.locals := z
      rw [z'] at he
      rw [show s.heap.get? X.env.locals = some u from e] at he
      cases he
      rw [d.1] at hd; cases hd
    · obtain ⟨_, u, hu, hnf⟩ := I.funs.mem z
      have hu' : s.heap.get? a = some u := hu
      rw [he] at hu'; cases hu'
      exact hnf vs hd
    · have z' : oe.data = .cell v := z
      rw [hd] at z'; cases z'
theorem Inv.unheld {a : Addr} {oe : Obj} {qs : List (Addr × Obj)} (ok : X.Ok) (I : Inv (X.held a (pins ++ [(a, oe)])) qs σ H s) : Inv X pins σ H s :=
  ⟨ok, I.os, I.bare, I.base, I.loc, I.cell, I.free, I.freeC, fun p hp => I.pin p (by
    show p ∈ (X.pn ++ (pins ++ [(a, oe)])) ++ qs
    rcases List.mem_append.mp hp with z | z
    · exact List.mem_append_left _ (List.mem_append_left _ z)
    · exact List.mem_append_left _ (List.mem_append_right _ (List.mem_append_left _ z))), I.hok, I.len⟩
theorem SP.unheld {a : Addr} {oe : Obj} {qs : List (Addr × Obj)} (ok : X.Ok) {D : Ends} {f : Flow} {s' : Shared} (h : SP (X.held a (pins ++ [(a, oe)])) qs D f s') : SP X pins D f s' := by
  cases f with
  | next => obtain ⟨σ', H', I, q⟩ := h; exact ⟨σ', H', I.unheld ok, q⟩
  | brk => obtain ⟨σ', H', I, q⟩ := h; exact ⟨σ', H', I.unheld ok, q⟩
  | cont => obtain ⟨σ', H', I, q⟩ := h; exact ⟨σ', H', I.unheld ok, q⟩
  | ret u => obtain ⟨v, σ', H', I, r, q⟩ := h; exact ⟨v, σ', H', I.unheld ok, r, q⟩
end
/-  a class that may stand behind except -/
structure XCat (K : PySem.W.Frag) (C' : Addr) : Prop where
  base : PySem.W.mroIn K C' (.type "BaseException") = some true
theorem matches_ok {M : Model} {A' : Around} {E : Value → Shared → Prop} {K : PySem.W.Frag} {s : Shared} {a C C' : Addr} {oe : Obj} {b : Bool} {Q : Bool → Shared → Prop} (KX : K.In s.heap) (he : s.heap.get? a = some oe) (hcls : oe.cls = .ref C)
    (hk : PySem.W.kitCls K (.ref C) (.ref C') = some b) (hb : XCat K C') (hq : Q b s) : wpAny M A' (excMatches (.ref a) (.ref C')) Q E s := by
  obtain ⟨l1, l2, l3⟩ := PySem.W.kit_cls (M := M) KX hk
  have l4 := PySem.W.looks_mroIn (M := M) KX hb.base
  have kk : ∀ b o, s.heap.get? b = some o → s.heap.get? b = some o := fun _ _ e => e
  unfold excMatches isInstance
  refine wpAny_bind (wpAny_bind (l1 _ _ _ s kk ?_))
  refine wpAny_of_eq tc_notTuple ?_
  simp only [Bool.false_eq_true, if_false]
  refine wpAny_bind (wpAny_pure ?_)
  simp only [List.forIn_cons, List.forIn_nil]
  unfold isExcClass
  refine wpAny_bind (wpAny_bind (wpAny_bind (wpAny_bind (l2 _ _ _ s kk ?_))))
  simp only [if_true]
  refine l4 _ _ _ s kk ?_
  simp only [Bool.not_true, Bool.false_eq_true, if_false]
  refine wpAny_pure (wpAny_pure ?_)
  have lt : wpAny M A' (typeOf (.ref a)) (fun v s' => v = oe.cls ∧ s' = s) E s := by
    unfold typeOf
    exact wpAny_bind (wpAny_loadPart he (wpAny_pure ⟨rfl, rfl⟩))
  refine wpAny_bind (wpAny_mono lt (fun v s' z => ?_) fun _ _ x => x)
  obtain ⟨rfl, rfl⟩ := z
  rw [hcls]
  refine wpAny_bind (wpAny_bind (wpAny_bind (l3 _ _ _ s' kk ?_)))
  cases b with
  | true => exact wpAny_pure (wpAny_pure (wpAny_pure hq))
  | false => exact wpAny_pure (wpAny_pure (wpAny_pure hq))
def EEtry (K : PySem.W.Frag) (C' : Addr) (ts : Addr → Value → TS) (D : Ends) : EEs := fun σ cls _ H => ∃ C, cls = .ref C ∧ PySem.W.kitCls K (.ref C) (.ref C') = some true ∧ ∀ a, H a = none → ts a cls D σ H
def tTry (K : PySem.W.Frag) (C' : Addr) (tb : EEs → TS) (ts : Addr → Value → TS) : TS := fun D σ H => tb (EEtry K C' ts D) D σ H
/-  try: .. except C': .. -/
/-  a try whose body never raises -/
end
theorem passF {P : Program} {w : World} {X : Cx} : Passes (CXE P w) X E0 := fun _ _ _ _ _ _ _ h => by
  obtain ⟨_, _, _, _, _, _, _, _, _, _, _, _, _, _, _, _, _, _, _, _, _, _, _, _, _, _, _, _, _, z⟩ := h
  exact z.elim
end L2

/-! except C' as e; isinstance(e, C) -/
namespace L2
open PySem PySem.Spec PyProof.Rows
section
variable {X : Cx}
/-  the ends with the i-th name gone -/
def Ends.gone (D : Ends) (i : Nat) : Ends := { nx := fun σ H => D.nx (σ.set i none) H, rt := D.rt, bk := fun σ H => D.bk (σ.set i none) H, ct := fun σ H => D.ct (σ.set i none) H }
def EEtryAs (K : PySem.W.Frag) (C' : Addr) (i : Nat) (ts : Addr → Value → Option Addr → TS) (D : Ends) : EEs := fun σ cls dx H => ∃ C, cls = .ref C ∧ PySem.W.kitCls K (.ref C) (.ref C') = some true ∧ ∀ a, H a = none → ts a cls dx (D.gone i) (σ.set i (some (.ref a))) H
def tTryAs (K : PySem.W.Frag) (C' : Addr) (i : Nat) (tb : EEs → TS) (ts : Addr → Value → Option Addr → TS) : TS := fun D σ H => tb (EEtryAs K C' i ts D) D σ H
/-  a local name goes -/
theorem goes_ok {M : Model} {A' : Around} {E : Value → Shared → Prop} {Q : Unit → Shared → Prop} {pins : List (Addr × Obj)} {σ : St} {H : Hp} {s : Shared} {i : Nat} {n : Str} {pos : Pos} (I : Inv X pins σ H s) (hN : X.N.Nodup) (hi : X.N[i]? = some n) (hk : X.env.kindOf n = some .local)
    (h : ∀ s', Inv X pins (σ.set i none) H s' → Q () s') : wpAny M A' (do bindName X.env n .none; unbindBehindTheSuite X.env n pos) Q E s := by
  obtain ⟨m, hn, hl⟩ := id I.loc
  refine wpAny_nameGoes_keeps hk hn (by rw [I.ok.kind]; rfl) fun h' v hn' hs => h _ ?_
  have neL : ∀ b u, X.s₀.heap.get? b = some u → b ≠ X.env.locals := fun b u e => Nat.ne_of_lt (Nat.lt_of_lt_of_le (Heap.lt_size e) I.ok.above)
  obtain ⟨oL, _, _, hoL, _⟩ := id hn
  refine ⟨I.ok, I.os, I.bare, ⟨fun b o e n hb hx => ?_, fun b o e n hb hx => ?_, I.base.free, fun b o e hx => ?_, I.base.fix⟩, ⟨_, hn', fun j y v' e1 e2 e3 => ?_⟩, fun y c e => ?_, I.free, fun y c e => ?_, fun p hp => ?_, fun b u e => ?_, by simpa using I.len⟩
  · exact (hs.2 b (neL b o e)).trans (I.base.keep b o e n hb hx)
  · obtain ⟨sl, e1⟩ := I.base.slot b o e n hb hx
    exact ⟨sl, (hs.2 b (neL b o e)).trans e1⟩
  · obtain ⟨o', e1⟩ := I.base.there b o e hx
    exact ⟨o', (hs.2 b (neL b o e)).trans e1⟩
  · have hj : j ≠ i := fun z => by
      rw [z] at e2
      by_cases hi' : i < σ.length
      · rw [List.getElem?_set_self hi'] at e2; cases e2
      · rw [List.getElem?_eq_none (by simpa using hi')] at e2; cases e2
    rw [List.getElem?_set_ne (Ne.symm hj)] at e2
    obtain ⟨u', r', q⟩ := hl j y v' e1 e2 e3
    refine ⟨u', r', q.imp (fun ⟨k, e⟩ => ⟨k, ?_⟩) fun ⟨k, c, e, z⟩ => ⟨k, c, e, z.sameBut hs (I.cne y c e)⟩⟩
    have : y ≠ n := fun e => hj (nodup_ix hN e1 (e ▸ hi))
    simp [this, e]
  · obtain ⟨w', z⟩ := I.cell y c e
    exact ⟨w', z.sameBut hs (I.cne y c e)⟩
  · refine (I.freeC y c e).imp id fun ⟨hf', o', ho', hno⟩ => ⟨hf', o', ho', fun z j v' e1 k e2 => ?_⟩
    have hj : j ≠ i := fun z => by
      rw [z] at e2
      by_cases hi' : i < σ.length
      · rw [List.getElem?_set_self hi'] at e2; cases e2
      · rw [List.getElem?_eq_none (by simpa using hi')] at e2; cases e2
    rw [List.getElem?_set_ne (Ne.symm hj)] at e2
    exact hno z j v' e1 k e2
  · obtain ⟨e, n, ne, nf, d⟩ := I.pin p hp
    exact ⟨(hs.2 p.1 ne).trans e, n, ne, nf, d⟩
  · refine (I.hok b u e).stay (fun c w' hc q => (hs.2 c ?_).trans q) (fun _ q => q) fun _ _ q _ => q
    rintro rfl
    rcases hc with rfl | hc
    · rw [I.free] at e; cases e
    · rw [I.free] at hc; cases hc
/-  try: .. except C' as n: .. -/
end
end L2

/-! isinstance(e, C), e an exception of an own class -/
namespace L2
open PySem PySem.Spec PyProof.Rows PySem.W
/-  what isinstance asks of an exception's class -/
structure XIsi (K : Frag) (D : Addr) : Prop where
  ga : findIn K (.ref D) "__getattribute__" = some (some (.builtin "BaseException.__getattribute__"))
  gh : findIn K (.ref D) "__getattr__" = some none
  cl : findIn K (.ref D) "__class__" = some (some (.builtin "object.__class__"))
  gt : specialIn K (.builtin "object.__class__") "__get__" = some (some (.builtin "getset_descriptor.__get__"))
  tk : takesIn K (.builtin "object.__class__") = some true
  ob : mroIn K D (.type "object") = some true
  bs : mroIn K D (.type "BaseException") = some true
  is : (clsIn K D).isSome = true
theorem kind_bexc_ga : builtinKind "BaseException.__getattribute__" = some .slot := by kernel_rfl
theorem split_bexc_ga : splitId "BaseException.__getattribute__" = some ("BaseException", "__getattribute__") := by kernel_rfl
section
variable {prog : Program} {w : World} {A : Around} {E : Value → Shared → Prop} {s : Shared} {K : Frag} {x D : Addr} {ox : Obj} {od : Option Obj}
theorem find_data {a g : Value} {name : Str} (hc : (clsIn K D).isSome = true) (ha : findIn K (.ref D) name = some (some a)) (hg : specialIn K a "__get__" = some (some g)) (ht : takesIn K a = some true) : findObj K D od name = some (.bind g a) := by
  obtain ⟨cd, hc⟩ := Option.isSome_iff_exists.mp hc
  unfold findObj
  rw [hc, Option.bind_some, ha, Option.bind_some]
  simp [hg, ht]
theorem exc_class {Q : Option Value → Shared → Prop} (F : XIsi K D) (X : K.In s.heap) (I : InstAt s.heap x ox D od) (h : Q (some (.ref D)) { s with toks := s.toks + 1 }) : wpAny (model prog w) A (getAttr? (.ref x) "__class__") Q E s := by
  obtain ⟨hh, g, d, t, os⟩ := s
  have l0 := I.type (M := model prog w)
  have l1 := looks_findIn (M := model prog w) X F.ga
  have l2 := looks_findIn (M := model prog w) X F.gh
  have l3 := looks_find (M := model prog w) X I (find_data (od := od) F.is F.cl F.gt F.tk)
  unfold getAttr? getAttrBy? getAttrBy
  refine wpAny_bind (wpAny_mkText (wpAny_bind (wpAny_attempt (wpAny_holding (wpAny_bind (l0.at (wpAny_bind (l1.at ?_))))))))
  dsimp only
  rw [if_neg (by rw [show (Value.builtin "BaseException.__getattribute__" == Value.builtin "object.__getattribute__") = false by decide, Bool.and_false]; exact Bool.false_ne_true)]
  unfold getAttrByItsOwn hookBefore
  rw [if_pos (show onTheHeap (Value.ref D) = true from rfl)]
  refine wpAny_bind (l2.at (wpAny_bind (wpAny_attempt (wpAny_holding ?_))))
  unfold callGetattribute boundAndCalled
  rw [if_neg (by simp)]
  refine wpAny_bind (wpAny_of_eq (PySem.F.excAttr_ValueError.ga.bind (.ref x)) ?_)
  have li : Looks (model prog w) hh (isInstance (.ref x) (.type "BaseException")) true := l0.andThen (looks_mroIn X F.bs)
  dsimp only
  refine wpAny_call ?_
  refine codeAny_call_builtin PySem.F.excAttr_ValueError.ga.plain PySem.F.entry_bexc_ga ?_
  have hs := PySem.F.args_bexc_ga (.ref x) (.str "__class__" t)
  simp only [List.cons_append, List.nil_append]
  refine check_slot (M := model prog w) (A := A.in1) (i := "BaseException.__getattribute__") (owner := "BaseException") (n := "__getattribute__") (self := .ref x) (rest := [.str "__class__" t]) (kw := []) kind_bexc_ga split_bexc_ga ?_ ?_ ?_
  · exact li
  · exact hs
  unfold Builtin.«object.__getattribute__» slotArgs
  simp only [List.isEmpty_nil, Bool.not_true, Bool.false_eq_true, if_false, List.length_cons, List.length_nil, Nat.zero_add, bne_self_eq_false]
  refine wpAny_bind (wpAny_pure ?_)
  dsimp only
  unfold Builtin.ObjectAttr.attrName
  simp only
  refine wpAny_bind (wpAny_pure ?_)
  refine wpAny_bind (l0.at ?_)
  refine wpAny_bind (l3.at ?_)
  dsimp only
  unfold Builtin.ObjectAttr.bindTo
  dsimp only
  refine wpAny_bind (wpAny_holding (wpAny_call (class_get (s := ⟨hh, g, d, t + 1, os⟩) (ox := ox) (od := od) X I F.ob ?_)))
  refine wpAny_pure ?_
  exact handed_on rfl (wpAny_pure h)
theorem kitx_exc (F : XIsi K D) : KitX K (.ref x) (.ref D) (fun h => InstAt h x ox D od) where
  ty := fun _ _ _ I => I.type
  it := fun _ _ X _ => by
    have hc := F.is
    unfold clsIn at hc
    split at hc
    · rename_i c1 d1 cd1 sl1 ho
      intro A' Q' E' s' k q
      unfold isType loadHead
      exact wpAny_bind (wpAny_loadPart (k _ _ (X _ _ ho)) (wpAny_pure q))
    · cases hc
  ne := fun h tp dd its n sl X htp => by
    have hc := F.is
    refine Bool.eq_false_iff.mpr fun q => ?_
    have e : D = tp := Value.ref.inj (beq_iff_eq.mp q)
    subst e
    unfold clsIn at hc
    split at hc
    · rename_i c1 d1 cd1 sl1 ho
      have z := (X _ _ ho).symm.trans htp
      cases z
    · cases hc
  ca := fun X I k => exc_class F X I k
end
section
variable {X : Cx}
def rIsiX (K : Frag) (a : Addr) (cls : Value) (dx : Option Addr) : List V → Hp → VK → Prop := fun xs H Q => ∃ D c cv b, cls = .ref D ∧ (dx = none ∨ ∃ d fs, dx = some d ∧ H d = some (.xd fs)) ∧ XIsi K D ∧ xs = [.ref a, c] ∧ clsV c = some cv ∧ kitOne K cls cv = some b ∧ Q (.bl b) H
/-  isinstance(e, C) within an except's suite -/
theorem call_isiX {a : Addr} {cls : Value} {dx : Option Addr} {ps : List (Addr × Obj)} (hs : ∃ oe : Obj, (a, oe) ∈ ps ∧ oe.cls = cls ∧ oe.dict = dx ∧ ∃ vs, oe.data = .fields vs) (hp : ∀ p ∈ ps, p ∈ X.pn) : CallR X (.builtin "isinstance") (rIsiX X.K a cls dx) := by
  intro pins s σ H xs us Q I r h
  obtain ⟨oe, hp', rfl, rfl, hv⟩ := hs
  have hp := hp _ hp'
  obtain ⟨D, c, cv, b, hc, hd, F, rfl, rc, e, q⟩ := h
  obtain ⟨u, v, rfl, ru, rv⟩ := Vals.two r
  have e2 := clsV_rel rc rv
  subst e2
  cases (show u = Value.ref a from ru)
  rw [hc] at e
  have hn : notCls oe = true := by
    obtain ⟨vs, z⟩ := hv
    obtain ⟨c1, d1, dt, sl⟩ := oe
    cases z
    rfl
  have J : ∃ od, InstAt s.heap a oe D od := by
    rcases hd with hd | ⟨d, fs, hd, hx⟩
    · exact ⟨none, (I.pin _ (List.mem_append_left _ hp)).1, hc, hn, by rw [hd]; trivial⟩
    · obtain ⟨mA, ⟨ob, es, ep, eb, _⟩, _⟩ := I.hok d _ hx
      exact ⟨some ob, (I.pin _ (List.mem_append_left _ hp)).1, hc, hn, by rw [hd]; exact eb⟩
  obtain ⟨od, J⟩ := J
  exact kia_one (kitx_exc F) I.kIn J e (fun z => nomatch z) fun tk => ⟨.bl b, H, I.tok _, rfl, q⟩
end
end L2

/-! own exceptions with an __init__ of their own: raise C(x), the attribute that it sets, read in an except's suite -/
namespace L2
open PySem PySem.Spec PyProof.Rows
/-  what an own exception class with an __init__ must have -/
def xinIn (K : PySem.W.Frag) (C f : Addr) : Bool := match K.lookup C with
  | some ⟨.type "type", _, .cls cd, sl⟩ => (match cd.mro, sl.toList with
    | .ref C' :: bm, [_, _, _, _, some (.builtin n), _] => C' == C && n == "ValueError.__new__" && !cd.hasDel && PySem.W.tailIn K mroV bm && PySem.W.nsOkIn K cd.ns && PySem.W.nsIn K cd.ns "__init__" == some (some (.ref f))
    | _, _ => false)
  | _ => false
/-  the built-in part of its mro -/
def afterRefs : List Value → List Value
  | .ref _ :: r => afterRefs r
  | l => l
structure XIni (K : PySem.W.Frag) (C f : Addr) : Prop where
  xi : xinIn K C f = true
  fn : PySem.W.isFn K (.ref f) = true
  hd : PySem.W.hasDictIn K C = true
  mr : (PySem.W.clsIn K C).any (fun cd => afterRefs cd.mro == mroV) = true
  ob : PySem.W.mroIn K C (.type "object") = some true
  sa : PySem.W.findIn K (.ref C) "__setattr__" = some (some (.builtin "object.__setattr__"))
theorem refuse_after (self : Value) (what : Str) : ∀ l : List Value, refuseLoop self what l = refuseLoop self what (afterRefs l)
  | [] => rfl
  | v :: r => by
    cases v with
    | ref C => rw [refuseLoop_ref]; exact refuse_after self what r
    | _ => rfl
section
variable {prog : Program} {w : World} {A : Around} {E : Value → Shared → Prop} {s : Shared} {K : PySem.W.Frag} {x C f : Addr} {ox : Obj} {name : Str} {v : Value}
theorem osa_exc {od : Option Obj} {tk : Tok} {R : Result → Shared → Prop} (X : K.In s.heap) (I : PySem.W.InstAt s.heap x ox C od) (F : XIni K C f) (n : NoAttr K C name)
    (h : ∀ b, wpAny (model prog w) A.in1 (Builtin.ObjectAttr.storeInOwnDict (.ref x) (.ref C) (.str name tk) name v b) (fun fin s' => match fin with | .done f => R (.ok f) s' | .again c' => c'.quiet = true ∧ codeAny (model prog w) A c' R s') (fun e s' => R (.error e) s') s) :
    codeAny (model prog w) A (.call (.builtin "object.__setattr__") ⟨[.ref x, .str name tk, v], []⟩) R s := by
  have SF := PySem.F.store_object
  obtain ⟨cd, hc, hm0⟩ := PySem.W.any_some F.mr
  have sub : PySem.W.Looks (model prog w) s.heap (isInstance (.ref x) (.type "object")) true := I.type.andThen (PySem.W.looks_mroIn X F.ob)
  refine codeAny_call_builtin SF.slot.plain SF.entry (@PySem.W.check_slot (model prog w) _ _ s "object.__setattr__" "object" "__setattr__" (.ref x) [.str name tk, v] [] _ SF.kind SF.split sub (SF.args (.ref x) (.str name tk) v) ?_)
  have hm : PySem.W.Looks (model prog w) s.heap (mroOf (.ref C)) cd.mro := (PySem.W.looks_clsIn X hc).andThen .now
  have L3 : PySem.W.Looks (model prog w) s.heap (Builtin.ObjectAttr.storeTaker? none) none := .now
  rw [PySem.W.osa_eq, refuse_eq]
  refine wpAny_bind (wpAny_bind (I.type.here (wpAny_bind (hm.here ?_))))
  rw [refuse_after, beq_iff_eq.mp hm0, show refuseLoop (Value.ref x) "__setattr__" mroV = pure () from PySem.F.store_ValueError.passes _]
  refine wpAny_pure (wpAny_bind (I.type.here (wpAny_bind ((PySem.W.looks_findIn X n).here (wpAny_bind (L3.here ?_))))))
  exact h _
theorem set_exc {Q : Unit → Shared → Prop} (X : K.In s.heap) (I : PySem.W.InstAt s.heap x ox C none) (hdx : ox.dict = none) {vs : Array Value} (hdat : ox.data = .fields vs) (F : XIni K C f) (n : NoAttr K C name)
    (h : ∀ h' t', h'.Ns1 s.heap.objs.size (fun y => if y = name then some v else none) → h'.get? x = some { ox with dict := some s.heap.objs.size } → (∀ b o, b ≠ x → s.heap.get? b = some o → h'.get? b = some o) → Q () { s with heap := h', toks := t' }) :
    wpAny (model prog w) A (setAttr (.ref x) name v) Q E s := by
  refine PySem.W.set_plain X I F.sa (osa_exc (s := { s with toks := s.toks + 1 }) X I F n fun b => ?_)
  obtain ⟨cd, hc, hd'⟩ := PySem.W.any_some F.hd
  have hx := I.at_
  obtain ⟨c0, d0, dt0, sl0⟩ := ox
  cases hdx
  cases hdat
  cases I.cls
  refine wpAny_bind (wpAny_pure (wpAny_bind (wpAny_bind (wpAny_loadPart hx (wpAny_bind (PySem.W.Looks.here (s := { s with toks := s.toks + 1 }) (PySem.W.looks_clsIn X hc) ?_))))))
  rw [hd']
  have hx₁ : (s.heap.push { cls := .type "dict", data := .dict #[] }).get? x = some ⟨.ref C, none, .fields vs, sl0⟩ := Heap.get?_push_of_some _ hx
  have hxs : x ≠ s.heap.objs.size := Nat.ne_of_lt (Heap.lt_size hx)
  refine wpAny_bind (wpAny_alloc' ?_)
  refine wpAny_bind (wpAny_update' hx₁ ?_)
  refine wpAny_pure ?_
  have hgd : ((s.heap.push { cls := .type "dict", data := .dict #[] }).update x fun o => { cls := o.cls, dict := some s.heap.objs.size, data := o.data, slots := o.slots }).get? s.heap.objs.size
      = some { cls := .type "dict", data := .dict #[] } :=
    (Heap.get?_update_ne _ _ _ _ hxs.symm).trans (Heap.get?_push_at rfl rfl)
  have hnd : ((s.heap.push { cls := .type "dict", data := .dict #[] }).update x fun o => { cls := o.cls, dict := some s.heap.objs.size, data := o.data, slots := o.slots }).Ns s.heap.objs.size (fun _ => none) :=
    ⟨_, #[], _, hgd, rfl, fun e he => absurd he (by simp), fun _ => rfl⟩
  show wpAny _ _ (Builtin.ObjectAttr.storeInDict s.heap.objs.size (.str name _) name v) _ _ _
  unfold Builtin.ObjectAttr.storeInDict Builtin.ObjectAttr.newKeyGuard
  refine wpAny_bind (wpAny_pure (wpAny_bind (wpAny_nsSet1 (Heap.Ns1.of_empty hnd) fun h' hn' hs => ?_)))
  obtain ⟨oD, esD, epD, hoD, hdD, hcD⟩ := hn'.count (Within.cons name v Within.nil)
  refine wpAny_bind (wpAny_lookBehind hoD (by rw [hdD]; exact pastItsLine_dict (Nat.le_trans hcD (by rw [List.length_cons, List.length_nil, sizeLine_eq]; omega))) ?_)
  refine wpAny_pure (h h' _ hn' ((hs.2 x hxs).trans (Heap.get?_update_self _ hx₁ rfl)) fun b ob hbx hb => ?_)
  exact (hs.2 b (Nat.ne_of_lt (Heap.lt_size hb))).trans ((Heap.get?_update_ne _ _ _ _ hbx).trans (Heap.get?_push_of_some _ hb))
end
/-  an exception in the making -/
def HO.exc (a C : Addr) (dx : Option Addr) : HO := .ext fun h => ∃ o t, h.get? a = some o ∧ o.cls = .ref C ∧ o.dict = dx ∧ o.data = .fields #[.ref t, .none, .none, .none, .bool false, .none]
def rem (H : Hp) (a : Addr) : Hp := fun b => if b = a then none else H b
section
variable {X : Cx} {pins : List (Addr × Obj)} {σ : St} {H : Hp} {s : Shared} {a C f : Addr} {fl : Str} {y : V} {u : Value} {A : Around} {E : Value → Shared → Prop}
theorem exc_stays {dx : Option Addr} {h1 h2 : Heap} (q : ∃ o t, h1.get? a = some o ∧ o.cls = .ref C ∧ o.dict = dx ∧ o.data = .fields #[.ref t, .none, .none, .none, .bool false, .none]) (k : ∀ o, h1.get? a = some o → h2.get? a = some o) :
    ∃ o t, h2.get? a = some o ∧ o.cls = .ref C ∧ o.dict = dx ∧ o.data = .fields #[.ref t, .none, .none, .none, .bool false, .none] := by
  obtain ⟨o, t, e, r⟩ := q
  exact ⟨o, t, k o e, r⟩
theorem setexc_ok {Q : Unit → Shared → Prop} (I : Inv X pins σ H s) (e : H a = some (HO.exc a C none)) (F : XIni X.K C f) (n : NoAttr X.K C fl) (ry : RelV y u)
    (h : ∀ d s', H d = none → d ≠ a → Inv X pins σ (upd (upd H d (.xd [(fl, y)])) a (HO.exc a C (some d))) s' → Q () s') : wpAny (model X.prog X.w) A (setAttr (.ref a) fl u) Q E s := by
  obtain ⟨⟨o, t, ea, hc, hd, hdat⟩, _⟩ := I.hok a _ e
  have J : PySem.W.InstAt s.heap a o C none := ⟨ea, hc, by obtain ⟨c1, d1, dt, sl⟩ := o; cases hdat; rfl, by rw [hd]; trivial⟩
  refine set_exc I.kIn J hd hdat F n fun h' t' hn hx kp => ?_
  have hd0 : H s.heap.objs.size = none := I.hok.fresh (Nat.le_refl _)
  have nda : s.heap.objs.size ≠ a := fun z => by rw [z, e] at hd0; cases hd0
  have nA : ∀ b, H b = none → b ≠ a := fun b n z => by rw [z, e] at n; cases n
  have oth : ∀ b, b ≠ a → b ≠ s.heap.objs.size → upd (upd H s.heap.objs.size (.xd [(fl, y)])) a (HO.exc a C (some s.heap.objs.size)) b = H b := fun b h1 h2 => by rw [upd_ne h1, upd_ne h2]
  have own : ∀ b u, H b = some u → u ≠ HO.exc a C none → upd (upd H s.heap.objs.size (.xd [(fl, y)])) a (HO.exc a C (some s.heap.objs.size)) b = some u := fun b u q nu => by
    rw [oth b (fun z => by rw [z, e] at q; exact nu (Option.some.inj q).symm) (ne_of_none q hd0)]; exact q
  refine h s.heap.objs.size _ hd0 nda (I.un ⟨fun b o q n _ _ => kp b o (nA b n) q, fun b o q n _ _ => ⟨o.slots, kp b o (nA b n) q⟩, fun b o q n _ => ?_, fun b o q _ => ?_, fun b u q f => own b u q (by rintro rfl; exact f)⟩ fun b u q => ?_)
  · rw [oth b (nA b n) (Nat.ne_of_lt (Heap.lt_size q))]; exact n
  · by_cases hb : b = a
    · subst hb; exact ⟨_, hx⟩
    · exact ⟨o, kp b o hb q⟩
  · by_cases hb : b = a
    · subst hb
      rw [upd_same] at q; cases q
      exact ⟨⟨_, t, hx, hc, rfl, hdat⟩, ⟨_, hx⟩, fun h1 h2 => exc_stays⟩
    · rw [upd_ne hb] at q
      by_cases hb2 : b = s.heap.objs.size
      · subst hb2
        rw [upd_same] at q; cases q
        refine ⟨_, hn, fun g => ?_⟩
        show RelO (List.lookup g [(fl, y)]) (if g = fl then some u else none)
        rw [List.lookup_cons]
        by_cases q : g = fl
        · subst q; simp; exact ry
        · rw [beq_false_of_ne q, if_neg q]; exact True.intro
      · rw [upd_ne hb2] at q
        refine (I.hok b u q).stay (fun c v hc q' => kp c v ?_ q') (fun c q' => own _ _ q' (fun z => by cases z)) fun c u' q' hf => own _ _ q' (by rintro rfl; exact hf)
        rcases hc with rfl | hc
        · exact hb
        · intro z; rw [z, e] at hc; cases hc
theorem Inv.forget (I : Inv X pins σ H s) {φ : Heap → Prop} (e : H a = some (.ext φ)) : Inv X pins σ (rem H a) s := by
  have non : ∀ b, H b = none → rem H a b = none := fun b n => by unfold rem; split <;> first | rfl | exact n
  have kp : ∀ b u, H b = some u → (∀ φ, u ≠ .ext φ) → rem H a b = some u := fun b u q n => by
    unfold rem; rw [if_neg]
    · exact q
    · intro z; rw [z, e] at q; exact n φ (Option.some.inj q).symm
  refine ⟨I.ok, I.os, I.bare, ⟨I.base.keep, I.base.slot, fun b o q n x => non b (I.base.free b o q n x), I.base.there, fun b u q f => kp b u (I.base.fix b u q f) (by rintro φ rfl; exact f)⟩, I.loc, I.cell, non _ I.free, fun x c q => ?_, fun p hp => ?_, fun b u q => ?_, I.len⟩
  · rcases I.freeC x c q with z | ⟨z1, o, z2, z3⟩
    · exact .inl (non c z)
    · exact .inr ⟨z1, o, kp c _ z2 (fun φ z => by cases z), z3⟩
  · obtain ⟨e1, n, r⟩ := I.pin p hp
    exact ⟨e1, non _ n, r⟩
  · have q' : H b = some u := by
      unfold rem at q
      split at q
      · cases q
      · exact q
    exact (I.hok b u q').stay (fun _ _ _ z => z) (fun c z => kp c _ z (fun φ z => by cases z)) fun c u' z hf => kp c _ z (by rintro φ rfl; exact hf)
end
/-  self.f = e in an exception's __init__ -/
def sFldX (K : PySem.W.Frag) (ta tv : TE) (f : Str) : TS := fun D σ H => tv σ H fun y H1 => ta σ H1 fun x H2 => ∃ a C g, x = .ref a ∧ H2 a = some (HO.exc a C none) ∧ XIni K C g ∧ NoAttr K C f ∧
  ∀ d, H2 d = none → d ≠ a → D.nx σ (upd (upd H2 d (.xd [(f, y)])) a (HO.exc a C (some d)))
theorem ps_fldX {X : Cx} {o value : Expr} {f : Str} {pos pos' : Pos} {ta tv : TE} (ha : PE X o ta) (hv : PE X value tv) (hs : swapsWith value (some (.Attribute o f pos')) pos.line X.env = pure false) : PS X (.Assign [.Attribute o f pos'] value pos) (sFldX X.K ta tv f) := by
  intro pins s σ H D I h
  refine plainObj_wpAny_Assign_Attribute (thn (hv pins s σ H _ I h) fun u s1 ⟨y, H1, I1, ry, q⟩ => thn (ha pins s1 σ H1 _ I1 q) fun ov s2 ⟨x, H2, I2, rx, a, C, g, ex, ea, F, n, q2⟩ => ?_) hs
  subst ex
  obtain rfl : ov = Value.ref a := rx
  exact setexc_ok I2 ea F n ry fun d s3 n1 n2 I3 => ⟨σ, _, I3, q2 d n1 n2⟩
def sp_xinit (C : Addr) (f : Str) : Sp := fun vs H Q _ => ∃ a v, vs = [.ref a, v] ∧ H a = some (HO.exc a C none) ∧ ∀ d, H d = none → d ≠ a → Q .non (upd (upd H d (.xd [(f, v)])) a (HO.exc a C (some d)))
/-! raise C(x) -/
section
variable {prog : Program} {w : World} {A : Around} {E : Value → Shared → Prop} {h : Heap} {g : Array GenState} {d : Drawn} {t : Nat} {os : OsState}
variable {nm q : Str} {C N : Addr} {bs bm bmB : List Value} {hdct : Bool} {sn : List Str} {sub : List Value} {ab : Bool} {col : Option Bool} {dd : Option Addr} {k0 k1 k2 k3 k5 : Option Value} {B newId initId : String}
theorem type_call_ini (F : ExcBaseFacts B newId initId bmB) (T : OwnTail h bmB bm) {mN : Str → Option Value} {rest : List Value} {fI : Addr} {oI : Obj} {Q : Fin → Shared → Prop}
    (hC : h.get? C = some (excClassObj nm q C N bs bm hdct sn sub ab col dd k0 k1 k2 k3 k5 newId)) (hn : h.Ns N mN) (hi : mN "__init__" = some (.ref fI))
    (hfI : h.get? fI = some oI) (hfc : oI.cls = .type "function")
    (hq : ∀ h' e, Heap.MadeExcOf h h' e (.ref C) rest → h.objs.size ≤ e →
      wpAny (model prog w) A (call (.ref fI) (.ref e :: rest)) (fun r s' => r = .none ∧ Q (.done (.ret (.ref e))) s') E ⟨h', g, d, t, os⟩) (hrest : rest.length ≤ sizeLine := by size_fits) :
    wpAny (model prog w) A (Builtin.«type.__call__» ⟨.ref C :: rest, []⟩) Q E ⟨h, g, d, t, os⟩ := by
  repeat (first | with_reducible refine wpAny_loadPart_at hC ?_ | with_reducible refine wpAny_madeBy_exc hC ?_ | wp_step)
  refine codeAny_call_builtin_code (Code.quiet_builtin _ F.quiet) (wpAny_check_new_subT F T hC ?_)
  refine codeAny_exc_new_subT F T hC ?_ hrest
  show wpAny _ _ _ _ _ _
  have hC₁ := Heap.get?_push_of_some { cls := .ref C, data := .fields #[.ref h.objs.size, .none, .none, .none, .bool false, .none] }
    (Heap.get?_push_of_some { cls := .type "tuple", data := .seq rest.toArray } hC)
  have hfI₁ := Heap.get?_push_of_some { cls := .ref C, data := .fields #[.ref h.objs.size, .none, .none, .none, .bool false, .none] }
    (Heap.get?_push_of_some { cls := .type "tuple", data := .seq rest.toArray } hfI)
  have hn₁ : ((h.push { cls := .type "tuple", data := .seq rest.toArray }).push { cls := .ref C, data := .fields #[.ref h.objs.size, .none, .none, .none, .bool false, .none] }).Ns N mN :=
    let ⟨o, es, ep, e, r⟩ := hn; ⟨o, es, ep, Heap.get?_push_of_some _ (Heap.get?_push_of_some _ e), r⟩
  have hget : ((h.push { cls := .type "tuple", data := .seq rest.toArray }).push
      { cls := .ref C, data := .fields #[.ref h.objs.size, .none, .none, .none, .bool false, .none] }).get? (h.objs.size + 1) = some
      { cls := .ref C, data := .fields #[.ref h.objs.size, .none, .none, .none, .bool false, .none] } := by heap_get
  have hcC : (Value.ref C :: bm).contains (.ref C) = true := by simp
  have T₁ := T.keeps (h' := (h.push { cls := .type "tuple", data := .seq rest.toArray }).push { cls := .ref C, data := .fields #[.ref h.objs.size, .none, .none, .none, .bool false, .none] })
    fun b o e => Heap.get?_push_of_some _ (Heap.get?_push_of_some _ e)
  unfold isInstance
  repeat (first | with_reducible refine wpAny_loadPart_at hget ?_ | (with_reducible refine wpAny_isSubtype_exc hC₁ ?_; rw [hcC]) | wp_step)
  show wpAny _ _ (typeLookup (.ref C) _) _ _ _
  refine wpAny_typeLookup_tail hC₁ hn₁ T₁ F.mroIs F.init.lookup ?_
  rw [hi]
  refine wpAny_holding (wpAny_bind ?_)
  unfold bindSpecial
  refine wpAny_bind (wpAny_typeOf (T := "function") ⟨_, hfI₁, hfc⟩ ?_)
  rw [if_pos (by decide)]
  refine wpAny_pure (wpAny_bind (wpAny_mono (hq _ (h.objs.size + 1) ⟨fun b o hb => Heap.get?_push_of_some _ (Heap.get?_push_of_some _ hb), Heap.get?_none_of_le (Nat.le_succ _), h.objs.size, hget, Heap.get?_none_of_le (Nat.le_refl _), ?_⟩ (Nat.le_succ _)) (fun r s' hr => ?_) fun _ _ x => x))
  · exact Heap.get?_push_of_some _ (Heap.get?_push_at rfl rfl)
  · obtain ⟨rfl, hQ⟩ := hr
    wp_walk
    exact hQ
theorem call_ini (F : ExcBaseFacts B newId initId bmB) (T : OwnTail h bmB bm) {mN : Str → Option Value} {rest : List Value} {fI : Addr} {oI : Obj} {Q : Value → Shared → Prop}
    (hC : h.get? C = some (excClassObj nm q C N bs bm hdct sn sub ab col dd k0 k1 k2 k3 k5 newId)) (hn : h.Ns N mN) (hi : mN "__init__" = some (.ref fI))
    (hfI : h.get? fI = some oI) (hfc : oI.cls = .type "function")
    (hq : ∀ h' e, Heap.MadeExcOf h h' e (.ref C) rest → h.objs.size ≤ e →
      wpAny (model prog w) (A.under (.builtin "type.__call__" ⟨.ref C :: rest, []⟩)) (call (.ref fI) (.ref e :: rest)) (fun r s' => r = .none ∧ Q (.ref e) s') E ⟨h', g, d, t, os⟩) (hrest : rest.length ≤ sizeLine := by size_fits) :
    wpAny (model prog w) A (call (.ref C) rest) Q E ⟨h, g, d, t, os⟩ := by
  have f1 := tc_lookup
  have f2 := tc_bind (.ref C)
  have hT : (⟨h, g, d, t, os⟩ : Shared).TypeIs (.ref C) "type" := ⟨_, hC, rfl⟩
  refine wpAny_call (codeAny_of_tree ?_)
  show wpAny _ _ (callAny (.ref C) _) _ _ _
  repeat (any_goals (first | assumption | with_reducible refine wpAny_loadPart_at hC ?_ | wp_step))
  refine ⟨rfl, ?_⟩
  refine codeAny_call_builtin_at (Code.quiet_builtin _ (by decide +kernel)) entry_typeCall (wpAny_check_type_call_sub hC (type_call_ini (hrest := hrest) F T hC hn hi hfI hfc fun h' e hm hl => ?_))
  exact hq h' e hm hl
end
section
variable {M : Model} {A : Around} {E : Value → Shared → Prop} {env : Env}
variable {nm q : Str} {C N : Addr} {bs bm : List Value} {hdct : Bool} {sn : List Str} {sub : List Value} {ab : Bool} {col : Option Bool} {dd : Option Addr} {k0 k1 k2 k3 k5 : Option Value} {newId : String}
theorem raise_made {s : Shared} {x : Sem Value} {Q : Flow → Shared → Prop} (hbase : bm.contains (.type "BaseException") = true) (hh : A.handled = none)
    (h : wpAny M A x (fun v s₁ => ∃ e t od sl, v = .ref e ∧ s₁.heap.get? C = some (excClassObj nm q C N bs bm hdct sn sub ab col dd k0 k1 k2 k3 k5 newId) ∧
      s₁.heap.get? e = some { cls := .ref C, dict := od, data := .fields #[.ref t, .none, .none, .none, .bool false, .none], slots := sl } ∧ E (.ref e) s₁) E s) :
    wpAny M A (raiseStmt env (some x) none) Q E s := by
  have hcB : (Value.ref C :: bm).contains (.type "BaseException") = true := by rw [List.contains_cons, hbase, Bool.or_true]
  unfold raiseStmt
  refine wpAny_bind (wpAny_mono h (fun v s₁ h₁ => ?_) fun _ _ x => x)
  obtain ⟨e, t, od, sl, rfl, hC, he, hE⟩ := h₁
  obtain ⟨hp, g, d, tk, os⟩ := s₁
  repeat (first | with_reducible refine wpAny_loadPart_at he ?_ | with_reducible refine wpAny_loadPart_at hC ?_ | (with_reducible refine wpAny_isSubtype_exc hC ?_; rw [hcB]) | wp_step)
  exact wpAny_raiseNew_none hh hE
end
section
variable {prog : Program} {w : World} {A : Around} {E : Value → Shared → Prop} {s : Shared} {env : Env}
variable {nm q : Str} {C N : Addr} {bs bm : List Value} {hdct : Bool} {sn : List Str} {sub : List Value} {ab : Bool} {col : Option Bool} {dd : Option Addr} {k0 k1 k2 k3 k5 : Option Value} {newId : String}
theorem raise_call {x : Str} {np cpos pos : Pos} {args : List Expr} {Q : Flow → Shared → Prop}
    (hbase : bm.contains (.type "BaseException") = true) (hh : A.handled = none) (hplain : (backTo cpos (starEach args env)).any (·.1) = false)
    (h : wpAny (model prog w) A (eval (.Name x np) env) (fun f s₁ => f = .ref C ∧ wpAny (model prog w) A (evalArgs (.ref C) true (backTo cpos (starEach args env)) [])
      (fun a s₂ => a.kw = [] ∧ s₂.heap.get? C = some (excClassObj nm q C N bs bm hdct sn sub ab col dd k0 k1 k2 k3 k5 newId) ∧
        wpAny (model prog w) A (call (.ref C) a.pos) (fun v s₃ => ∃ e t od sl, v = .ref e ∧ s₃.heap.get? C = some (excClassObj nm q C N bs bm hdct sn sub ab col dd k0 k1 k2 k3 k5 newId) ∧
          s₃.heap.get? e = some { cls := .ref C, dict := od, data := .fields #[.ref t, .none, .none, .none, .bool false, .none], slots := sl } ∧ E (.ref e) s₃) E s₂) E s₁) E s) :
    wpAny (model prog w) A (exec (.Raise (some (.Call (.Name x np) args [] cpos)) none pos) env) Q E s := by
  rw [arm_exec_Raise]
  first
    | refine wpAny_bind (wpAny_standAt (raise_made (C := C) (nm := nm) (q := q) (N := N) (bs := bs) (bm := bm) (hdct := hdct) (sn := sn) (sub := sub) (ab := ab) (col := col) (dd := dd) (k0 := k0) (k1 := k1) (k2 := k2) (k3 := k3) (k5 := k5) (newId := newId) hbase hh (wpAny_bind (wpAny_mono (wpAny_Call_ofName (wpAny_mono h (fun f s₁ h₁ => ?_) fun _ _ x => x)) (fun v s₃ h₃ => wpAny_bind (wpAny_standAt (wpAny_pure h₃))) fun _ _ x => x))))
    | (simp only [evalOpt, Option.map]; refine wpAny_bind (wpAny_standAt (raise_made (C := C) (nm := nm) (q := q) (N := N) (bs := bs) (bm := bm) (hdct := hdct) (sn := sn) (sub := sub) (ab := ab) (col := col) (dd := dd) (k0 := k0) (k1 := k1) (k2 := k2) (k3 := k3) (k5 := k5) (newId := newId) hbase hh (wpAny_bind (wpAny_mono (wpAny_Call_ofName (wpAny_mono h (fun f s₁ h₁ => ?_) fun _ _ x => x)) (fun v s₃ h₃ => wpAny_bind (wpAny_standAt (wpAny_pure h₃))) fun _ _ x => x)))))
  obtain ⟨rfl, h₁⟩ := h₁
  unfold callWith
  refine wpAny_bind (wpAny_holding (wpAny_mono h₁ (fun a s₂ h₂ => wpAny_bind (wpAny_standAt ?_)) fun _ _ x => x))
  obtain ⟨apos, akw⟩ := a
  obtain ⟨hkw, hC, h₂⟩ := h₂
  obtain rfl : akw = [] := hkw
  obtain ⟨hp, g, d, tk, os⟩ := s₂
  simp only [hplain]
  refine wpAny_bind (wpAny_keeperOf_exc hC ?_)
  refine wpAny_bind (wpAny_mono h₂ (fun v s₃ h₃ => wpAny_bind (wpAny_holding (wpAny_point (wpAny_pure h₃)))) fun _ _ x => x)
end
theorem ns_some_of {K : PySem.W.Frag} {h : Heap} {N : Addr} {mg : Str → Option Value} {n : Str} {v : Value} (X : K.In h) (G : h.Ns N mg) (e : PySem.W.nsIn K N n = some (some v)) : mg n = some v := by
  obtain ⟨o, es, ep, ho, hd, _, hf⟩ := G
  unfold PySem.W.nsIn at e
  split at e
  · rename_i c d es' n' sl q
    have := X _ _ q
    rw [ho] at this
    cases this
    cases hd
    split at e
    · rename_i en he
      cases e
      rw [← hf]
      unfold nsFind findBy
      rw [← Array.find?_toList, he]
      rfl
    · split at e <;> cases e
  · cases e
theorem XIni.obj {K : PySem.W.Frag} {C f : Addr} {h : Heap} (F : XIni K C f) (X : K.In h) : ∃ bm N nm qn bs hdct sn sub ab col dd k0 k1 k2 k3 k5,
    h.get? C = some (excClassObj nm qn C N bs bm hdct sn sub ab col dd k0 k1 k2 k3 k5 "ValueError.__new__") ∧ h.Ns N (h.nsMap N) ∧ h.nsMap N "__init__" = some (.ref f) ∧ OwnTail h mroV bm := by
  have q := F.xi
  unfold xinIn at q
  split at q
  · rename_i dd cd sl ho
    split at q
    · rename_i C' bm k0 k1 k2 k3 n k5 hm hs
      simp only [Bool.and_eq_true, beq_iff_eq, Bool.not_eq_true'] at q
      obtain ⟨⟨⟨⟨⟨rfl, rfl⟩, hdel⟩, ht⟩, hok⟩, hni⟩ := q
      obtain ⟨nm, bs, mro, ns, qn, hd, sn, sub, ab, col, del⟩ := cd
      obtain ⟨l⟩ := sl
      dsimp only at hm hdel hok hni hs
      subst hm hdel hs
      have N1 : h.Ns ns (h.nsMap ns) := .of_isNs (PySem.W.isNs_of_in X hok)
      exact ⟨bm, ns, nm, qn, bs, hd, sn, sub, ab, col, dd, k0, k1, k2, k3, k5, X _ _ ho, N1, ns_some_of X N1 hni, PySem.W.tail_of_in X ht⟩
    · cases q
  · cases q
section
variable {X : Cx} {EE : EEs}
def tRaiseI (C : Addr) (f : Str) (EE : EEs) (t : TA) : TS := fun _ σ H => t σ H fun vs H1 => ∃ v, vs = [v] ∧ ∀ d, H1 d = none → EE σ (.ref C) (some d) (upd H1 d (.xd [(f, v)]))
theorem ps_raiseI {C g : Addr} {fd : FuncData} {ps : List Str} {fl x : Str} {k : Nat} {np cpos pos : Pos} {e : Expr} {t : TA} (o : Own X) (hc : X.calm = true) (q : XIni X.K C g) (F : FnOk X.prog X.w X.K X.mg X.base CX0 k g fd ps (sp_xinit C fl)) (hr : Room (k + 1) X.A) (hb : Binds X.K fd ps [])
    (hg : Gl X x) (hm : X.mg x = some (.ref C)) (ha : PA (X.wish (XE X EE)) [e] t)
    (hdb : (x == ("__debug__" : Str)) = false := by decide) (he : starEach [e] X.env = (false, eval e X.env) :: starEach [] X.env := by rfl) (hpl : (backTo cpos (starEach [e] X.env)).any (·.1) = false := by rfl) :
    PS (X.wish (XE X EE)) (.Raise (some (.Call (.Name x np) [e] [] cpos)) none pos) (tRaiseI C fl EE t) := by
  intro pins s σ H D I h
  obtain ⟨bm, N, nm, qn, bs, hdct, sn, sub, ab, col, dd, k0, k1, k2, k3, k5, hC, hN, hni, TL⟩ := q.obj I.ok.mod.kin
  refine raise_call (C := C) (N := N) (bm := bm) (nm := nm) (q := qn) (bs := bs) (hdct := hdct) (sn := sn) (sub := sub) (ab := ab) (col := col) (dd := dd) (k0 := k0) (k1 := k1) (k2 := k2) (k3 := k3) (k5 := k5) (newId := "ValueError.__new__") (TL.hasType PySem.F.excBase_ValueError.hasBase) (I.ok.hd hc) hpl (ld_glob I hg hm ⟨rfl, ?_⟩ hdb)
  have ha' := ha cpos pins s σ H _ I h
  rw [he] at ha'
  show wpAny (model X.prog X.w) X.A (evalArgs (.ref C) true (backTo cpos (starEach [e] X.env)) []) _ _ s
  rw [he]
  refine PySem.evalArgs_kw (keywords := []) rfl ?_
  refine thn ha' fun us s1 ⟨vs, H1, I1, r, v, hv, y⟩ => ?_
  subst hv
  have hl : us.length = 1 := r.length.symm
  refine wpAny_pure ⟨rfl, I1.bk _ _ hC, ?_⟩
  obtain ⟨hh, gg, dr, tt, oss⟩ := s1
  have hfn : PySem.W.typeIn X.K (.ref g) = some (.type "function") := beq_iff_eq.mp q.fn
  obtain ⟨og, hog, hgc⟩ := Option.map_eq_some_iff.mp (show (X.K.lookup g).map (·.cls) = _ from hfn)
  refine call_ini PySem.F.excBase_ValueError (TL.keeps I1.bk) (I1.bk _ _ hC) (hN.keeps I1.bk) hni (I1.kIn _ _ hog) hgc (fun h' a mk hsz => ?_) (by show us.length ≤ sizeLine; rw [hl]; decide)
  obtain ⟨t0, ea, _, _⟩ := mk.there
  have nu := nu_of o I1.unwish mk.new
  have I2 := I1.laid (a := a) (o := HO.exc a C none) (t' := tt) mk.keeps hsz ⟨⟨_, t0, ea, rfl, rfl, rfl⟩, ⟨_, ea⟩, fun h1 h2 => exc_stays⟩
  have hl2 : (Value.ref a :: us ++ []).length = ps.length := by
    have := F.len [.ref a, v] (upd H1 a (HO.exc a C none)) (fun _ _ => True) E0 ⟨a, v, rfl, upd_same, fun _ _ _ => trivial⟩
    rw [← this]; simp [hl]
  refine wpAny_call (codeAny_mono (F.run _ X.stack _ _ ⟨Value.ref a :: us, []⟩ (Value.ref a :: us) [.ref a, v] (fun vv H3 => vv = .non ∧ ∃ d, H1 d = none ∧ d ≠ a ∧ H3 = upd (upd (upd H1 a (HO.exc a C none)) d (.xd [(fl, v)])) a (HO.exc a C (some d))) E0 (hr.make C us [])
    (I2.env0.make C us []) (by have := hb _ (Value.ref a :: us) I2.kIn hl2; rwa [List.append_nil] at this) (.cons rfl r) ⟨a, v, rfl, upd_same, fun d n1 n2 => ⟨rfl, d, by rwa [upd_ne n2] at n1, n2, rfl⟩⟩) fun rr s' hq' => ?_)
  cases rr with
  | error e => exact False.elim hq'
  | ok fl' =>
    cases fl' with
    | ret u =>
      obtain ⟨vv, H', I3, rv, rfl, d, n1, n2, rfl⟩ := I2.after hq'
      obtain rfl : u = Value.none := rv
      obtain ⟨⟨oe, t1, ea1, oc, od, odat⟩, _⟩ := I3.hok a _ upd_same
      have hrem : rem (upd (upd (upd H1 a (HO.exc a C none)) d (.xd [(fl, v)])) a (HO.exc a C (some d))) a = upd H1 d (.xd [(fl, v)]) := by
        funext b
        unfold rem
        by_cases hb : b = a
        · rw [if_pos hb, hb, upd_ne (Ne.symm n2)]; exact nu.1.symm
        · rw [if_neg hb, upd_ne hb]
          by_cases hd : b = d
          · rw [hd, upd_same, upd_same]
          · rw [upd_ne hd, upd_ne hd, upd_ne hb]
      have I4 := I3.unwish.forget (a := a) upd_same
      rw [hrem] at I4
      refine ⟨rfl, a, t1, some d, oe.slots, rfl, I3.bk _ _ hC, ?_, a, .ref C, some d, σ, _, rfl, I4.nopins, .inl ⟨oe, _, .ref t1, ea1, oc, od, odat, rfl, rfl, ?_⟩, y d n1⟩
      · obtain ⟨c1, d1, dt1, sl1⟩ := oe
        cases oc; cases od; cases odat
        exact ea1
      · exact ⟨by rw [upd_ne (Ne.symm n2)]; exact nu.1, nu.2⟩
    | next => exact False.elim hq'
    | brk => exact False.elim hq'
    | cont => exact False.elim hq'
end
end L2

/-! e.f of an exception, two except's, a def that raises and makes functions, methods that raise, calls of any function value -/
namespace L2
open PySem PySem.Spec PyProof.Rows PySem.W
section
variable {prog : Program} {w : World} {A : Around} {E : Value → Shared → Prop} {s : Shared} {K : Frag} {x D : Addr} {ox : Obj} {od : Obj}
theorem get_exc {Q : Value → Shared → Prop} {expr : Bool} {name : Str} {v : Value} (F : XIsi K D) (hd : hasDictIn K D = true) (X : K.In s.heap) (I : InstAt s.heap x ox D (some od)) (na : findIn K (.ref D) name = some none) (hl : lookIn name od = some (some v)) (hv : handedIn v = true)
    (h : Q v { s with toks := s.toks + 1 }) : wpAny (model prog w) A (getAttr (.ref x) name expr) Q E s := by
  obtain ⟨hh, g, d, t, os⟩ := s
  have l0 := I.type (M := model prog w)
  have l1 := looks_findIn (M := model prog w) X F.ga
  have l2 := looks_findIn (M := model prog w) X F.gh
  have l3 := looks_find (M := model prog w) X I (findObj_own hd na rfl hl)
  unfold getAttr getAttrBy
  refine wpAny_bind (wpAny_mkText (wpAny_holding (wpAny_bind (l0.at (wpAny_bind (l1.at ?_))))))
  dsimp only
  rw [if_neg (by rw [show (Value.builtin "BaseException.__getattribute__" == Value.builtin "object.__getattribute__") = false by decide, Bool.and_false]; exact Bool.false_ne_true)]
  unfold getAttrByItsOwn hookBefore
  rw [if_pos (show onTheHeap (Value.ref D) = true from rfl)]
  refine wpAny_bind (l2.at (wpAny_bind (wpAny_attempt (wpAny_holding ?_))))
  unfold callGetattribute boundAndCalled
  have hx0 : (expr && onTheHeap (Value.builtin "BaseException.__getattribute__")) = false := by cases expr <;> rfl
  rw [if_neg (by rw [hx0]; exact Bool.false_ne_true)]
  refine wpAny_bind (wpAny_of_eq (PySem.F.excAttr_ValueError.ga.bind (.ref x)) ?_)
  have li : Looks (model prog w) hh (isInstance (.ref x) (.type "BaseException")) true := l0.andThen (looks_mroIn X F.bs)
  dsimp only
  refine wpAny_call ?_
  refine codeAny_call_builtin PySem.F.excAttr_ValueError.ga.plain PySem.F.entry_bexc_ga ?_
  have hs := PySem.F.args_bexc_ga (.ref x) (.str name t)
  simp only [List.cons_append, List.nil_append]
  refine check_slot (M := model prog w) (A := A.in1) (i := "BaseException.__getattribute__") (owner := "BaseException") (n := "__getattribute__") (self := .ref x) (rest := [.str name t]) (kw := []) kind_bexc_ga split_bexc_ga ?_ ?_ ?_
  · exact li
  · exact hs
  unfold Builtin.«object.__getattribute__» slotArgs
  simp only [List.isEmpty_nil, Bool.not_true, Bool.false_eq_true, if_false, List.length_cons, List.length_nil, Nat.zero_add, bne_self_eq_false]
  refine wpAny_bind (wpAny_pure ?_)
  dsimp only
  unfold Builtin.ObjectAttr.attrName
  simp only
  refine wpAny_bind (wpAny_pure ?_)
  refine wpAny_bind (l0.at ?_)
  refine wpAny_bind (l3.at ?_)
  dsimp only
  refine wpAny_pure ?_
  exact handed_on hv h
end
section
variable {X : Cx}
/-  e.f within an except's suite -/
def tFldE (K : Frag) (a : Addr) (cls : Value) (dx : Option Addr) (ta : TE) (f : Str) : TE := fun σ H Q => ta σ H fun x H1 => ∃ D d fs v, x = .ref a ∧ cls = .ref D ∧ dx = some d ∧ H1 d = some (.xd fs) ∧ XIsi K D ∧ hasDictIn K D = true ∧ NoAttr K D f ∧ fs.lookup f = some v ∧ Q v H1
theorem pe_fldE {K : Frag} {a : Addr} {cls : Value} {dx : Option Addr} {ps : List (Addr × Obj)} {e : Expr} {f : Str} {pos : Pos} {ta : TE} (hK : X.K = K) (hs : ∃ oe : Obj, (a, oe) ∈ ps ∧ oe.cls = cls ∧ oe.dict = dx ∧ ∃ vs, oe.data = .fields vs) (hp : ∀ p ∈ ps, p ∈ X.pn)
    (he : PE X e ta) (hb : attributeBase e f X.env (eval e X.env) = eval e X.env) : PE X (.Attribute e f pos) (tFldE K a cls dx ta f) := by
  subst hK
  intro pins s σ H Q I h
  refine attr_of hb (thn (he pins s σ H _ I h) fun u s1 ⟨x, H1, I1, rx, D, d, fs, v, ex, ec, ed, hx, F, hd, na, l, q⟩ => ?_)
  subst ex
  obtain rfl : u = Value.ref a := rx
  obtain ⟨oe, hp', hc, hdx, vs, hdat⟩ := hs
  have hp := hp _ hp'
  have hn : notCls oe = true := by
    obtain ⟨c1, d1, dt, sl⟩ := oe
    cases hdat
    rfl
  obtain ⟨mA, N1, r⟩ := I1.hok d _ hx
  obtain ⟨od, ho, hl⟩ := lookIn_ns N1
  obtain ⟨u, hu, ru⟩ := RelO.some_of (v := v) (o := mA f) (by rw [← l]; exact r f)
  have J : InstAt s1.heap a oe D (some od) := ⟨(I1.pin _ (List.mem_append_left _ hp)).1, hc.trans ec, hn, by rw [hdx, ed]; exact ho⟩
  exact get_exc F hd I1.kIn J na (by rw [hl, hu]) (handed_of ru) ⟨v, H1, I1.tok _, ru, q⟩
end
section
variable {X : Cx}
theorem handle_hit {C C' : Addr} {y n : Str} {i : Nat} {np hp : Pos} {suite : List Stmt} {b₀ : Stmt} {rest : List ExceptHandler} {ts : Addr → Value → Option Addr → TS} {pins : List (Addr × Obj)} {σ : St} {H : Hp} {s : Shared} {D : Ends} {a : Addr} {dx : Option Addr} {fl : Value}
    (o : Own X) (hb : XCat X.K C') (hg : Gl X y) (hm : X.mg y = some (.ref C')) (hN : X.N.Nodup) (hi : X.N[i]? = some n) (hk : X.env.kindOf n = some .local)
    (hsuite : ∀ (ps : List (Addr × Obj)) (a : Addr) (cls : Value) (dx : Option Addr), (∃ oe : Obj, (a, oe) ∈ ps ∧ oe.cls = cls ∧ oe.dict = dx ∧ ∃ vs, oe.data = .fields vs) → PSs (X.held a ps) (b₀ :: suite) (ts a cls dx))
    (hdb : (y == ("__debug__" : Str)) = false) (ok : X.Ok) (I3 : Inv (X.pnd pins) [] σ H s) (F3 : FlyT (X.pnd pins) fl H s.heap a (.ref C) dx) (hkc : PySem.W.kitCls X.K (.ref C) (.ref C') = some true) (q : ts a (.ref C) dx (D.gone i) (σ.set i (some (.ref a))) H) :
    wpAny (model X.prog X.w) X.A (handleBy (.ref a) X.env (.ExceptHandler (some (.Name y np)) (some n) (b₀ :: suite) hp :: rest)) (SP X pins D) X.xe s := by
  refine wpAny_handleBy_cons (codeAny_handlers_test ?_) (by intro z; cases z)
  obtain ⟨oe, vs, a0, T, oT, ts', he, hc, hx, hd, h0, h1, nT, hT, hdT, h3, hn, hnT⟩ := id F3
  have J3 := Inv.held I3 ok he hn.1 hd
  refine ld_glob J3 hg hm ?_ hdb
  refine matches_ok (K := X.K) I3.kIn he hc hkc hb ?_
  refine codeAny_handlers_suite_as ?_
  refine flight_ok (X := X.pnd pins) (to := none) o.pnd I3 F3 fun s4 I4 F4 => ?_
  obtain ⟨oe', vs', a0', T', oT', ts'', he', hc', hx', hd', h0', h1', nT', hT', hdT', h3', hn', hnT'⟩ := id F4
  have J4 := Inv.held I4 ok he' hn'.1 hd'
  refine store_ok (X := X.held a (pins ++ [(a, oe')])) (v := .ref a) J4 hN hi (.inl hk) rfl (fun s5 J5 => ?_) (.inr hk)
  refine wpAny_mono (hsuite (pins ++ [(a, oe')]) a (.ref C) dx ⟨oe', by simp, hc', hx', _, hd'⟩ [] s5 _ H (D.gone i) J5 q) (fun f s6 hq => ?_) fun _ _ z => z.elim
  have hq' : SP X pins (D.gone i) f s6 := hq.unheld ok
  cases f with
  | next =>
    obtain ⟨σ', H', J, z⟩ := hq'
    exact goes_ok J hN hi hk fun s7 J7 => ⟨_, _, J7, z⟩
  | brk =>
    obtain ⟨σ', H', J, z⟩ := hq'
    exact goes_ok J hN hi hk fun s7 J7 => ⟨_, _, J7, z⟩
  | cont =>
    obtain ⟨σ', H', J, z⟩ := hq'
    exact goes_ok J hN hi hk fun s7 J7 => ⟨_, _, J7, z⟩
  | ret u =>
    obtain ⟨v, σ', H', J, r, z⟩ := hq'
    exact goes_ok J hN hi hk fun s7 J7 => ⟨_, _, _, J7, r, z⟩
theorem handle_miss {C C' : Addr} {y : Str} {n : Option Str} {np hp : Pos} {suite : List Stmt} {rest : List ExceptHandler} {pins : List (Addr × Obj)} {σ : St} {H : Hp} {s : Shared} {Q : Flow → Shared → Prop} {a : Addr} {dx : Option Addr} {fl : Value}
    (hb : XCat X.K C') (hg : Gl X y) (hm : X.mg y = some (.ref C')) (hdb : (y == ("__debug__" : Str)) = false) (ok : X.Ok) (I3 : Inv (X.pnd pins) [] σ H s) (F3 : FlyT (X.pnd pins) fl H s.heap a (.ref C) dx) (hkc : PySem.W.kitCls X.K (.ref C) (.ref C') = some false)
    (h : wpAny (model X.prog X.w) X.A (handleBy (.ref a) X.env rest) Q X.xe s) :
    wpAny (model X.prog X.w) X.A (handleBy (.ref a) X.env (.ExceptHandler (some (.Name y np)) n suite hp :: rest)) Q X.xe s := by
  refine wpAny_handleBy_cons (codeAny_handlers_test ?_) (by intro z; cases z)
  obtain ⟨oe, vs, a0, T, oT, ts', he, hc, hx, hd, h0, h1, nT, hT, hdT, h3, hn, hnT⟩ := id F3
  have J3 := Inv.held I3 ok he hn.1 hd
  refine ld_glob J3 hg hm ?_ hdb
  refine matches_ok (K := X.K) I3.kIn he hc hkc hb ?_
  exact h
def EEtry2 (K : PySem.W.Frag) (C1 C2 : Addr) (i : Nat) (ts1 ts2 : Addr → Value → Option Addr → TS) (D : Ends) : EEs := fun σ cls dx H => ∃ C, cls = .ref C ∧ ((PySem.W.kitCls K (.ref C) (.ref C1) = some true ∧ ∀ a, H a = none → ts1 a cls dx (D.gone i) (σ.set i (some (.ref a))) H) ∨
  (PySem.W.kitCls K (.ref C) (.ref C1) = some false ∧ PySem.W.kitCls K (.ref C) (.ref C2) = some true ∧ ∀ a, H a = none → ts2 a cls dx (D.gone i) (σ.set i (some (.ref a))) H))
def tTry2 (K : PySem.W.Frag) (C1 C2 : Addr) (i : Nat) (tb : EEs → TS) (ts1 ts2 : Addr → Value → Option Addr → TS) : TS := fun D σ H => tb (EEtry2 K C1 C2 i ts1 ts2 D) D σ H
/-  try: .. except C1 as n: .. except C2 as n: .. -/
theorem ps_tryAs2 {C1 C2 : Addr} {y1 y2 n : Str} {i : Nat} {np1 np2 hp1 hp2 pos : Pos} {body suite1 suite2 : List Stmt} {b1 b2 : Stmt} {tb : EEs → TS} {ts1 ts2 : Addr → Value → Option Addr → TS} (o : Own X) (hb1 : XCat X.K C1) (hg1 : Gl X y1) (hm1 : X.mg y1 = some (.ref C1)) (hb2 : XCat X.K C2) (hg2 : Gl X y2) (hm2 : X.mg y2 = some (.ref C2)) (hN : X.N.Nodup) (hi : X.N[i]? = some n) (hk : X.env.kindOf n = some .local)
    (hbody : ∀ (EE : EEs) (ps : List (Addr × Obj)), PSs ((X.pnd ps).wish (XE (X.pnd ps) EE)) body (tb EE))
    (hsuite1 : ∀ (ps : List (Addr × Obj)) (a : Addr) (cls : Value) (dx : Option Addr), (∃ oe : Obj, (a, oe) ∈ ps ∧ oe.cls = cls ∧ oe.dict = dx ∧ ∃ vs, oe.data = .fields vs) → PSs (X.held a ps) (b1 :: suite1) (ts1 a cls dx))
    (hsuite2 : ∀ (ps : List (Addr × Obj)) (a : Addr) (cls : Value) (dx : Option Addr), (∃ oe : Obj, (a, oe) ∈ ps ∧ oe.cls = cls ∧ oe.dict = dx ∧ ∃ vs, oe.data = .fields vs) → PSs (X.held a ps) (b2 :: suite2) (ts2 a cls dx))
    (hdb1 : (y1 == ("__debug__" : Str)) = false := by decide) (hdb2 : (y2 == ("__debug__" : Str)) = false := by decide) :
    PS X (.Try body [.ExceptHandler (some (.Name y1 np1)) (some n) (b1 :: suite1) hp1, .ExceptHandler (some (.Name y2 np2)) (some n) (b2 :: suite2) hp2] [] [] pos) (tTry2 X.K C1 C2 i tb ts1 ts2) := by
  intro pins s σ H D I h
  have ok := I.ok
  refine wpAny_Try_except (wpAny_mono (hbody (EEtry2 X.K C1 C2 i ts1 ts2 D) pins [] s σ H D (I.pnd.wish _) h) (fun f s1 hq => ?_) fun e s1 hx => ?_)
  · have hq' : SP X pins D f s1 := (SP.unwish hq).unpnd ok
    cases f with
    | next => exact wpAny_execs_nil hq'
    | brk => exact hq'
    | cont => exact hq'
    | ret u => exact hq'
  · obtain ⟨a, cls, dx, σ1, H1, rfl, I1, F1, C, rfl, q⟩ := hx
    refine note_ok (X := X.pnd pins) o.pnd ok.frames I1 F1 fun s2 I2 F2 => ?_
    refine flight_ok (X := X.pnd pins) (to := none) o.pnd I2 F2 fun s3 I3 F3 => ?_
    have hn : H1 a = none := by
      obtain ⟨oe, vs, a0, T, oT, ts', he, hc, hx, hd, h0, h1, nT, hT, hdT, h3, hn, hnT⟩ := id F3
      exact hn.1
    rcases q with ⟨k1, q⟩ | ⟨k1, k2, q⟩
    · exact handle_hit o hb1 hg1 hm1 hN hi hk hsuite1 hdb1 ok I3 F3 k1 (q a hn)
    · exact handle_miss hb1 hg1 hm1 hdb1 ok I3 F3 k1 (handle_hit o hb2 hg2 hm2 hN hi hk hsuite2 hdb2 ok I3 F3 k2 (q a hn))
end
section
variable {P : Program} {w : World} {K : PySem.W.Frag} {mg : Str → Option Value} {base : Heap}
/-  a def that may raise and that makes functions that close over nothing -/
theorem Fun.okXC {x qual : Str} {st : Stmt} {f c : Addr} {fd : FuncData} {N ps : List Str} {k : Nat} {sp : Sp} (F : Fun K x qual st f fd) (hc : fd.code = .ref c) (S : FnScope N ps (defScope st)) (len : ∀ vs H Q E, sp vs H Q E → vs.length = ps.length)
    (hbody : ∀ (A : Around) (outer : List Env) (s : Shared) (H : Hp) (vs : List V) (Q : VK) (E : XK), Room k (A.deeper (envOfC qual (defScope st) s.heap.objs.size f (.ref c))) → sp vs H Q E →
      ∃ t, PSs (cxX P w K mg base N qual (defScope st) f (.ref c) A outer s H E) (defBody st) t ∧ t { nx := fun _ H' => Q .non H', rt := Q } (start N vs) H) : FnOk P w K mg base (CXE P w) (k + 1) f fd ps sp := by
  obtain ⟨oc, od, kV, doc, pm, an, cdv, ct, osl, rfl, lk, hcd⟩ := F.ex
  obtain rfl : cdv = .ref c := hc
  refine fn_of lk hcd S len fun A outer s H vs Q E hr hsp => ?_
  obtain ⟨t, h, q⟩ := hbody A outer s H vs Q E hr hsp
  refine ⟨t, h.wished fun e s' ⟨a, cls, dx, σ, H', he, I, Fl, z⟩ => ?_, q⟩
  subst he
  refine leaving_ok own_cxOf I.ok.frames I Fl fun s2 I2 F2 => ?_
  obtain ⟨oe, vs, a0, T, oT, ts, he, hc, hx, hd, h0, h1, nT, hT, hdT, h3, hn, hnT⟩ := F2
  exact ⟨a, cls, dx, H', oe, vs, a0, T, oT, ts, rfl, I2.os, I2.bare, I2.base, I2.hok, he, hc, hx, hd, h0, h1, nT, hT, hdT, h3, hn.1, hn.2.1, hnT.1, hnT.2.1, z⟩
end
section
variable {X : Cx} {EE : EEs} {k : Nat} {f C : Addr} {fd : FuncData} {ps : List Str} {sp : Sp} {dvs : List V} {ds : List Value} {x m : Str} {p pos apos : Pos} {e o : Expr} {es : List Expr} {ta : TE} {t : TA}
def tMethX (C : Addr) (m : Str) (sp : Sp) (dvs : List V) (EE : EEs) (ta : TE) (t : TA) : TE := fun σ H Q => ta σ H fun x H1 => ∃ a dx fs, x = .ref a ∧ H1 a = some (.ins C dx fs) ∧ fs.lookup m = none ∧
  t σ H1 fun vs H2 => sp (x :: (vs ++ dvs)) H2 Q (EE σ)
/-  o.m(e, ..), m a method that may raise -/
theorem pe_methX {pl : Sem Bool} (ow : Own X) (he : PE (X.wish (XE X EE)) o ta) (c : Cls X.K C) (hm : Meth X.K C m f) (F : FnOk X.prog X.w X.K X.mg X.base (CXE X.prog X.w) k f fd ps sp) (hr : Room k X.A) (hb : Binds X.K fd ps ds) (hd : Vals dvs ds) (ha : PA (X.wish (XE X EE)) (e :: es) t)
    (hst : starEach (e :: es) X.env = (false, eval e X.env) :: starEach es X.env := by rfl) (hpl : (backTo pos (starEach es X.env)).any (·.1) = false := by rfl)
    (ht : eval (.Call (.Attribute o m apos) (e :: es) [] pos) X.env = (do
      let ov ← eval o X.env
      standAt apos.atName
      let (f, first) ← holding [ov] (getMethod ov m pl)
      callWith pos f first (backTo pos (starEach (e :: es) X.env)) (backToKw pos (keywordEach [] X.env))) := by rfl) :
    PE (X.wish (XE X EE)) (.Call (.Attribute o m apos) (e :: es) [] pos) (tMethX C m sp dvs EE ta t) := by
  intro pins s σ H Q I h
  refine PySem.W.methodCall_KW (pl := pl) (thn (he pins s σ H _ I h) fun u s1 ⟨x, H1, I1, rx, a, dx, fs, ex, ea, l, q⟩ => ?_) ht
  subst ex
  obtain rfl : u = Value.ref a := rx
  refine getmeth_ok I1 ea c hm l ?_
  refine PySem.W.callWith_K (first := [.ref a]) (h₀ := X.base) I.ok.mod.kin hm.kp (thn (ha pos pins s1 σ H1 _ I1 q) fun us s2 ⟨vs, H2, I2, r, q2⟩ => ⟨I2.kIn, ?_⟩) hst hpl
  exact run_fnX (us := .ref a :: us) (vs := .ref a :: vs) ow F hr hb hd I2 (.cons rfl r) q2
/-  o.m() -/
theorem pe_methX0 {pl : Sem Bool} (ow : Own X) (he : PE (X.wish (XE X EE)) o ta) (c : Cls X.K C) (hm : Meth X.K C m f) (F : FnOk X.prog X.w X.K X.mg X.base (CXE X.prog X.w) k f fd ps sp) (hr : Room k X.A) (hb : Binds X.K fd ps ds) (hd : Vals dvs ds)
    (ht : eval (.Call (.Attribute o m apos) [] [] pos) X.env = (do
      let ov ← eval o X.env
      standAt apos.atName
      let (f, first) ← holding [ov] (getMethod ov m pl)
      callWith pos f first (backTo pos (starEach [] X.env)) (backToKw pos (keywordEach [] X.env))) := by rfl) :
    PE (X.wish (XE X EE)) (.Call (.Attribute o m apos) [] [] pos) (tMethX C m sp dvs EE ta tNil) := by
  intro pins s σ H Q I h
  refine PySem.W.methodCall_KW (pl := pl) (thn (he pins s σ H _ I h) fun u s1 ⟨x, H1, I1, rx, a, dx, fs, ex, ea, l, q⟩ => ?_) ht
  subst ex
  obtain rfl : u = Value.ref a := rx
  refine getmeth_ok I1 ea c hm l ?_
  exact PySem.W.callWith_K0 (first := [.ref a]) I1.kIn hm.kp (run_fnX (us := [.ref a]) (vs := [.ref a]) ow F hr hb hd I1 (.cons rfl .nil) q)
end
/-  the function at f, called with vs, comes to Q: whichever it is -/
def FnV (P : Program) (w : World) (K : PySem.W.Frag) (mg : Str → Option Value) (base : Heap) (k : Nat) (H : Hp) (f : Addr) (vs : List V) (Q : VK) : Prop :=
  ∃ nm qual params body scope ps sp fv, CloOk P w K mg base CX0 k nm qual params body scope ps sp ∧ CloAt H f nm qual params body scope fv ∧ sp fv vs H Q E0
section
variable {X : Cx} {k : Nat} {x : Str} {p pos : Pos} {e : Expr} {es : List Expr} {t : TA}
def tCallG (X : Cx) (k : Nat) (i : Nat) (t : TA) : TE := fun σ H Q => ∃ f, σ[i]? = some (some (.ref f)) ∧ (∃ nm qual params body scope fv, CloAt H f nm qual params body scope fv) ∧ t σ H fun vs H1 => FnV X.prog X.w X.K X.mg X.base k H1 f vs Q
theorem pe_callG (i : Nat) (hr : Room k X.A) (ha : PA X (e :: es) t) (hN : X.N[i]? = some x := by rfl) (hv : Vis X.env.scope x := by first | exact Or.inl rfl | exact Or.inr (Or.inl rfl) | exact Or.inr (Or.inr rfl)) (hd : (x == ("__debug__" : Str)) = false := by decide)
    (hcd : (x == ("__classdict__" : Str)) = false := by decide) (he : starEach (e :: es) X.env = (false, eval e X.env) :: starEach es X.env := by rfl) (hpl : (backTo pos (starEach es X.env)).any (·.1) = false := by rfl) :
    PE X (.Call (.Name x p) (e :: es) [] pos) (tCallG X k i t) := by
  intro pins s σ H Q I h
  obtain ⟨f, e1, ⟨_, _, _, _, _, _, hc0⟩, h⟩ := h
  refine wpAny_Call_Name_kw (thn (pe_var (pos := p) hN hv hd hcd pins s σ H (fun v H1 => v = .ref f ∧ H1 = H) I ⟨_, e1, rfl, rfl⟩) fun u s1 ⟨v, H1, I1, r, q1, q2⟩ => ?_)
  subst q1; subst q2
  cases (show u = Value.ref f from r)
  refine PySem.W.callWith_F (hc0.fn I1) (thn (ha pos pins s1 σ H1 _ I1 h) fun us s2 ⟨vs, H2, I2, r2, q⟩ => ?_) he hpl
  obtain ⟨nm, qual, params, body, scope, ps, sp, fv, F, hc, q⟩ := q
  exact ⟨hc.fn I2, run_clo F hr pass0 I2 hc r2 q⟩
end
end L2

namespace K01
open PySem PySem.Spec PyProof.Rows L2
/-! the text by places -/
def top (i : Nat) : Stmt := PySem.Challenge.pw_oneroom_k01_a_store.main.body.getD i (.Pass ⟨0, 0, 0, 0⟩)
abbrev s_OutOfRoom_init : Stmt := inClass (top 3) 0
abbrev s_Fallen_init : Stmt := inClass (top 4) 0
abbrev s_Pen_init : Stmt := inClass (top 6) 0
abbrev s_Pen_write_into : Stmt := inClass (top 6) 1
abbrev s_Pen_answer_of_fall : Stmt := inClass (top 6) 2
abbrev s_Store_init : Stmt := inClass (top 7) 0
abbrev s_Store_read : Stmt := inClass (top 7) 1
abbrev s_Store_write : Stmt := inClass (top 7) 2
abbrev s_Store_mark : Stmt := inClass (top 7) 3
abbrev s_Store_noted : Stmt := inClass (top 7) 4
abbrev s_Store_begin : Stmt := inClass (top 7) 5
abbrev s_Store_told : Stmt := inClass (top 7) 6
abbrev s_Store_refuse_lacking : Stmt := inClass (top 7) 8
abbrev s_Store_note_down : Stmt := inClass (top 7) 9
abbrev s_cell_at : Stmt := top 9
abbrev s_mixed : Stmt := top 10
abbrev s_fall_at : Stmt := top 11
abbrev s_refused : Stmt := top 12
abbrev s_noted : Stmt := top 13
abbrev s_begun : Stmt := top 14
abbrev s_written : Stmt := top 15
abbrev s_deed : Stmt := top 16
abbrev s_law : Stmt := top 17
abbrev c_Store_write : Addr := 135
abbrev P_Store_write : Addr := 131
def qs_Store_write : List (Pos × Str) := [(⟨51, 50, 51, 69⟩, "Store.write.<locals>.<lambda>")]
abbrev c_Store_note_down : Addr := 182
abbrev P_Store_note_down : Addr := 178
def qs_Store_note_down : List (Pos × Str) := [(⟨74, 52, 74, 70⟩, "Store.note_down.<locals>.<lambda>")]
abbrev c_law : Addr := 250
abbrev P_law : Addr := 248
def qs_law : List (Pos × Str) := [(⟨171, 36, 171, 91⟩, "law.<locals>.<lambda>")]
structure Adr where
  f_OutOfRoom_init : Addr
  d_OutOfRoom_init : FuncData
  f_Fallen_init : Addr
  d_Fallen_init : FuncData
  f_Pen_init : Addr
  d_Pen_init : FuncData
  f_Pen_write_into : Addr
  d_Pen_write_into : FuncData
  f_Pen_answer_of_fall : Addr
  d_Pen_answer_of_fall : FuncData
  f_Store_init : Addr
  d_Store_init : FuncData
  f_Store_read : Addr
  d_Store_read : FuncData
  f_Store_write : Addr
  d_Store_write : FuncData
  f_Store_mark : Addr
  d_Store_mark : FuncData
  f_Store_noted : Addr
  d_Store_noted : FuncData
  f_Store_begin : Addr
  d_Store_begin : FuncData
  f_Store_told : Addr
  d_Store_told : FuncData
  f_Store_refuse_lacking : Addr
  d_Store_refuse_lacking : FuncData
  f_Store_note_down : Addr
  d_Store_note_down : FuncData
  f_cell_at : Addr
  d_cell_at : FuncData
  f_mixed : Addr
  d_mixed : FuncData
  f_fall_at : Addr
  d_fall_at : FuncData
  f_refused : Addr
  d_refused : FuncData
  f_noted : Addr
  d_noted : FuncData
  f_begun : Addr
  d_begun : FuncData
  f_written : Addr
  d_written : FuncData
  f_deed : Addr
  d_deed : FuncData
  f_law : Addr
  d_law : FuncData
  C_Pen : Addr
  C_Store : Addr
  C_Fallen : Addr
  C_OutOfRoom : Addr
  C_RoomError : Addr
structure Txt (K : PySem.W.Frag) (mg : Str → Option Value) (a : Adr) : Prop where
  F_OutOfRoom_init : Fun K "__init__" "OutOfRoom.__init__" s_OutOfRoom_init a.f_OutOfRoom_init a.d_OutOfRoom_init
  b_OutOfRoom_init : Binds K a.d_OutOfRoom_init ["self", "at"] []
  F_Fallen_init : Fun K "__init__" "Fallen.__init__" s_Fallen_init a.f_Fallen_init a.d_Fallen_init
  b_Fallen_init : Binds K a.d_Fallen_init ["self", "count"] []
  F_Pen_init : Fun K "__init__" "Pen.__init__" s_Pen_init a.f_Pen_init a.d_Pen_init
  b_Pen_init : Binds K a.d_Pen_init ["self", "fall"] []
  F_Pen_write_into : Fun K "write_into" "Pen.write_into" s_Pen_write_into a.f_Pen_write_into a.d_Pen_write_into
  b_Pen_write_into : Binds K a.d_Pen_write_into ["self", "kept", "at", "value", "torn"] []
  F_Pen_answer_of_fall : Fun K "answer_of_fall" "Pen.answer_of_fall" s_Pen_answer_of_fall a.f_Pen_answer_of_fall a.d_Pen_answer_of_fall
  b_Pen_answer_of_fall : Binds K a.d_Pen_answer_of_fall ["self", "count"] []
  F_Store_init : FunD K "__init__" "Store.__init__" s_Store_init a.f_Store_init a.d_Store_init [.none]
  bd_Store_init : Binds K a.d_Store_init ["self", "cells", "fall"] [.none]
  b_Store_init : Binds K a.d_Store_init ["self", "cells", "fall"] []
  F_Store_read : Fun K "read" "Store.read" s_Store_read a.f_Store_read a.d_Store_read
  b_Store_read : Binds K a.d_Store_read ["self", "at"] []
  F_Store_write : Fun K "write" "Store.write" s_Store_write a.f_Store_write a.d_Store_write
  b_Store_write : Binds K a.d_Store_write ["self", "at", "sign"] []
  tk_Store_write : TabK K c_Store_write P_Store_write
  cd_Store_write : a.d_Store_write.code = .ref c_Store_write
  F_Store_mark : Fun K "mark" "Store.mark" s_Store_mark a.f_Store_mark a.d_Store_mark
  b_Store_mark : Binds K a.d_Store_mark ["self", "number"] []
  F_Store_noted : Fun K "noted" "Store.noted" s_Store_noted a.f_Store_noted a.d_Store_noted
  b_Store_noted : Binds K a.d_Store_noted ["self"] []
  F_Store_begin : Fun K "begin" "Store.begin" s_Store_begin a.f_Store_begin a.d_Store_begin
  b_Store_begin : Binds K a.d_Store_begin ["self"] []
  F_Store_told : Fun K "told" "Store.told" s_Store_told a.f_Store_told a.d_Store_told
  b_Store_told : Binds K a.d_Store_told ["self"] []
  F_Store_refuse_lacking : Fun K "refuse_lacking" "Store.refuse_lacking" s_Store_refuse_lacking a.f_Store_refuse_lacking a.d_Store_refuse_lacking
  b_Store_refuse_lacking : Binds K a.d_Store_refuse_lacking ["self", "at"] []
  F_Store_note_down : Fun K "note_down" "Store.note_down" s_Store_note_down a.f_Store_note_down a.d_Store_note_down
  b_Store_note_down : Binds K a.d_Store_note_down ["self", "at", "number"] []
  tk_Store_note_down : TabK K c_Store_note_down P_Store_note_down
  cd_Store_note_down : a.d_Store_note_down.code = .ref c_Store_note_down
  F_cell_at : Fun K "_law_cell_at" "_law_cell_at" s_cell_at a.f_cell_at a.d_cell_at
  b_cell_at : Binds K a.d_cell_at ["_law_script", "_law_k"] []
  m_cell_at : mg "_law_cell_at" = some (.ref a.f_cell_at)
  F_mixed : Fun K "_law_mixed" "_law_mixed" s_mixed a.f_mixed a.d_mixed
  b_mixed : Binds K a.d_mixed ["_law_cell", "_law_k"] []
  m_mixed : mg "_law_mixed" = some (.ref a.f_mixed)
  F_fall_at : Fun K "_law_fall_at" "_law_fall_at" s_fall_at a.f_fall_at a.d_fall_at
  b_fall_at : Binds K a.d_fall_at ["_law_cell", "_law_count"] []
  m_fall_at : mg "_law_fall_at" = some (.ref a.f_fall_at)
  F_refused : Fun K "_law_refused" "_law_refused" s_refused a.f_refused a.d_refused
  b_refused : Binds K a.d_refused ["_law_store", "_law_deed_here", "_law_at", "_law_sign"] []
  m_refused : mg "_law_refused" = some (.ref a.f_refused)
  F_noted : Fun K "_law_noted" "_law_noted" s_noted a.f_noted a.d_noted
  b_noted : Binds K a.d_noted ["_law_stand", "_law_which", "_law_number", "_law_cell"] []
  m_noted : mg "_law_noted" = some (.ref a.f_noted)
  F_begun : Fun K "_law_begun" "_law_begun" s_begun a.f_begun a.d_begun
  b_begun : Binds K a.d_begun ["_law_store", "_law_stand", "_law_cell"] []
  m_begun : mg "_law_begun" = some (.ref a.f_begun)
  F_written : Fun K "_law_written" "_law_written" s_written a.f_written a.d_written
  b_written : Binds K a.d_written ["_law_store", "_law_stand", "_law_at", "_law_sign", "_law_cell"] []
  m_written : mg "_law_written" = some (.ref a.f_written)
  F_deed : Fun K "_law_deed" "_law_deed" s_deed a.f_deed a.d_deed
  b_deed : Binds K a.d_deed ["_law_store", "_law_stand", "_law_cell", "_law_falls", "_law_k"] []
  m_deed : mg "_law_deed" = some (.ref a.f_deed)
  F_law : Fun K "law" "law" s_law a.f_law a.d_law
  b_law : Binds K a.d_law ["_law_script"] []
  tk_law : TabK K c_law P_law
  cd_law : a.d_law.code = .ref c_law
  m_Pen : mg "Pen" = some (.ref a.C_Pen)
  c_Pen : Cls K a.C_Pen
  na_Pen_asked : NoAttr K a.C_Pen "asked"
  na_Pen_fall : NoAttr K a.C_Pen "fall"
  mk_Pen : Mk K a.C_Pen a.f_Pen_init
  m_Store : mg "Store" = some (.ref a.C_Store)
  c_Store : Cls K a.C_Store
  na_Store_cells : NoAttr K a.C_Store "cells"
  na_Store_notes : NoAttr K a.C_Store "notes"
  na_Store_pen : NoAttr K a.C_Store "pen"
  mk_Store : Mk K a.C_Store a.f_Store_init
  m_Fallen : mg "Fallen" = some (.ref a.C_Fallen)
  m_OutOfRoom : mg "OutOfRoom" = some (.ref a.C_OutOfRoom)
  m_RoomError : mg "RoomError" = some (.ref a.C_RoomError)
  xn_Fallen : XIni K a.C_Fallen a.f_Fallen_init
  hd_Fallen : PySem.W.hasDictIn K a.C_Fallen = true
  na_Fallen_count : NoAttr K a.C_Fallen "count"
  kc_Fallen_Fallen : PySem.W.kitCls K (.ref a.C_Fallen) (.ref a.C_Fallen) = some true
  kc_Fallen_OutOfRoom : PySem.W.kitCls K (.ref a.C_Fallen) (.ref a.C_OutOfRoom) = some false
  ik_Fallen_ValueError : PySem.W.kitOne K (.ref a.C_Fallen) (.type "ValueError") = some true
  xi_Fallen : XIsi K a.C_Fallen
  xn_OutOfRoom : XIni K a.C_OutOfRoom a.f_OutOfRoom_init
  hd_OutOfRoom : PySem.W.hasDictIn K a.C_OutOfRoom = true
  na_OutOfRoom_at : NoAttr K a.C_OutOfRoom "at"
  kc_OutOfRoom_Fallen : PySem.W.kitCls K (.ref a.C_OutOfRoom) (.ref a.C_Fallen) = some false
  kc_OutOfRoom_OutOfRoom : PySem.W.kitCls K (.ref a.C_OutOfRoom) (.ref a.C_OutOfRoom) = some true
  ik_OutOfRoom_ValueError : PySem.W.kitOne K (.ref a.C_OutOfRoom) (.type "ValueError") = some true
  xi_OutOfRoom : XIsi K a.C_OutOfRoom
  xc_Fallen : XCat K a.C_Fallen
  xc_OutOfRoom : XCat K a.C_OutOfRoom
  ik_Fallen_OutOfRoom : PySem.W.kitOne K (.ref a.C_Fallen) (.ref a.C_OutOfRoom) = some false
  ik_Fallen_RoomError : PySem.W.kitOne K (.ref a.C_Fallen) (.ref a.C_RoomError) = some true
  ik_OutOfRoom_OutOfRoom : PySem.W.kitOne K (.ref a.C_OutOfRoom) (.ref a.C_OutOfRoom) = some true
  ik_OutOfRoom_RoomError : PySem.W.kitOne K (.ref a.C_OutOfRoom) (.ref a.C_RoomError) = some true
  me_Pen_answer_of_fall : Meth K a.C_Pen "answer_of_fall" a.f_Pen_answer_of_fall
  me_Pen_write_into : Meth K a.C_Pen "write_into" a.f_Pen_write_into
  me_Store_begin : Meth K a.C_Store "begin" a.f_Store_begin
  me_Store_mark : Meth K a.C_Store "mark" a.f_Store_mark
  me_Store_note_down : Meth K a.C_Store "note_down" a.f_Store_note_down
  me_Store_noted : Meth K a.C_Store "noted" a.f_Store_noted
  me_Store_read : Meth K a.C_Store "read" a.f_Store_read
  me_Store_refuse_lacking : Meth K a.C_Store "refuse_lacking" a.f_Store_refuse_lacking
  me_Store_told : Meth K a.C_Store "told" a.f_Store_told
  me_Store_write : Meth K a.C_Store "write" a.f_Store_write
  n_ValueError : mg "ValueError" = none
  n_isinstance : mg "isinstance" = none
  n_len : mg "len" = none
  n_list : mg "list" = none
  n_max : mg "max" = none
  n_min : mg "min" = none
  n_range : mg "range" = none
  n_tuple : mg "tuple" = none
theorem sc_OutOfRoom_init : FnScope ["self", "at"] ["self", "at"] (defScope s_OutOfRoom_init) := ⟨rfl, rfl, rfl, by decide +kernel, rfl, by decide +kernel, by decide +kernel⟩
theorem sc_Fallen_init : FnScope ["self", "count"] ["self", "count"] (defScope s_Fallen_init) := ⟨rfl, rfl, rfl, by decide +kernel, rfl, by decide +kernel, by decide +kernel⟩
theorem sc_Pen_init : FnScope ["self", "fall"] ["self", "fall"] (defScope s_Pen_init) := ⟨rfl, rfl, rfl, by decide +kernel, rfl, by decide +kernel, by decide +kernel⟩
theorem sc_Pen_write_into : FnScope ["self", "kept", "at", "value", "torn", "count", "answer"] ["self", "kept", "at", "value", "torn"] (defScope s_Pen_write_into) := ⟨rfl, rfl, rfl, by decide +kernel, rfl, by decide +kernel, by decide +kernel⟩
theorem sc_Pen_answer_of_fall : FnScope ["self", "count", "fall"] ["self", "count"] (defScope s_Pen_answer_of_fall) := ⟨rfl, rfl, rfl, by decide +kernel, rfl, by decide +kernel, by decide +kernel⟩
theorem sc_Store_init : FnScope ["self", "cells", "fall"] ["self", "cells", "fall"] (defScope s_Store_init) := ⟨rfl, rfl, rfl, by decide +kernel, rfl, by decide +kernel, by decide +kernel⟩
theorem sc_Store_read : FnScope ["self", "at"] ["self", "at"] (defScope s_Store_read) := ⟨rfl, rfl, rfl, by decide +kernel, rfl, by decide +kernel, by decide +kernel⟩
theorem sc_Store_write : FnScope ["self", "at", "sign"] ["self", "at", "sign"] (defScope s_Store_write) := ⟨rfl, rfl, rfl, by decide +kernel, rfl, by decide +kernel, by decide +kernel⟩
theorem sc_Store_mark : FnScope ["self", "number"] ["self", "number"] (defScope s_Store_mark) := ⟨rfl, rfl, rfl, by decide +kernel, rfl, by decide +kernel, by decide +kernel⟩
theorem sc_Store_noted : FnScope ["self"] ["self"] (defScope s_Store_noted) := ⟨rfl, rfl, rfl, by decide +kernel, rfl, by decide +kernel, by decide +kernel⟩
theorem sc_Store_begin : FnScope ["self"] ["self"] (defScope s_Store_begin) := ⟨rfl, rfl, rfl, by decide +kernel, rfl, by decide +kernel, by decide +kernel⟩
theorem sc_Store_told : FnScope ["self"] ["self"] (defScope s_Store_told) := ⟨rfl, rfl, rfl, by decide +kernel, rfl, by decide +kernel, by decide +kernel⟩
theorem sc_Store_refuse_lacking : FnScope ["self", "at"] ["self", "at"] (defScope s_Store_refuse_lacking) := ⟨rfl, rfl, rfl, by decide +kernel, rfl, by decide +kernel, by decide +kernel⟩
theorem sc_Store_note_down : FnScope ["self", "at", "number"] ["self", "at", "number"] (defScope s_Store_note_down) := ⟨rfl, rfl, rfl, by decide +kernel, rfl, by decide +kernel, by decide +kernel⟩
theorem sc_cell_at : FnScope ["_law_script", "_law_k"] ["_law_script", "_law_k"] (defScope s_cell_at) := ⟨rfl, rfl, rfl, by decide +kernel, rfl, by decide +kernel, by decide +kernel⟩
theorem sc_mixed : FnScope ["_law_cell", "_law_k", "_law_number"] ["_law_cell", "_law_k"] (defScope s_mixed) := ⟨rfl, rfl, rfl, by decide +kernel, rfl, by decide +kernel, by decide +kernel⟩
theorem sc_fall_at : FnScope ["_law_cell", "_law_count", "_law_draw"] ["_law_cell", "_law_count"] (defScope s_fall_at) := ⟨rfl, rfl, rfl, by decide +kernel, rfl, by decide +kernel, by decide +kernel⟩
theorem sc_refused : FnScope ["_law_store", "_law_deed_here", "_law_at", "_law_sign", "_law_kinds", "e"] ["_law_store", "_law_deed_here", "_law_at", "_law_sign"] (defScope s_refused) := ⟨rfl, rfl, rfl, by decide +kernel, rfl, by decide +kernel, by decide +kernel⟩
theorem sc_noted : FnScope ["_law_stand", "_law_which", "_law_number", "_law_cell", "_law_cells", "_law_notes", "_law_asked", "_law_how"] ["_law_stand", "_law_which", "_law_number", "_law_cell"] (defScope s_noted) := ⟨rfl, rfl, rfl, by decide +kernel, rfl, by decide +kernel, by decide +kernel⟩
theorem sc_begun : FnScope ["_law_store", "_law_stand", "_law_cell", "_law_behind", "_law_due"] ["_law_store", "_law_stand", "_law_cell"] (defScope s_begun) := ⟨rfl, rfl, rfl, by decide +kernel, rfl, by decide +kernel, by decide +kernel⟩
theorem sc_written : FnScope ["_law_store", "_law_stand", "_law_at", "_law_sign", "_law_cell", "_law_cells", "_law_notes", "_law_asked", "_law_how", "_law_due"] ["_law_store", "_law_stand", "_law_at", "_law_sign", "_law_cell"] (defScope s_written) := ⟨rfl, rfl, rfl, by decide +kernel, rfl, by decide +kernel, by decide +kernel⟩
theorem sc_deed : FnScope ["_law_store", "_law_stand", "_law_cell", "_law_falls", "_law_k", "_law_draw", "_law_size", "_law_sign", "_law_at", "_law_due", "_law_number", "_law_behind"] ["_law_store", "_law_stand", "_law_cell", "_law_falls", "_law_k"] (defScope s_deed) := ⟨rfl, rfl, rfl, by decide +kernel, rfl, by decide +kernel, by decide +kernel⟩
theorem sc_law : FnScope ["_law_script", "_law_cell", "_law_falls", "_law_sizes", "_law_cells", "_law_handed", "_law_store", "_law_quiet", "_law_stand", "_law_k", "_law_told"] ["_law_script"] (defScope s_law) := ⟨rfl, rfl, rfl, by decide +kernel, rfl, by decide +kernel, by decide +kernel⟩
def mixed (c k : Int) : Int :=
  let n := (c % 2147483647 + 7919 * k + 1) * 48271 % 2147483647
  n * (n / 1009 + 69621) % 2147483647
def cellAt (ns : List Int) (k : Int) : Int := if k < ns.length then ns.getD k.toNat 0 else 0
def sp_cell_at (K : PySem.W.Frag) : Sp := fun vs H Q _ => ∃ (l : Addr) (ns : List Int) (k : Int), vs = [.ref l, .int k] ∧ SqL K H l (ns.map V.int) ∧ 0 ≤ k ∧ Q (.int (cellAt ns k)) H
def sp_mixed : Sp := fun vs H Q _ => ∃ c k : Int, vs = [.int c, .int k] ∧ Q (.int (mixed c k)) H
abbrev nOk (n : Int) : Prop := 0 ≤ n ∧ n ≤ 1000
/-  how a fall answers: nothing, (), (sign,) -/
abbrev How := Option (Option Int)
def fallAt (c n : Int) : How := if mixed c n % 4 > 0 then none else if mixed c n / 4 % 2 = 0 then some none else some (some (c / (n + 1) % 10 ^ 60))
def HowV (H : Hp) (v : V) : How → Prop
  | none => v = .non
  | some none => ∃ t, v = .ref t ∧ H t = some (.tup [])
  | some (some s) => ∃ t, v = .ref t ∧ H t = some (.tup [.int s])
def sp_fall_at : Sp := fun vs H Q _ => ∃ c n : Int, vs = [.int c, .int n] ∧ nOk n ∧ ∀ v H', Same H H' → HowV H' v (fallAt c n) → Q v H'
def exprVal : Stmt → Expr
  | .Expr v _ => v
  | _ => .Constant .none 0 ⟨0, 0, 0, 0⟩
abbrev e_lamL : Expr := callArg 1 (asgVal ((defBody s_law).getD 5 (.Pass ⟨0, 0, 0, 0⟩)))
abbrev e_lamW : Expr := callArg 3 (exprVal ((defBody s_Store_write).getD 1 (.Pass ⟨0, 0, 0, 0⟩)))
abbrev e_lamN : Expr := callArg 3 (exprVal ((defBody s_Store_note_down).getD 0 (.Pass ⟨0, 0, 0, 0⟩)))
theorem sc_lamL : CloScope ["_law_count", "_law_falls"] ["_law_count"] ["_law_falls"] (lamScope e_lamL) := ⟨rfl, rfl, rfl, by decide +kernel, rfl, by decide +kernel, by decide +kernel, by decide +kernel⟩
theorem sc_lamW : CloScope ["other"] ["other"] [] (lamScope e_lamW) := ⟨rfl, rfl, rfl, by decide +kernel, rfl, by decide +kernel, by decide +kernel, by decide +kernel⟩
theorem sc_lamN : CloScope ["other"] ["other"] [] (lamScope e_lamN) := ⟨rfl, rfl, rfl, by decide +kernel, rfl, by decide +kernel, by decide +kernel, by decide +kernel⟩
abbrev LamL (H : Hp) (f : Addr) (fv : List (Str × V)) : Prop := CloAt H f "<lambda>" "law.<locals>.<lambda>" (lamArgs e_lamL) (.expr (lamBody e_lamL)) (lamScope e_lamL) fv
abbrev LamW (H : Hp) (f : Addr) (fv : List (Str × V)) : Prop := CloAt H f "<lambda>" "Store.write.<locals>.<lambda>" (lamArgs e_lamW) (.expr (lamBody e_lamW)) (lamScope e_lamW) fv
abbrev LamN (H : Hp) (f : Addr) (fv : List (Str × V)) : Prop := CloAt H f "<lambda>" "Store.note_down.<locals>.<lambda>" (lamArgs e_lamN) (.expr (lamBody e_lamN)) (lamScope e_lamN) fv
def sp_lamL : List (Str × V) → Sp := fun fv vs H Q _ => ∃ c n : Int, fv = ([("_law_falls", .int c)] : List (Str × V)) ∧ vs = [.int n] ∧ nOk n ∧ ∀ v H', Same H H' → HowV H' v (fallAt c n) → Q v H'
def sp_lamW : List (Str × V) → Sp := fun fv vs H Q _ => ∃ v : V, fv = ([] : List (Str × V)) ∧ vs = [v] ∧ Q v H
def sp_lamN : List (Str × V) → Sp := fun fv vs H Q _ => ∃ v : V, fv = ([] : List (Str × V)) ∧ vs = [v] ∧ Q .non H
/-  the heap but for what lies at S -/
def Kp (S : List Addr) (H H' : Hp) : Prop := ∀ b u, H b = some u → b ∉ S → H' b = some u
theorem Kp.of {S : List Addr} {H H' : Hp} (s : Same H H') : Kp S H H' := fun b u e _ => s b u e
theorem Kp.trans {S : List Addr} {H H1 H2 : Hp} (h : Kp S H H1) (g : Kp S H1 H2) : Kp S H H2 := fun b u e n => g b u (h b u e n) n
theorem Kp.mono {S S' : List Addr} {H H1 : Hp} (h : Kp S H H1) (m : ∀ x ∈ S, x ∈ S') : Kp S' H H1 := fun b u e n => h b u e fun z => n (m b z)
theorem Kp.wr {S : List Addr} {H H1 : Hp} {p : Addr} {o : HO} (h : Kp S H H1) (m : p ∈ S) : Kp S H (upd H1 p o) := fun b u e n => by
  rw [upd_ne (fun z => n (by rw [z]; exact m))]; exact h b u e n
theorem Kp.mk {S : List Addr} {H H1 : Hp} {p : Addr} {o : HO} (h : Kp S H H1) (m : H p = none) : Kp S H (upd H1 p o) := fun b u e n => by
  rw [upd_ne (ne_of_none e m)]; exact h b u e n
theorem Kp.same {S : List Addr} {H H1 H2 : Hp} (h : Kp S H H1) (s : Same H1 H2) : Kp S H H2 := h.trans (.of s)
def isMu : HO → Prop
  | .ins _ _ _ => True
  | .lst _ => True
  | _ => False
theorem CloAt.kp {H H' : Hp} {S : List Addr} {f : Addr} {nm qual : Str} {params : Arguments} {body : FuncBody} {scope : Scope} {fv : List (Str × V)} (h : CloAt H f nm qual params body scope fv) (mu : ∀ x ∈ S, ∃ u, H x = some u ∧ isMu u) (k : Kp S H H') : CloAt H' f nm qual params body scope fv := by
  have e : ∀ b u, H b = some u → ¬ isMu u → H' b = some u := fun b u q n => k b u q fun z => by
    obtain ⟨u', q', m⟩ := mu b z
    rw [q] at q'; cases q'; exact n m
  obtain ⟨clos, c, o, u, u', vs, t, doc, pm, ctv, h1, h2, h3, h4, h5, h6, h7, h8⟩ := h
  exact ⟨clos, c, o, u, u', vs, t, doc, pm, ctv, e _ _ h1 (fun z => z), e _ _ h2 (fun z => z), h3, h4, h5, h6, fun x v m => let ⟨a, q1, q2⟩ := h7 x v m; ⟨a, q1, e _ _ q2 (fun z => z)⟩, fun x a q => let ⟨v, q2⟩ := h8 x a q; ⟨v, e _ _ q2 (fun z => z)⟩⟩
def FallV (H : Hp) (fl : V) : Option Int → Prop
  | none => fl = .non
  | some c => ∃ f, fl = .ref f ∧ LamL H f [("_law_falls", .int c)]
theorem FallV.kp {H H' : Hp} {S : List Addr} {fl : V} {oc : Option Int} (h : FallV H fl oc) (mu : ∀ x ∈ S, ∃ u, H x = some u ∧ isMu u) (k : Kp S H H') : FallV H' fl oc := by
  cases oc with
  | none => exact h
  | some c => obtain ⟨f, h1, h2⟩ := h; exact ⟨f, h1, CloAt.kp h2 mu k⟩
def howOf (oc : Option Int) (n : Int) : How := match oc with
  | none => none
  | some c => fallAt c n
/-  what tears: the sign itself, or nothing -/
def TornV (H : Hp) (g : Addr) (tf : Int → V) : Prop := (LamW H g [] ∧ tf = fun s => .int s) ∨ (LamN H g [] ∧ tf = fun _ => .non)
abbrev penF (n : Int) (fl : V) : List (Str × V) := [("asked", .int n), ("fall", fl)]
def sp_Pen_init (a : Adr) : Sp := fun vs H Q _ => ∃ (p dp : Addr) (fl : V), vs = [.ref p, fl] ∧ H p = some (.ins a.C_Pen dp []) ∧ Q .non (upd H p (.ins a.C_Pen dp (penF 0 fl)))
def sp_Pen_answer_of_fall (a : Adr) : Sp := fun vs H Q _ => ∃ (p dp : Addr) (n m : Int) (fl : V) (oc : Option Int), vs = [.ref p, .int n] ∧ nOk n ∧ H p = some (.ins a.C_Pen dp (penF m fl)) ∧ FallV H fl oc ∧ ∀ v H', Same H H' → HowV H' v (howOf oc n) → Q v H'
def tornL (tf : Int → V) (xs : List V) (i : Nat) (val : V) : How → List V
  | none => xs.set i val
  | some none => xs
  | some (some s) => xs.set i (tf s)
def sp_Pen_write_into (a : Adr) : Sp := fun vs H Q E => ∃ (p dp l g : Addr) (i n : Int) (val fl : V) (xs : List V) (oc : Option Int) (tf : Int → V), vs = [.ref p, .ref l, .int i, val, .ref g] ∧ H p = some (.ins a.C_Pen dp (penF n fl)) ∧ nOk n ∧ FallV H fl oc ∧ H l = some (.lst xs) ∧ 0 ≤ i ∧ i < xs.length ∧ TornV H g tf ∧
  (howOf oc n = none → ∀ H', Kp [p, l] H H' → H' p = some (.ins a.C_Pen dp (penF (n + 1) fl)) → H' l = some (.lst (xs.set i.toNat val)) → Q .non H') ∧
  (howOf oc n ≠ none → ∀ d H', Kp [p, l] H H' → H' p = some (.ins a.C_Pen dp (penF (n + 1) fl)) → H' l = some (.lst (tornL tf xs i.toNat val (howOf oc n))) → H d = none → H' d = some (.xd [("count", .int n)]) → E (.ref a.C_Fallen) (some d) H')
structure SA where
  st : Addr
  dx : Addr
  ca : Addr
  na : Addr
  p : Addr
  dp : Addr
def nV : Option Int → V
  | none => .non
  | some i => .int i
abbrev SS (S : SA) : List Addr := [S.ca, S.na, S.p]
abbrev stF (S : SA) : List (Str × V) := [("cells", .ref S.ca), ("notes", .ref S.na), ("pen", .ref S.p)]
/-  a store -/
structure StAt (a : Adr) (H : Hp) (S : SA) (cells : List Int) (notes : List (Option Int)) (n : Int) (fl : V) : Prop where
  st : H S.st = some (.ins a.C_Store S.dx (stF S))
  ca : H S.ca = some (.lst (cells.map V.int))
  na : H S.na = some (.lst (notes.map nV))
  p : H S.p = some (.ins a.C_Pen S.dp (penF n fl))
  ne : S.ca ≠ S.na
  np : S.p ≠ S.st
theorem StAt.mu {a : Adr} {H : Hp} {S : SA} {cells : List Int} {notes : List (Option Int)} {n : Int} {fl : V} (h : StAt a H S cells notes n fl) : ∀ x ∈ SS S, ∃ u, H x = some u ∧ isMu u := by
  intro x hx
  simp only [List.mem_cons, List.not_mem_nil, or_false] at hx
  rcases hx with rfl | rfl | rfl
  · exact ⟨_, h.ca, trivial⟩
  · exact ⟨_, h.na, trivial⟩
  · exact ⟨_, h.p, trivial⟩
theorem StAt.kp0 {a : Adr} {H H' : Hp} {S : SA} {L : List Addr} {cells : List Int} {notes : List (Option Int)} {n : Int} {fl : V} (h : StAt a H S cells notes n fl) (k : Kp L H H') (d : ∀ x ∈ L, x ≠ S.st ∧ x ≠ S.ca ∧ x ≠ S.na ∧ x ≠ S.p) : StAt a H' S cells notes n fl :=
  ⟨k _ _ h.st (fun z => (d _ z).1 rfl), k _ _ h.ca (fun z => (d _ z).2.1 rfl), k _ _ h.na (fun z => (d _ z).2.2.1 rfl), k _ _ h.p (fun z => (d _ z).2.2.2 rfl), h.ne, h.np⟩
theorem StAt.same {a : Adr} {H H' : Hp} {S : SA} {cells : List Int} {notes : List (Option Int)} {n : Int} {fl : V} (h : StAt a H S cells notes n fl) (s : Same H H') : StAt a H' S cells notes n fl :=
  h.kp0 (L := []) (Kp.of s) (fun _ z => nomatch z)
theorem StAt.nst {a : Adr} {H : Hp} {S : SA} {cells : List Int} {notes : List (Option Int)} {n : Int} {fl : V} (h : StAt a H S cells notes n fl) : S.st ∉ SS S := by
  simp only [List.mem_cons, List.not_mem_nil, or_false]
  rintro (z | z | z)
  · have := h.st; rw [z, h.ca] at this; cases this
  · have := h.st; rw [z, h.na] at this; cases this
  · exact h.np z.symm
theorem StAt.npc {a : Adr} {H : Hp} {S : SA} {cells : List Int} {notes : List (Option Int)} {n : Int} {fl : V} (h : StAt a H S cells notes n fl) : S.p ≠ S.ca := ne_of h.p h.ca (by intro z; cases z)
theorem StAt.npn {a : Adr} {H : Hp} {S : SA} {cells : List Int} {notes : List (Option Int)} {n : Int} {fl : V} (h : StAt a H S cells notes n fl) : S.p ≠ S.na := ne_of h.p h.na (by intro z; cases z)
/-  a write into the cells, into the notes -/
def doW (cells : List Int) (i : Nat) (s : Int) : How → List Int
  | none => cells.set i s
  | some none => cells
  | some (some t) => cells.set i t
def doN (notes : List (Option Int)) (i : Nat) (m : Int) : How → List (Option Int)
  | none => notes.set i (some m)
  | some none => notes
  | some (some _) => notes.set i none
theorem torn_W (cells : List Int) (i : Nat) (s : Int) (h : How) : tornL (fun s => .int s) (cells.map V.int) i (.int s) h = (doW cells i s h).map V.int := by
  rcases h with _ | _ | t <;> simp [tornL, doW, List.map_set]
theorem torn_N (notes : List (Option Int)) (i : Nat) (m : Int) (h : How) : tornL (fun _ => .non) (notes.map nV) i (.int m) h = (doN notes i m h).map nV := by
  rcases h with _ | _ | t <;> simp [tornL, doN, List.map_set, nV]
theorem doW_length (cells : List Int) (i : Nat) (s : Int) (h : How) : (doW cells i s h).length = cells.length := by rcases h with _ | _ | t <;> simp [doW]
theorem doN_length (notes : List (Option Int)) (i : Nat) (m : Int) (h : How) : (doN notes i m h).length = notes.length := by rcases h with _ | _ | t <;> simp [doN]
def RetS (a : Adr) (H : Hp) (S : SA) (cells : List Int) (notes : List (Option Int)) (n : Int) (fl : V) (q : Hp → Prop) : Prop := ∀ H', Kp (SS S) H H' → StAt a H' S cells notes n fl → q H'
def FalS (a : Adr) (H : Hp) (S : SA) (cells : List Int) (notes : List (Option Int)) (n : Int) (fl : V) (c : Int) (E : XK) : Prop := ∀ d H', Kp (SS S) H H' → StAt a H' S cells notes n fl → H d = none → H' d = some (.xd [("count", .int c)]) → E (.ref a.C_Fallen) (some d) H'
def OutS (a : Adr) (H : Hp) (i : Int) (E : XK) : Prop := ∀ d, H d = none → E (.ref a.C_OutOfRoom) (some d) (upd H d (.xd [("at", .int i)]))
abbrev inR (cells : List Int) (i : Int) : Prop := 0 ≤ i ∧ i < cells.length
def sp_Store_init (K : PySem.W.Frag) (a : Adr) : Sp := fun vs H Q _ => ∃ (st dx l : Addr) (cells : List Int) (fl : V), vs = [.ref st, .ref l, fl] ∧ H st = some (.ins a.C_Store dx []) ∧ H l = some (.lst (cells.map V.int)) ∧
  ∀ (S : SA) (H' : Hp), S.st = st → Kp [st] H H' → StAt a H' S cells [some 0, some 0] 0 fl → H S.ca = none → H S.na = none → H S.p = none → Q .non H'
def sp_refuse_lacking (a : Adr) : Sp := fun vs H Q E => ∃ (S : SA) (cells : List Int) (notes : List (Option Int)) (n i : Int) (fl : V), vs = [.ref S.st, .int i] ∧ StAt a H S cells notes n fl ∧ (inR cells i → Q .non H) ∧ (¬ inR cells i → OutS a H i E)
def sp_read (a : Adr) : Sp := fun vs H Q E => ∃ (S : SA) (cells : List Int) (notes : List (Option Int)) (n i : Int) (fl : V), vs = [.ref S.st, .int i] ∧ StAt a H S cells notes n fl ∧ (inR cells i → ∀ v, cells[i.toNat]? = some v → Q (.int v) H) ∧ (¬ inR cells i → OutS a H i E)
def sp_write (a : Adr) : Sp := fun vs H Q E => ∃ (S : SA) (cells : List Int) (notes : List (Option Int)) (n i s : Int) (fl : V) (oc : Option Int), vs = [.ref S.st, .int i, .int s] ∧ StAt a H S cells notes n fl ∧ FallV H fl oc ∧ nOk n ∧ H P_Store_write = some (.tbl qs_Store_write) ∧
  (inR cells i → howOf oc n = none → RetS a H S (cells.set i.toNat s) notes (n + 1) fl (Q .non)) ∧ (inR cells i → howOf oc n ≠ none → FalS a H S (doW cells i.toNat s (howOf oc n)) notes (n + 1) fl n E) ∧ (¬ inR cells i → OutS a H i E)
def sp_note_down (a : Adr) : Sp := fun vs H Q E => ∃ (S : SA) (cells : List Int) (notes : List (Option Int)) (n i m : Int) (fl : V) (oc : Option Int), vs = [.ref S.st, .int i, .int m] ∧ StAt a H S cells notes n fl ∧ FallV H fl oc ∧ nOk n ∧ H P_Store_note_down = some (.tbl qs_Store_note_down) ∧ 0 ≤ i ∧ i < notes.length ∧
  (howOf oc n = none → RetS a H S cells (notes.set i.toNat (some m)) (n + 1) fl (Q .non)) ∧ (howOf oc n ≠ none → FalS a H S cells (doN notes i.toNat m (howOf oc n)) (n + 1) fl n E)
def sp_mark (a : Adr) : Sp := fun vs H Q E => ∃ (S : SA) (cells : List Int) (notes : List (Option Int)) (n m : Int) (fl : V) (oc : Option Int), vs = [.ref S.st, .int m] ∧ StAt a H S cells notes n fl ∧ FallV H fl oc ∧ nOk n ∧ H P_Store_note_down = some (.tbl qs_Store_note_down) ∧ notes.length = 2 ∧
  (howOf oc n = none → RetS a H S cells (notes.set (m % 2).toNat (some m)) (n + 1) fl (Q .non)) ∧ (howOf oc n ≠ none → FalS a H S cells (doN notes (m % 2).toNat m (howOf oc n)) (n + 1) fl n E)
def sp_begin (a : Adr) : Sp := fun vs H Q E => ∃ (S : SA) (cells : List Int) (notes : List (Option Int)) (n : Int) (fl : V) (oc : Option Int), vs = [.ref S.st] ∧ StAt a H S cells notes n fl ∧ FallV H fl oc ∧ nOk n ∧ nOk (n + 1) ∧ H P_Store_note_down = some (.tbl qs_Store_note_down) ∧ notes.length = 2 ∧
  (howOf oc n = none → howOf oc (n + 1) = none → RetS a H S cells ((notes.set 0 (some 0)).set 1 (some 0)) (n + 1 + 1) fl (Q .non)) ∧ (howOf oc n ≠ none → FalS a H S cells (doN notes 0 0 (howOf oc n)) (n + 1) fl n E) ∧
  (howOf oc n = none → howOf oc (n + 1) ≠ none → FalS a H S cells (doN (notes.set 0 (some 0)) 1 0 (howOf oc (n + 1))) (n + 1 + 1) fl (n + 1) E)
def sp_told (a : Adr) : Sp := fun vs H Q _ => ∃ (S : SA) (cells : List Int) (notes : List (Option Int)) (n : Int) (fl : V), vs = [.ref S.st] ∧ StAt a H S cells notes n fl ∧ ∀ t c m H', Same H H' → H c = none → H m = none → c ≠ m → H' t = some (.tup [.ref c, .ref m, .int n]) → H' c = some (.lst (cells.map V.int)) → H' m = some (.lst (notes.map nV)) → Q (.ref t) H'
def IsMax (notes : List (Option Int)) (m : Int) : Prop := (notes.filterMap id = [] → m = 0) ∧ (notes.filterMap id ≠ [] → m ∈ notes.filterMap id ∧ ∀ x ∈ notes.filterMap id, x ≤ m)
theorem IsMax.uniq {notes : List (Option Int)} {m m' : Int} (h : IsMax notes m) (h' : IsMax notes m') : m = m' := by
  by_cases e : notes.filterMap id = []
  · rw [h.1 e, h'.1 e]
  · have a := h.2 e
    have b := h'.2 e
    have := a.2 _ b.1
    have := b.2 _ a.1
    omega
def sp_Snoted (a : Adr) : Sp := fun vs H Q _ => ∃ (S : SA) (cells : List Int) (notes : List (Option Int)) (n : Int) (fl : V), vs = [.ref S.st] ∧ StAt a H S cells notes n fl ∧ notes.length = 2 ∧ ∀ m H', Same H H' → IsMax notes m → Q (.int m) H'
/-  how a deed ends -/
inductive Out where
  | ok
  | fell (n : Int)
  | out (i : Int)
def kindsV : Out → List V
  | .ok => []
  | .fell n => [.bl false, .bl true, .bl true, .int n]
  | .out i => [.bl true, .bl true, .bl true, .int i]
def outOf (h : How) (n : Int) : Out := match h with
  | none => .ok
  | some _ => .fell n
/-  what a deed leaves: cells, notes, count, end -/
def deedS (oc : Option Int) (cells : List Int) (notes : List (Option Int)) (n d i s : Int) : List Int × List (Option Int) × Int × Out :=
  if d = 0 then (cells, notes, n, if inR cells i then .ok else .out i)
  else if d = 1 then (if inR cells i then (doW cells i.toNat s (howOf oc n), notes, n + 1, outOf (howOf oc n) n) else (cells, notes, n, .out i))
  else if d = 2 then (cells, doN notes (s % 2).toNat s (howOf oc n), n + 1, outOf (howOf oc n) n)
  else if howOf oc n = none then (cells, doN (notes.set 0 (some 0)) 1 0 (howOf oc (n + 1)), n + 1 + 1, outOf (howOf oc (n + 1)) (n + 1)) else (cells, doN notes 0 0 (howOf oc n), n + 1, outOf (howOf oc n) n)
def sp_refused (a : Adr) : Sp := fun vs H Q _ => ∃ (S : SA) (cells : List Int) (notes : List (Option Int)) (n d i s : Int) (fl : V) (oc : Option Int), vs = [.ref S.st, .int d, .int i, .int s] ∧ StAt a H S cells notes n fl ∧ FallV H fl oc ∧ nOk n ∧ nOk (n + 1) ∧ H P_Store_write = some (.tbl qs_Store_write) ∧ H P_Store_note_down = some (.tbl qs_Store_note_down) ∧ notes.length = 2 ∧ 0 ≤ d ∧ d ≤ 3 ∧
  ∀ l H', Kp (SS S) H H' → StAt a H' S (deedS oc cells notes n d i s).1 (deedS oc cells notes n d i s).2.1 (deedS oc cells notes n d i s).2.2.1 fl → H l = none → H' l = some (.lst (kindsV (deedS oc cells notes n d i s).2.2.2)) → Q (.ref l) H'
def StandC (H : Hp) (t c m : Addr) (cells : List Int) (notes : List (Option Int)) (n : Int) : Prop := H t = some (.tup [.ref c, .ref m, .int n]) ∧ H c = some (.lst (cells.map V.int)) ∧ H m = some (.lst (notes.map nV))
theorem StandC.same {H H' : Hp} {t c m : Addr} {cells : List Int} {notes : List (Option Int)} {n : Int} (h : StandC H t c m cells notes n) (s : Same H H') : StandC H' t c m cells notes n := ⟨s.at h.1, s.at h.2.1, s.at h.2.2⟩
theorem StandC.kp {a : Adr} {H H' : Hp} {S : SA} {t c m : Addr} {cells cs : List Int} {notes ns : List (Option Int)} {n nn : Int} {fl : V} (h : StandC H t c m cells notes n) (hS : StAt a H S cs ns nn fl) (hc : c ∉ SS S) (hm : m ∉ SS S) (k : Kp (SS S) H H') : StandC H' t c m cells notes n :=
  ⟨k _ _ h.1 fun z => (by obtain ⟨u, e, i⟩ := hS.mu _ z; rw [h.1] at e; cases e; exact i), k _ _ h.2.1 hc, k _ _ h.2.2 hm⟩
def sp_noted : Sp := fun vs H Q _ => ∃ (t c m : Addr) (notes : List (Option Int)) (n i k cell : Int), vs = [.ref t, .int i, .int k, .int cell] ∧ H t = some (.tup [.ref c, .ref m, .int n]) ∧ H m = some (.lst (notes.map nV)) ∧ nOk n ∧ 0 ≤ i ∧ i < notes.length ∧
  ∀ t' m' H', Same H H' → H m' = none → H' t' = some (.tup [.ref c, .ref m', .int (n + 1)]) → H' m' = some (.lst ((doN notes i.toNat k (fallAt cell n)).map nV)) → Q (.ref t') H'
structure Pre (a : Adr) (H : Hp) (S : SA) (t c m : Addr) (cells : List Int) (notes : List (Option Int)) (n cell : Int) (fl : V) : Prop where
  st : StAt a H S cells notes n fl
  f : FallV H fl (some cell)
  C : StandC H t c m cells notes n
  nc : c ∉ SS S
  nm : m ∉ SS S
  n0 : nOk n
  n1 : nOk (n + 1)
  w : H P_Store_write = some (.tbl qs_Store_write)
  d : H P_Store_note_down = some (.tbl qs_Store_note_down)
  two : notes.length = 2
theorem Pre.same {a : Adr} {H H' : Hp} {S : SA} {t c m : Addr} {cells : List Int} {notes : List (Option Int)} {n cell : Int} {fl : V} (h : Pre a H S t c m cells notes n cell fl) (s : Same H H') : Pre a H' S t c m cells notes n cell fl :=
  ⟨h.st.same s, h.f.kp h.st.mu (Kp.of s), h.C.same s, h.nc, h.nm, h.n0, h.n1, s.at h.w, s.at h.d, h.two⟩
def Res (a : Adr) (H : Hp) (S : SA) (cells : List Int) (notes : List (Option Int)) (n : Int) (fl : V) (Q : VK) : Prop := ∀ t c m H', Kp (SS S) H H' → StAt a H' S cells notes n fl → StandC H' t c m cells notes n → c ∉ SS S → m ∉ SS S → Q (.ref t) H'
def sp_begun (a : Adr) : Sp := fun vs H Q _ => ∃ (S : SA) (t c m : Addr) (cells : List Int) (notes : List (Option Int)) (n cell : Int) (fl : V), vs = [.ref S.st, .ref t, .int cell] ∧ Pre a H S t c m cells notes n cell fl ∧
  Res a H S (deedS (some cell) cells notes n 3 0 0).1 (deedS (some cell) cells notes n 3 0 0).2.1 (deedS (some cell) cells notes n 3 0 0).2.2.1 fl Q
def sp_written (a : Adr) : Sp := fun vs H Q _ => ∃ (S : SA) (t c m : Addr) (cells : List Int) (notes : List (Option Int)) (n i s cell : Int) (fl : V), vs = [.ref S.st, .ref t, .int i, .int s, .int cell] ∧ Pre a H S t c m cells notes n cell fl ∧ inR cells i ∧ cells.length ≤ 11 ∧
  Res a H S (deedS (some cell) cells notes n 1 i s).1 (deedS (some cell) cells notes n 1 i s).2.1 (deedS (some cell) cells notes n 1 i s).2.2.1 fl Q
def sp_deed (a : Adr) : Sp := fun vs H Q _ => ∃ (S : SA) (t c m : Addr) (cells : List Int) (notes : List (Option Int)) (n x cell k : Int) (fl : V), vs = [.ref S.st, .ref t, .int x, .int cell, .int k] ∧ Pre a H S t c m cells notes n cell fl ∧ cells.length ≤ 11 ∧
  ∀ cells' notes' n', cells'.length = cells.length → notes'.length = 2 → n ≤ n' → n' ≤ n + 2 → Res a H S cells' notes' n' fl Q
def kindsD : Out → PyData
  | .ok => .list []
  | .fell n => .list [.bool false, .bool true, .bool true, .int n]
  | .out i => .list [.bool true, .bool true, .bool true, .int i]
theorem kinds_rp {K : PySem.W.Frag} {H : Hp} {l : Addr} {o : Out} (h : H l = some (.lst (kindsV o))) : Rp K H (.ref l) (kindsD o) := by
  cases o with
  | ok => exact .lst (SqL.of h) .nil
  | fell n => exact .lst (SqL.of h) (.cons (.bl _) (.cons (.bl _) (.cons (.bl _) (.cons (.int _) .nil))))
  | out n => exact .lst (SqL.of h) (.cons (.bl _) (.cons (.bl _) (.cons (.bl _) (.cons (.int _) .nil))))
theorem kinds_sh (o : Out) : SeqAt.shaped (kindsD o) = true := by cases o <;> rfl
theorem fresh_nin {a : Adr} {H : Hp} {S : SA} {cells : List Int} {notes : List (Option Int)} {n : Int} {fl : V} (h : StAt a H S cells notes n fl) {b : Addr} (e : H b = none) : b ∉ SS S := fun z => by
  obtain ⟨u, q, _⟩ := h.mu _ z
  rw [e] at q; cases q
def sp_law (K : PySem.W.Frag) : Sp := fun vs H Q _ => ∃ (l : Addr) (ns : List Int), vs = [.ref l] ∧ SqL K H l (ns.map V.int) ∧ ns.length ≤ 63 ∧ H P_Store_write = some (.tbl qs_Store_write) ∧ H P_Store_note_down = some (.tbl qs_Store_note_down) ∧ H P_law = some (.tbl qs_law) ∧ ∀ H', Q (.bl true) H'
local macro_rules | `(tactic| walk_at "w") => `(tactic| (conv => whnf))
local macro_rules | `(tactic| walk_at "few") => `(tactic| first | exact Nat.lt_of_lt_of_le (few_put (n := 998) (by simp)) (by decide) | (simp; done))
local macro_rules | `(tactic| walk_at "pos") => `(tactic| first | (show (0 : Int) < _; decide) | (show (0 : Int) < _; omega) | assumption)
local macro_rules | `(tactic| walk_at "same") => `(tactic| first | exact Same.refl _ | assumption | (refine' Same.trans ?sa ?sb; (case sb => assumption); (case sa => walk_at "same")))
local macro_rules | `(tactic| walk_at "get") => `(tactic| first | assumption | exact upd_same | (refine' Same.at ?ga ?gb; (case gb => assumption); (case ga => walk_at "same")))
local macro_rules | `(tactic| walk_at "sq") => `(tactic| first | assumption | (refine' SqL.of ?g; (case g => walk_at "get")) | (refine' SqT.of ?g; (case g => walk_at "get")) | (refine' Same.seq ?sa ?sb; (case sb => assumption); (case sa => walk_at "same")) | (refine' Same.seqT ?sa ?sb; (case sb => assumption); (case sa => walk_at "same")) | (refine' Or.inl ?g; (case g => walk_at "sq")) | (refine' Or.inr ?g; (case g => walk_at "sq")))
local macro_rules | `(tactic| walk_at "no") => `(tactic| (intro z; first | cases z | (simp at z; done)))
local macro_rules | `(tactic| walk_at "mul") => `(tactic| first | exact Or.inl ⟨by decide, by decide⟩ | exact Or.inr ⟨by decide, by decide⟩ | exact Or.inl ⟨by omega, by omega⟩ | exact Or.inr ⟨by omega, by omega⟩)
local macro_rules | `(tactic| walk_at "side") => `(tactic| first | exact ⟨by decide, by decide⟩ | exact ⟨by decide, by decide, by decide⟩ | walk_at "pos" | walk_at "mul" | (show (_ : Nat) ≤ sizeLine; first | decide | (simp only [List.length_cons, List.length_nil]; decide)))
local macro_rules | `(tactic| walk_at "s") => `(tactic| (refine And.intro (by walk_at "side") ?_; walk_at "w"))
local macro_rules | `(tactic| walk_at "ss") => `(tactic| (repeat (walk_at "s")))

section
variable {P : Program} {w : World} {K : PySem.W.Frag} {mg : Str → Option Value} {base : Heap} {a : Adr}
theorem ok_cell_at (T : Txt K mg a) : FnOk P w K mg base CX0 1 a.f_cell_at a.d_cell_at ["_law_script", "_law_k"] (sp_cell_at K) := by
  refine T.F_cell_at.ok sc_cell_at (fun vs H Q E h => ?_) (fun cdv A outer s H vs Q E hr h => ?_)
  · obtain ⟨l, ns, k, rfl, _⟩ := h; rfl
  · obtain ⟨l, ns, k, rfl, hl, hk, q⟩ := h
    have nd := sc_cell_at.nd
    refine ⟨_, (pss_cons (cs_if (ct_cmp o_lt (cv 1) (pe_callB call_len_seq (by rfl) T.n_len bt_len (pa_cons (cv 0) pa_nil))) (pss_one (ps_ret (pe_ix ix_list (cv 0) (cv 1) (fun _ _ => rfl)))) pss_nil)
    (pss_one (ps_ret pe_int))), ?_⟩
    walk_at "w"
    refine ⟨l, _, rfl, .inl hl, ?_⟩
    walk_at "w"
    refine ⟨fun e => ?_, fun e => ?_⟩
    · have e' := of_decide_eq_true e
      rw [List.length_map] at e'
      walk_at "w"
      refine ⟨l, _, k, .int (ns.getD k.toNat 0), rfl, rfl, hl, ?_, ?_⟩
      · have hk' : k.toNat < ns.length := by omega
        have := atI_nat (xs := ns.map V.int) (j := k.toNat) (v := .int (ns.getD k.toNat 0)) (by simp [hk'])
        rwa [Int.toNat_of_nonneg hk] at this
      · walk_at "w"
        rw [cellAt, if_pos e'] at q
        exact q
    · have e' := of_decide_eq_false e
      rw [List.length_map] at e'
      rw [cellAt, if_neg e'] at q
      exact q
theorem mod_bounds (x : Int) : 0 ≤ x % 2147483647 ∧ x % 2147483647 < 2147483647 := ⟨Int.emod_nonneg _ (by decide), Int.emod_lt_of_pos _ (by decide)⟩
theorem ok_mixed (T : Txt K mg a) : FnOk P w K mg base CX0 1 a.f_mixed a.d_mixed ["_law_cell", "_law_k"] sp_mixed := by
  refine T.F_mixed.ok sc_mixed (fun vs H Q E h => ?_) (fun cdv A outer s H vs Q E hr h => ?_)
  · obtain ⟨c, k, rfl, _⟩ := h; rfl
  · obtain ⟨c, k, rfl, q⟩ := h
    have nd := sc_mixed.nd
    refine ⟨_, (pss_cons (ps_set (i := 2) nd rfl (Or.inl rfl) (pe_op o_mod (pe_op o_mul (pe_op o_add (pe_op o_add (pe_op o_mod (cv 0) pe_int) (pe_op o_mul pe_int (cv 1))) pe_int) pe_int) pe_int))
    (pss_one (ps_ret (pe_op o_mod (pe_op o_mul (cv 2) (pe_op o_add (pe_op o_fdiv (cv 2) pe_int) pe_int)) pe_int)))), ?_⟩
    have b := mod_bounds ((c % 2147483647 + 7919 * k + 1) * 48271)
    walk_at "w"
    refine ⟨by walk_at "pos", ?_⟩
    walk_at "w"
    refine ⟨.inl ⟨by decide, by decide⟩, ?_⟩
    walk_at "w"
    refine ⟨.inr ⟨by decide, by decide⟩, ?_⟩
    walk_at "w"
    refine ⟨by walk_at "pos", ?_⟩
    walk_at "w"
    refine ⟨⟨by decide, by decide⟩, ?_⟩
    walk_at "w"
    refine ⟨.inl ⟨by omega, by omega⟩, ?_⟩
    walk_at "w"
    refine ⟨by walk_at "pos", ?_⟩
    exact q
theorem mixed_nonneg (c k : Int) : 0 ≤ mixed c k := Int.emod_nonneg _ (by decide)
theorem ok_OutOfRoom_init (T : Txt K mg a) : FnOk P w K mg base CX0 1 a.f_OutOfRoom_init a.d_OutOfRoom_init ["self", "at"] (sp_xinit a.C_OutOfRoom "at") := by
  refine T.F_OutOfRoom_init.ok sc_OutOfRoom_init (fun vs H Q E h => ?_) (fun cdv A outer s H vs Q E hr h => ?_)
  · obtain ⟨p, v, rfl, _⟩ := h; rfl
  · obtain ⟨p, v, rfl, hp, k⟩ := h
    have nd := sc_OutOfRoom_init.nd
    refine ⟨_, (pss_one (ps_fldX (cv 0) (cv 1) rfl)), ?_⟩
    walk_at "w"
    refine ⟨p, _, _, rfl, hp, T.xn_OutOfRoom, T.na_OutOfRoom_at, fun d h1 h2 => ?_⟩
    exact k d h1 h2
theorem ok_Fallen_init (T : Txt K mg a) : FnOk P w K mg base CX0 1 a.f_Fallen_init a.d_Fallen_init ["self", "count"] (sp_xinit a.C_Fallen "count") := by
  refine T.F_Fallen_init.ok sc_Fallen_init (fun vs H Q E h => ?_) (fun cdv A outer s H vs Q E hr h => ?_)
  · obtain ⟨p, v, rfl, _⟩ := h; rfl
  · obtain ⟨p, v, rfl, hp, k⟩ := h
    have nd := sc_Fallen_init.nd
    refine ⟨_, (pss_one (ps_fldX (cv 0) (cv 1) rfl)), ?_⟩
    walk_at "w"
    refine ⟨p, _, _, rfl, hp, T.xn_Fallen, T.na_Fallen_count, fun d h1 h2 => ?_⟩
    exact k d h1 h2
theorem ok_fall_at (T : Txt K mg a) : FnOk P w K mg base CX0 2 a.f_fall_at a.d_fall_at ["_law_cell", "_law_count"] sp_fall_at := by
  refine T.F_fall_at.ok sc_fall_at (fun vs H Q E h => ?_) (fun cdv A outer s H vs Q E hr h => ?_)
  · obtain ⟨c, n, rfl, _⟩ := h; rfl
  · obtain ⟨c, n, rfl, hn, k⟩ := h
    have nd := sc_fall_at.nd
    refine ⟨_, (pss_cons (ps_set (i := 2) nd rfl (Or.inl rfl) (pe_call (ok_mixed T) (hr.mono (by decide)) (by rfl) T.m_mixed T.F_mixed.kp T.b_mixed .nil pass0 (pa_cons (cv 0) (pa_cons (cv 1) pa_nil))))
    (pss_cons (cs_if (ct_cmp o_gt (pe_op o_mod (cv 2) pe_int) pe_int) (pss_one (ps_ret pe_non)) pss_nil)
    (pss_cons (cs_if (ct_cmp o_eqI (pe_op o_mod (pe_op o_fdiv (cv 2) pe_int) pe_int) pe_int) (pss_one (ps_ret (pe_tup pa_nil))) pss_nil)
    (pss_one (ps_ret (pe_tup (pa_cons (pe_op o_mod (pe_op o_fdiv (cv 0) (pe_op o_add (cv 1) pe_int)) (pe_op o_pow pe_int pe_int)) pa_nil))))))), ?_⟩
    walk_at "w"
    refine ⟨c, n, rfl, ?_⟩
    generalize hd : mixed c n = d
    unfold fallAt at k
    rw [hd] at k
    walk_at "w"
    walk_at "ss"
    refine ⟨fun e => ?_, fun e => ?_⟩
    · have e := of_decide_eq_true e
      rw [if_pos e] at k
      exact k _ _ (Same.refl _) rfl
    · have e := of_decide_eq_false e
      rw [if_neg e] at k
      walk_at "w"
      walk_at "ss"
      refine ⟨fun e => ?_, fun e => ?_⟩
      · have e := of_decide_eq_true e
        rw [if_pos e] at k
        walk_at "w"
        walk_at "ss"
        intro t ht
        exact k _ _ (Same.new ht) ⟨t, rfl, upd_same⟩
      · have e := of_decide_eq_false e
        rw [if_neg e] at k
        walk_at "w"
        refine And.intro ⟨by omega, ?_⟩ ?_
        · have : (n + 1).natAbs < 2 ^ 64 := by omega
          have h2 : (n + 1).natAbs.log2 < 64 := (Nat.log2_lt (by omega)).mpr this
          omega
        walk_at "w"
        walk_at "ss"
        intro t ht
        exact k _ _ (Same.new ht) ⟨t, rfl, upd_same⟩
theorem ok_law_lam (T : Txt K mg a) : CloOk P w K mg base CX0 3 "<lambda>" "law.<locals>.<lambda>" (lamArgs e_lamL) (.expr (lamBody e_lamL)) (lamScope e_lamL) ["_law_count"] sp_lamL := by
  refine clo_expr sc_lamL (fun fv vs H Q E h => ?_) (fun _ _ _ _ _ us hl => match us, hl with | [_], _ => rfl) (fun A outer s H f clos cdv fv vs Q E hr h => ?_)
  · obtain ⟨c, n, rfl, rfl, _⟩ := h; exact ⟨rfl, rfl⟩
  · obtain ⟨c, n, rfl, rfl, hn, k⟩ := h
    have nd := sc_lamL.nd
    refine ⟨_, (pe_call (ok_fall_at T) (hr.mono (by decide)) (by rfl) T.m_fall_at T.F_fall_at.kp T.b_fall_at .nil pass0 (pa_cons (cv 1) (pa_cons (cv 0) pa_nil))), ?_⟩
    walk_at "w"
    exact ⟨c, n, rfl, hn, k⟩
theorem ok_Store_write_lam (T : Txt K mg a) : CloOk P w K mg base CX0 1 "<lambda>" "Store.write.<locals>.<lambda>" (lamArgs e_lamW) (.expr (lamBody e_lamW)) (lamScope e_lamW) ["other"] sp_lamW := by
  refine clo_expr sc_lamW (fun fv vs H Q E h => ?_) (fun _ _ _ _ _ us hl => match us, hl with | [_], _ => rfl) (fun A outer s H f clos cdv fv vs Q E hr h => ?_)
  · obtain ⟨v, rfl, rfl, _⟩ := h; exact ⟨rfl, rfl⟩
  · obtain ⟨v, rfl, rfl, k⟩ := h
    have nd := sc_lamW.nd
    refine ⟨_, (cv 0), ?_⟩
    walk_at "w"
    exact k
theorem ok_Store_note_down_lam (T : Txt K mg a) : CloOk P w K mg base CX0 1 "<lambda>" "Store.note_down.<locals>.<lambda>" (lamArgs e_lamN) (.expr (lamBody e_lamN)) (lamScope e_lamN) ["other"] sp_lamN := by
  refine clo_expr sc_lamN (fun fv vs H Q E h => ?_) (fun _ _ _ _ _ us hl => match us, hl with | [_], _ => rfl) (fun A outer s H f clos cdv fv vs Q E hr h => ?_)
  · obtain ⟨v, rfl, rfl, _⟩ := h; exact ⟨rfl, rfl⟩
  · obtain ⟨v, rfl, rfl, k⟩ := h
    have nd := sc_lamN.nd
    refine ⟨_, pe_non, ?_⟩
    exact k
theorem ok_Pen_init (T : Txt K mg a) : FnOk P w K mg base CX0 1 a.f_Pen_init a.d_Pen_init ["self", "fall"] (sp_Pen_init a) := by
  refine T.F_Pen_init.ok sc_Pen_init (fun vs H Q E h => ?_) (fun cdv A outer s H vs Q E hr h => ?_)
  · obtain ⟨p, dp, fl, rfl, _⟩ := h; rfl
  · obtain ⟨p, dp, fl, rfl, hp, k⟩ := h
    have nd := sc_Pen_init.nd
    refine ⟨_, (pss_cons (ps_fld (cv 0) pe_int rfl)
    (pss_one (ps_fld (cv 0) (cv 1) rfl))), ?_⟩
    walk_at "w"
    refine ⟨p, _, dp, _, rfl, hp, T.c_Pen, T.na_Pen_asked, by walk_at "few", ?_⟩
    walk_at "w"
    refine ⟨p, _, dp, _, rfl, upd_same, T.c_Pen, T.na_Pen_fall, by walk_at "few", ?_⟩
    walk_at "w"
    rw [upd_upd]
    exact k
theorem fnv_torn (T : Txt K mg a) {H : Hp} {g : Addr} {tf : Int → V} {s : Int} {Q : VK} (h : TornV H g tf) (q : Q (tf s) H) : FnV P w K mg base 1 H g [.int s] Q := by
  rcases h with ⟨h, rfl⟩ | ⟨h, rfl⟩
  · exact ⟨_, _, _, _, _, _, _, _, ok_Store_write_lam T, h, _, rfl, rfl, q⟩
  · exact ⟨_, _, _, _, _, _, _, _, ok_Store_note_down_lam T, h, _, rfl, rfl, q⟩
theorem TornV.clo {H : Hp} {g : Addr} {tf : Int → V} (h : TornV H g tf) : ∃ nm qual params body scope fv, CloAt H g nm qual params body scope fv := by
  rcases h with ⟨h, _⟩ | ⟨h, _⟩
  · exact ⟨_, _, _, _, _, _, h⟩
  · exact ⟨_, _, _, _, _, _, h⟩
theorem TornV.kp {H H' : Hp} {S : List Addr} {g : Addr} {tf : Int → V} (h : TornV H g tf) (mu : ∀ x ∈ S, ∃ u, H x = some u ∧ isMu u) (k : Kp S H H') : TornV H' g tf := by
  rcases h with ⟨h, e⟩ | ⟨h, e⟩
  · exact .inl ⟨CloAt.kp h mu k, e⟩
  · exact .inr ⟨CloAt.kp h mu k, e⟩
theorem ok_Pen_answer_of_fall (T : Txt K mg a) : FnOk P w K mg base CX0 4 a.f_Pen_answer_of_fall a.d_Pen_answer_of_fall ["self", "count"] (sp_Pen_answer_of_fall a) := by
  refine T.F_Pen_answer_of_fall.ok sc_Pen_answer_of_fall (fun vs H Q E h => ?_) (fun cdv A outer s H vs Q E hr h => ?_)
  · obtain ⟨p, dp, n, m, fl, oc, rfl, _⟩ := h; rfl
  · obtain ⟨p, dp, n, m, fl, oc, rfl, hn, hp, hf, k⟩ := h
    have nd := sc_Pen_answer_of_fall.nd
    refine ⟨_, (pss_cons (ps_set (i := 2) nd rfl (Or.inl rfl) (pe_fld (cv 0) rfl))
    (pss_cons (cs_if (ct_isN (cv 2)) (pss_one (ps_ret pe_non)) pss_nil)
    (pss_one (ps_ret (pe_callV 2 (ok_law_lam T) (hr.mono (by decide)) pass0 (pa_cons (cv 1) pa_nil)))))), ?_⟩
    walk_at "w"
    refine ⟨p, _, dp, _, fl, rfl, hp, T.c_Pen, T.na_Pen_fall, rfl, ?_⟩
    cases oc with
    | none =>
      obtain rfl : fl = .non := hf
      walk_at "w"
      refine ⟨fun _ => ?_, by walk_at "no"⟩
      exact k _ _ (Same.refl _) rfl
    | some c =>
      obtain ⟨f, rfl, hc⟩ := hf
      walk_at "w"
      refine ⟨by walk_at "no", fun _ => ?_⟩
      walk_at "w"
      refine ⟨f, _, rfl, hc, ?_⟩
      walk_at "w"
      exact ⟨hc, c, n, rfl, rfl, hn, k⟩
theorem ok_Pen_write_into (T : Txt K mg a) : FnOk P w K mg base (CXE P w) 5 a.f_Pen_write_into a.d_Pen_write_into ["self", "kept", "at", "value", "torn"] (sp_Pen_write_into a) := by
  refine T.F_Pen_write_into.okX sc_Pen_write_into (fun vs H Q E h => ?_) (fun cdv A outer s H vs Q E hr h => ?_)
  · obtain ⟨p, dp, l, g, i, n, val, fl, xs, oc, tf, rfl, _⟩ := h; rfl
  · obtain ⟨p, dp, l, g, i, n, val, fl, xs, oc, tf, rfl, hp, hn, hf, hl, h0, hi, ht, k1, k2⟩ := h
    have nd := sc_Pen_write_into.nd
    refine ⟨_, (pss_cons (ps_set (i := 5) nd rfl (Or.inl rfl) (pe_fld (cv 0) rfl))
    (pss_cons (ps_fld (cv 0) (pe_op o_add (cv 5) pe_int) rfl)
    (pss_cons (ps_set (i := 6) nd rfl (Or.inl rfl) (pe_meth (cv 0) T.c_Pen T.me_Pen_answer_of_fall (ok_Pen_answer_of_fall T) (hr.mono (by decide)) T.b_Pen_answer_of_fall .nil pass0 (pa_cons (cv 5) pa_nil)))
    (pss_cons (cs_if (ct_isN (cv 6)) (pss_cons (ps_asg (cv 3) (pg_sub (cv 1) (cv 2) set_list))
    (pss_one ps_retN)) pss_nil)
    (pss_cons (cs_cut (cs_if (ct_cmp o_eqI (pe_callB call_len_seq (by rfl) T.n_len bt_len (pa_cons (cv 6) pa_nil)) pe_int) (pss_one (ps_asg (pe_callG (k := 1) 4 (hr.mono (by decide)) (pa_cons (pe_ix ix_tup (cv 6) pe_int (fun _ _ => rfl)) pa_nil)) (pg_sub (cv 1) (cv 2) set_list))) pss_nil))
    (pss_one (ps_raiseI (k := 1) ⟨rfl, rfl, rfl⟩ rfl T.xn_Fallen (ok_Fallen_init T) (hr.mono (by decide)) T.b_Fallen_init (by rfl) T.m_Fallen (pa_cons (cv 5) pa_nil)))))))), ?_⟩
    have nlp : l ≠ p := ne_of hl hp (by intro z; cases z)
    have mu : ∀ x ∈ [p, l], ∃ u, H x = some u ∧ isMu u := by
      intro x hx
      rcases List.mem_cons.mp hx with rfl | hx
      · exact ⟨_, hp, trivial⟩
      · rw [List.mem_singleton.mp hx]; exact ⟨_, hl, trivial⟩
    walk_at "w"
    refine ⟨p, _, dp, _, .int n, rfl, hp, T.c_Pen, T.na_Pen_asked, rfl, ?_⟩
    walk_at "w"
    refine ⟨p, _, dp, _, rfl, hp, T.c_Pen, T.na_Pen_asked, by walk_at "few", ?_⟩
    generalize hU : upd H p _ = H1
    have c1 : Kp [p, l] H H1 := by rw [← hU]; exact (Kp.of (Same.refl _)).wr (by simp)
    have hp1 : H1 p = some (.ins a.C_Pen dp (penF (n + 1) fl)) := by rw [← hU, upd_same]; rfl
    have hl1 : H1 l = some (.lst xs) := by rw [← hU, upd_ne nlp]; exact hl
    clear hU
    walk_at "w"
    refine ⟨p, dp, _, rfl, hp1, rfl, ?_⟩
    walk_at "w"
    refine ⟨p, dp, n, _, fl, oc, rfl, hn, hp1, hf.kp mu c1, fun v H2 s2 hv => ?_⟩
    have c2 := c1.same s2
    cases hw : howOf oc n with
    | none =>
      rw [hw] at hv
      obtain rfl : v = .non := hv
      walk_at "w"
      refine ⟨fun _ => ?_, by walk_at "no"⟩
      walk_at "w"
      refine ⟨l, xs, i, _, rfl, rfl, s2.at hl1, ixN_in h0 hi, ?_⟩
      exact k1 hw _ (c2.wr (by simp)) (by rw [upd_ne (Ne.symm nlp)]; exact s2.at hp1) upd_same
    | some t =>
      rw [hw] at hv
      have k2 := k2 (by rw [hw]; intro z; cases z)
      rw [hw] at k2
      have hd2 := s2.at hl1
      have hp2 := s2.at hp1
      have ht2 := ht.kp mu c2
      clear hl1 hp1 s2 c1
      have fin : ∀ (H3 : Hp), Kp [p, l] H H3 → H3 p = some (.ins a.C_Pen dp (penF (n + 1) fl)) → H3 l = some (.lst (tornL tf xs i.toNat val (some t))) → ∀ d, H3 d = none → E (.ref a.C_Fallen) (some d) (upd H3 d (.xd [("count", .int n)])) := fun H3 q1 q2 q3 d hd => by
        have hd0 : H d = none := by
          cases z : H d with
          | none => rfl
          | some u =>
            by_cases hm : d ∈ [p, l]
            · rcases List.mem_cons.mp hm with e | e
              · rw [e, q2] at hd; cases hd
              · rw [List.mem_singleton.mp e, q3] at hd; cases hd
            · rw [q1 d u z hm] at hd; cases hd
        exact k2 d _ (q1.mk hd0) (by rw [upd_ne (ne_of_none q2 hd)]; exact q2) (by rw [upd_ne (ne_of_none q3 hd)]; exact q3) hd0 upd_same
      cases t with
      | none =>
        obtain ⟨ta, rfl, hta⟩ := hv
        walk_at "w"
        refine ⟨by walk_at "no", fun _ => ?_⟩
        walk_at "w"
        refine ⟨fun σ' H' => σ' = [some (.ref p), some (.ref l), some (.int i), some val, some (.ref g), some (.int n), some (.ref ta)] ∧ H' = H2, ?_, ?_⟩
        · walk_at "w"
          refine ⟨ta, _, rfl, .inr (SqT.of hta), ?_⟩
          walk_at "w"
          refine ⟨by walk_at "no", fun _ => ⟨rfl, rfl⟩⟩
        · rintro σ' H' ⟨rfl, rfl⟩
          walk_at "w"
          exact ⟨.int n, rfl, fin _ c2 hp2 hd2⟩
      | some s1 =>
        obtain ⟨ta, rfl, hta⟩ := hv
        walk_at "w"
        refine ⟨by walk_at "no", fun _ => ?_⟩
        walk_at "w"
        refine ⟨fun σ' H' => σ' = [some (.ref p), some (.ref l), some (.int i), some val, some (.ref g), some (.int n), some (.ref ta)] ∧ Kp [p, l] H H' ∧ H' p = some (.ins a.C_Pen dp (penF (n + 1) fl)) ∧ H' l = some (.lst (xs.set i.toNat (tf s1))), ?_, ?_⟩
        · walk_at "w"
          refine ⟨ta, _, rfl, .inr (SqT.of hta), ?_⟩
          walk_at "w"
          refine ⟨fun _ => ?_, by walk_at "no"⟩
          walk_at "w"
          refine ⟨g, rfl, ht2.clo, ?_⟩
          walk_at "w"
          refine ⟨ta, _, 0, .int s1, rfl, rfl, SqT.of hta, rfl, ?_⟩
          walk_at "w"
          refine fnv_torn T ht2 ?_
          walk_at "w"
          refine ⟨l, xs, i, _, rfl, rfl, hd2, ixN_in h0 hi, ?_⟩
          exact ⟨rfl, c2.wr (by simp), by rw [upd_ne (Ne.symm nlp)]; exact hp2, upd_same⟩
        · rintro σ' H' ⟨rfl, q1, q2, q3⟩
          walk_at "w"
          exact ⟨.int n, rfl, fin _ q1 q2 q3⟩
theorem ok_Store_init (T : Txt K mg a) : FnOk P w K mg base CX0 3 a.f_Store_init a.d_Store_init ["self", "cells", "fall"] (sp_Store_init K a) := by
  refine T.F_Store_init.ok sc_Store_init (fun vs H Q E h => ?_) (fun cdv A outer s H vs Q E hr h => ?_)
  · obtain ⟨st, dx, l, cells, fl, rfl, _⟩ := h; rfl
  · obtain ⟨st, dx, l, cells, fl, rfl, hst, hl, k⟩ := h
    have nd := sc_Store_init.nd
    refine ⟨_, (pss_cons (ps_fld (cv 0) (pe_callTy call_list_of (by rfl) T.n_list bt_list (pa_cons (cv 1) pa_nil)) rfl)
    (pss_cons (ps_fld (cv 0) (pe_lst (pa_cons pe_int (pa_cons pe_int pa_nil))) rfl)
    (pss_one (ps_fld (cv 0) (pe_make T.mk_Pen (ok_Pen_init T) (hr.mono (by decide)) (by rfl) T.m_Pen T.b_Pen_init .nil pass0 (pa_cons (cv 2) pa_nil)) rfl)))), ?_⟩
    walk_at "w"
    refine ⟨l, _, rfl, .inl (SqL.of hl), ?_⟩
    intro ca hca
    walk_at "w"
    refine ⟨st, _, dx, _, rfl, by rw [upd_ne (ne_of_none hst hca)]; exact hst, T.c_Store, T.na_Store_cells, by walk_at "few", ?_⟩
    generalize hU1 : upd (upd H ca _) st _ = H1
    have k1 : Kp [st] H H1 := by rw [← hU1]; exact ((Kp.of (Same.refl _)).mk hca).wr (by simp)
    have f1 : H1 st = some (.ins a.C_Store dx [("cells", .ref ca)]) := by rw [← hU1, upd_same]; rfl
    have g1 : H1 ca = some (.lst (cells.map V.int)) := by rw [← hU1, upd_ne (Ne.symm (ne_of_none hst hca)), upd_same]
    have b1 : ∀ b, H1 b = none → H b = none ∧ b ≠ st ∧ b ≠ ca := fun b hb => by
      have n1 : b ≠ st := fun z => by rw [z, f1] at hb; cases hb
      have n2 : b ≠ ca := fun z => by rw [z, g1] at hb; cases hb
      rw [← hU1, upd_ne n1, upd_ne n2] at hb
      exact ⟨hb, n1, n2⟩
    clear hU1
    walk_at "w"
    walk_at "ss"
    intro na hna
    obtain ⟨na0, na1, na2⟩ := b1 na hna
    walk_at "w"
    refine ⟨st, _, dx, _, rfl, by rw [upd_ne (ne_of_none f1 hna)]; exact f1, T.c_Store, T.na_Store_notes, by walk_at "few", ?_⟩
    generalize hU2 : upd (upd H1 na _) st _ = H2
    have k2 : Kp [st] H H2 := by rw [← hU2]; exact (k1.mk na0).wr (by simp)
    have f2 : H2 st = some (.ins a.C_Store dx [("cells", .ref ca), ("notes", .ref na)]) := by rw [← hU2, upd_same]; rfl
    have g2 : H2 ca = some (.lst (cells.map V.int)) := by rw [← hU2, upd_ne (ne_of g1 f1 (by intro z; cases z)), upd_ne (Ne.symm na2)]; exact g1
    have m2 : H2 na = some (.lst ([some 0, some 0].map nV)) := by rw [← hU2, upd_ne na1, upd_same]; rfl
    have b2 : ∀ b, H2 b = none → H b = none ∧ b ≠ st ∧ b ≠ ca ∧ b ≠ na := fun b hb => by
      have n1 : b ≠ st := fun z => by rw [z, f2] at hb; cases hb
      have n3 : b ≠ na := fun z => by rw [z, m2] at hb; cases hb
      rw [← hU2, upd_ne n1, upd_ne n3] at hb
      exact ⟨(b1 b hb).1, n1, (b1 b hb).2.2, n3⟩
    clear hU2 b1
    walk_at "w"
    intro p dp hp hdp nep
    obtain ⟨p0, p1, p2, p3⟩ := b2 p hp
    obtain ⟨q0, q1, q2, q3⟩ := b2 dp hdp
    refine ⟨p, dp, fl, rfl, upd_same, ?_⟩
    refine ⟨rfl, ?_⟩
    walk_at "w"
    rw [upd_upd]
    have e3 : ∀ b, b ≠ p → b ≠ dp → ∀ o o', upd (upd H2 dp o) p o' b = H2 b := fun b n1 n2 o o' => by rw [upd_ne n1, upd_ne n2]
    refine ⟨st, _, dx, _, rfl, by rw [e3 _ (Ne.symm p1) (Ne.symm q1)]; exact f2, T.c_Store, T.na_Store_pen, by walk_at "few", ?_⟩
    refine k ⟨st, dx, ca, na, p, dp⟩ _ rfl (((k2.mk q0).mk p0).wr (by simp)) ⟨?_, ?_, ?_, ?_, Ne.symm na2, p1⟩ hca na0 p0
    · rw [upd_same]; rfl
    · rw [upd_ne (ne_of g2 f2 (by intro z; cases z)), e3 _ (Ne.symm p2) (Ne.symm q2)]; exact g2
    · rw [upd_ne na1, e3 _ (Ne.symm p3) (Ne.symm q3)]; exact m2
    · rw [upd_ne p1, upd_same]
theorem ok_Store_refuse_lacking (T : Txt K mg a) : FnOk P w K mg base (CXE P w) 3 a.f_Store_refuse_lacking a.d_Store_refuse_lacking ["self", "at"] (sp_refuse_lacking a) := by
  refine T.F_Store_refuse_lacking.okX sc_Store_refuse_lacking (fun vs H Q E h => ?_) (fun cdv A outer s H vs Q E hr h => ?_)
  · obtain ⟨S, cells, notes, n, i, fl, rfl, _⟩ := h; rfl
  · obtain ⟨S, cells, notes, n, i, fl, rfl, hS, k1, k2⟩ := h
    have nd := sc_Store_refuse_lacking.nd
    refine ⟨_, (pss_one (cs_if (PW.pt (cw_or (ct_cmp o_lt (cv 1) pe_int) (pw_or1 (ct_cmp o_ge (cv 1) (pe_callB call_len_seq (by rfl) T.n_len bt_len (pa_cons (pe_fld (cv 0) rfl) pa_nil)))))) (pss_one (ps_raiseI (k := 1) ⟨rfl, rfl, rfl⟩ rfl T.xn_OutOfRoom (ok_OutOfRoom_init T) (hr.mono (by decide)) T.b_OutOfRoom_init (by rfl) T.m_OutOfRoom (pa_cons (cv 1) pa_nil))) pss_nil)), ?_⟩
    walk_at "w"
    refine ⟨fun e => ?_, fun e => ?_⟩
    · have e := of_decide_eq_true e
      walk_at "w"
      refine ⟨fun _ => ?_, by walk_at "no"⟩
      walk_at "w"
      exact ⟨_, rfl, k2 (fun z => by have := z.1; omega)⟩
    · have e := of_decide_eq_false e
      walk_at "w"
      refine ⟨S.st, _, S.dx, _, .ref S.ca, rfl, hS.st, T.c_Store, T.na_Store_cells, rfl, ?_⟩
      walk_at "w"
      refine ⟨S.ca, _, rfl, .inl (SqL.of hS.ca), ?_⟩
      walk_at "w"
      rw [List.length_map]
      refine ⟨fun e1 => ?_, fun e1 => ?_⟩
      · have e1 := of_decide_eq_true e1
        walk_at "w"
        exact ⟨_, rfl, k2 (fun z => by have := z.2; omega)⟩
      · have e1 := of_decide_eq_false e1
        exact k1 ⟨by omega, by omega⟩
theorem ok_Store_read (T : Txt K mg a) : FnOk P w K mg base (CXE P w) 4 a.f_Store_read a.d_Store_read ["self", "at"] (sp_read a) := by
  refine T.F_Store_read.okX sc_Store_read (fun vs H Q E h => ?_) (fun cdv A outer s H vs Q E hr h => ?_)
  · obtain ⟨S, cells, notes, n, i, fl, rfl, _⟩ := h; rfl
  · obtain ⟨S, cells, notes, n, i, fl, rfl, hS, k1, k2⟩ := h
    have nd := sc_Store_read.nd
    refine ⟨_, (pss_cons (ps_expr (pe_methX ⟨rfl, rfl, rfl⟩ (cv 0) T.c_Store T.me_Store_refuse_lacking (ok_Store_refuse_lacking T) (hr.mono (by decide)) T.b_Store_refuse_lacking .nil (pa_cons (cv 1) pa_nil)))
    (pss_one (ps_ret (pe_ix ix_list (pe_fld (cv 0) rfl) (cv 1) (fun _ _ => rfl))))), ?_⟩
    walk_at "w"
    refine ⟨S.st, S.dx, _, rfl, hS.st, rfl, ?_⟩
    walk_at "w"
    refine ⟨S, cells, notes, n, i, fl, rfl, hS, fun e => ?_, k2⟩
    walk_at "w"
    refine ⟨S.st, _, S.dx, _, .ref S.ca, rfl, hS.st, T.c_Store, T.na_Store_cells, rfl, ?_⟩
    walk_at "w"
    have hlt : i.toNat < cells.length := by omega
    refine ⟨S.ca, _, i, .int cells[i.toNat], rfl, rfl, SqL.of hS.ca, atI_in e.1 (List.getElem?_eq_getElem hlt), ?_⟩
    exact k1 e _ (List.getElem?_eq_getElem hlt)
theorem ok_Store_write (T : Txt K mg a) : FnOk P w K mg base (CXE P w) 6 a.f_Store_write a.d_Store_write ["self", "at", "sign"] (sp_write a) := by
  refine T.F_Store_write.okXC T.cd_Store_write sc_Store_write (fun vs H Q E h => ?_) (fun A outer s H vs Q E hr h => ?_)
  · obtain ⟨S, cells, notes, n, i, s, fl, oc, rfl, _⟩ := h; rfl
  · obtain ⟨S, cells, notes, n, i, sg, fl, oc, rfl, hS, hf, hn, hP, k1, k2, k3⟩ := h
    have nd := sc_Store_write.nd
    refine ⟨_, (pss_cons (ps_expr (pe_methX ⟨rfl, rfl, rfl⟩ (cv 0) T.c_Store T.me_Store_refuse_lacking (ok_Store_refuse_lacking T) (hr.mono (by decide)) T.b_Store_refuse_lacking .nil (pa_cons (cv 1) pa_nil)))
    (pss_one (ps_expr (pe_methX ⟨rfl, rfl, rfl⟩ (pe_fld (cv 0) rfl) T.c_Pen T.me_Pen_write_into (ok_Pen_write_into T) (hr.mono (by decide)) T.b_Pen_write_into .nil (pa_cons (pe_fld (cv 0) rfl) (pa_cons (cv 1) (pa_cons (cv 2) (pa_cons (ce_lambda (c := c_Store_write) (P := P_Store_write) (qs := qs_Store_write) (fns := []) rfl T.tk_Store_write (q := "Store.write.<locals>.<lambda>") (by kernel_rfl) (.head _) (by kernel_rfl) (by kernel_rfl)) pa_nil)))))))), ?_⟩
    walk_at "w"
    refine ⟨S.st, S.dx, _, rfl, hS.st, rfl, ?_⟩
    walk_at "w"
    refine ⟨S, cells, notes, n, i, fl, rfl, hS, fun e => ?_, k3⟩
    walk_at "w"
    refine ⟨S.st, _, S.dx, _, .ref S.p, rfl, hS.st, T.c_Store, T.na_Store_pen, rfl, ?_⟩
    walk_at "w"
    refine ⟨S.p, S.dp, _, rfl, hS.p, rfl, ?_⟩
    walk_at "w"
    refine ⟨S.st, _, S.dx, _, .ref S.ca, rfl, hS.st, T.c_Store, T.na_Store_cells, rfl, ?_⟩
    walk_at "w"
    refine ⟨hP, [], rfl, (fun x v m => nomatch m), fun g H1 hg s1 hc => ?_⟩
    walk_at "w"
    have c1 : Kp (SS S) H H1 := Kp.of s1
    have hS1 := hS.same s1
    refine ⟨S.p, S.dp, S.ca, g, i, n, .int sg, fl, _, oc, _, rfl, hS1.p, hn, hf.kp hS.mu c1, hS1.ca, e.1, by rw [List.length_map]; exact e.2, .inl ⟨hc, rfl⟩, fun hw H2 q1 q2 q3 => ?_, fun hw d H2 q1 q2 q3 q4 q5 => ?_⟩
    · have q : Kp (SS S) H H2 := c1.trans (q1.mono (by simp))
      refine k1 e hw H2 q ⟨q _ _ hS.st hS.nst, by rw [q3, List.map_set], q1 _ _ hS1.na (by simp [Ne.symm hS.npn, Ne.symm hS.ne]), q2, hS.ne, hS.np⟩
    · have q : Kp (SS S) H H2 := c1.trans (q1.mono (by simp))
      refine k2 e hw d H2 q ⟨q _ _ hS.st hS.nst, by rw [q3, torn_W], q1 _ _ hS1.na (by simp [Ne.symm hS.npn, Ne.symm hS.ne]), q2, hS.ne, hS.np⟩ (s1.back q4) q5
theorem ok_Store_note_down (T : Txt K mg a) : FnOk P w K mg base (CXE P w) 6 a.f_Store_note_down a.d_Store_note_down ["self", "at", "number"] (sp_note_down a) := by
  refine T.F_Store_note_down.okXC T.cd_Store_note_down sc_Store_note_down (fun vs H Q E h => ?_) (fun A outer s H vs Q E hr h => ?_)
  · obtain ⟨S, cells, notes, n, i, m, fl, oc, rfl, _⟩ := h; rfl
  · obtain ⟨S, cells, notes, n, i, m, fl, oc, rfl, hS, hf, hn, hP, h0, hi, k1, k2⟩ := h
    have nd := sc_Store_note_down.nd
    refine ⟨_, (pss_one (ps_expr (pe_methX ⟨rfl, rfl, rfl⟩ (pe_fld (cv 0) rfl) T.c_Pen T.me_Pen_write_into (ok_Pen_write_into T) (hr.mono (by decide)) T.b_Pen_write_into .nil (pa_cons (pe_fld (cv 0) rfl) (pa_cons (cv 1) (pa_cons (cv 2) (pa_cons (ce_lambda (c := c_Store_note_down) (P := P_Store_note_down) (qs := qs_Store_note_down) (fns := []) rfl T.tk_Store_note_down (q := "Store.note_down.<locals>.<lambda>") (by kernel_rfl) (.head _) (by kernel_rfl) (by kernel_rfl)) pa_nil))))))), ?_⟩
    walk_at "w"
    refine ⟨S.st, _, S.dx, _, .ref S.p, rfl, hS.st, T.c_Store, T.na_Store_pen, rfl, ?_⟩
    walk_at "w"
    refine ⟨S.p, S.dp, _, rfl, hS.p, rfl, ?_⟩
    walk_at "w"
    refine ⟨S.st, _, S.dx, _, .ref S.na, rfl, hS.st, T.c_Store, T.na_Store_notes, rfl, ?_⟩
    walk_at "w"
    refine ⟨hP, [], rfl, (fun x v m => nomatch m), fun g H1 hg s1 hc => ?_⟩
    walk_at "w"
    have c1 : Kp (SS S) H H1 := Kp.of s1
    have hS1 := hS.same s1
    refine ⟨S.p, S.dp, S.na, g, i, n, .int m, fl, _, oc, _, rfl, hS1.p, hn, hf.kp hS.mu c1, hS1.na, h0, by rw [List.length_map]; exact hi, .inr ⟨hc, rfl⟩, fun hw H2 q1 q2 q3 => ?_, fun hw d H2 q1 q2 q3 q4 q5 => ?_⟩
    · have q : Kp (SS S) H H2 := c1.trans (q1.mono (by simp))
      refine k1 hw H2 q ⟨q _ _ hS.st hS.nst, q1 _ _ hS1.ca (by simp [Ne.symm hS.npc, hS.ne]), by rw [q3, List.map_set]; rfl, q2, hS.ne, hS.np⟩
    · have q : Kp (SS S) H H2 := c1.trans (q1.mono (by simp))
      refine k2 hw d H2 q ⟨q _ _ hS.st hS.nst, q1 _ _ hS1.ca (by simp [Ne.symm hS.npc, hS.ne]), by rw [q3, torn_N], q2, hS.ne, hS.np⟩ (s1.back q4) q5
theorem ok_Store_mark (T : Txt K mg a) : FnOk P w K mg base (CXE P w) 7 a.f_Store_mark a.d_Store_mark ["self", "number"] (sp_mark a) := by
  refine T.F_Store_mark.okX sc_Store_mark (fun vs H Q E h => ?_) (fun cdv A outer s H vs Q E hr h => ?_)
  · obtain ⟨S, cells, notes, n, m, fl, oc, rfl, _⟩ := h; rfl
  · obtain ⟨S, cells, notes, n, m, fl, oc, rfl, hS, hf, hn, hP, h2, k1, k2⟩ := h
    have nd := sc_Store_mark.nd
    refine ⟨_, (pss_one (ps_expr (pe_methX ⟨rfl, rfl, rfl⟩ (cv 0) T.c_Store T.me_Store_note_down (ok_Store_note_down T) (hr.mono (by decide)) T.b_Store_note_down .nil (pa_cons (pe_op o_mod (cv 1) pe_int) (pa_cons (cv 1) pa_nil))))), ?_⟩
    walk_at "w"
    refine ⟨S.st, S.dx, _, rfl, hS.st, rfl, ?_⟩
    walk_at "w"
    walk_at "ss"
    exact ⟨S, cells, notes, n, m % 2, m, fl, oc, rfl, hS, hf, hn, hP, by omega, by rw [h2]; omega, k1, k2⟩
theorem FalS.imp {H : Hp} {S : SA} {cells : List Int} {notes : List (Option Int)} {n c : Int} {fl : V} {E : XK} {H1 : Hp} (k : FalS a H S cells notes n fl c E) (h : Kp (SS S) H H1) (b : ∀ d, H1 d = none → H d = none) : FalS a H1 S cells notes n fl c E :=
  fun d H' q1 q2 q3 q4 => k d H' (h.trans q1) q2 (b d q3) q4
theorem back_of {H H1 : Hp} {S : SA} {cells cells' : List Int} {notes notes' : List (Option Int)} {n n' : Int} {fl : V} (hS : StAt a H S cells notes n fl) (h : Kp (SS S) H H1) (hS1 : StAt a H1 S cells' notes' n' fl) : ∀ d, H1 d = none → H d = none := fun d hd => by
  cases z : H d with
  | none => rfl
  | some u =>
    by_cases hm : d ∈ SS S
    · obtain ⟨u', e, _⟩ := hS1.mu d hm
      rw [e] at hd; cases hd
    · rw [h d u z hm] at hd; cases hd
theorem ok_Store_begin (T : Txt K mg a) : FnOk P w K mg base (CXE P w) 7 a.f_Store_begin a.d_Store_begin ["self"] (sp_begin a) := by
  refine T.F_Store_begin.okX sc_Store_begin (fun vs H Q E h => ?_) (fun cdv A outer s H vs Q E hr h => ?_)
  · obtain ⟨S, cells, notes, n, fl, oc, rfl, _⟩ := h; rfl
  · obtain ⟨S, cells, notes, n, fl, oc, rfl, hS, hf, hn, hn1, hP, h2, k1, k2, k3⟩ := h
    have nd := sc_Store_begin.nd
    refine ⟨_, (pss_cons (ps_expr (pe_methX ⟨rfl, rfl, rfl⟩ (cv 0) T.c_Store T.me_Store_note_down (ok_Store_note_down T) (hr.mono (by decide)) T.b_Store_note_down .nil (pa_cons pe_int (pa_cons pe_int pa_nil))))
    (pss_one (ps_expr (pe_methX ⟨rfl, rfl, rfl⟩ (cv 0) T.c_Store T.me_Store_note_down (ok_Store_note_down T) (hr.mono (by decide)) T.b_Store_note_down .nil (pa_cons pe_int (pa_cons pe_int pa_nil)))))), ?_⟩
    walk_at "w"
    refine ⟨S.st, S.dx, _, rfl, hS.st, rfl, ?_⟩
    walk_at "w"
    refine ⟨S, cells, notes, n, 0, 0, fl, oc, rfl, hS, hf, hn, hP, by omega, by rw [h2]; omega, fun hw H1 q1 hS1 => ?_, k2⟩
    walk_at "w"
    refine ⟨S.st, S.dx, _, rfl, hS1.st, rfl, ?_⟩
    walk_at "w"
    refine ⟨S, cells, _, n + 1, 1, 0, fl, oc, rfl, hS1, hf.kp hS.mu q1, hn1, q1 _ _ hP (fun z => ?_), by omega, by rw [List.length_set, h2]; omega, fun hw1 H2 q2 hS2 => ?_, fun hw1 => ?_⟩
    · obtain ⟨u, e, i⟩ := hS.mu _ z
      rw [hP] at e; cases e; exact i
    · exact k1 hw hw1 H2 (q1.trans q2) hS2
    · exact (k3 hw hw1).imp q1 (back_of hS q1 hS1)
theorem ok_Store_told (T : Txt K mg a) : FnOk P w K mg base CX0 1 a.f_Store_told a.d_Store_told ["self"] (sp_told a) := by
  refine T.F_Store_told.ok sc_Store_told (fun vs H Q E h => ?_) (fun cdv A outer s H vs Q E hr h => ?_)
  · obtain ⟨S, cells, notes, n, fl, rfl, _⟩ := h; rfl
  · obtain ⟨S, cells, notes, n, fl, rfl, hS, k⟩ := h
    have nd := sc_Store_told.nd
    refine ⟨_, (pss_one (ps_ret (pe_tup (pa_cons (pe_callTy call_list_of (by rfl) T.n_list bt_list (pa_cons (pe_fld (cv 0) rfl) pa_nil)) (pa_cons (pe_callTy call_list_of (by rfl) T.n_list bt_list (pa_cons (pe_fld (cv 0) rfl) pa_nil)) (pa_cons (pe_fld (pe_fld (cv 0) rfl) rfl) pa_nil)))))), ?_⟩
    walk_at "w"
    refine ⟨S.st, _, S.dx, _, .ref S.ca, rfl, hS.st, T.c_Store, T.na_Store_cells, rfl, ?_⟩
    walk_at "w"
    refine ⟨S.ca, _, rfl, .inl (SqL.of hS.ca), ?_⟩
    intro c hc
    generalize hUc : upd H c _ = H1
    have sH1 := Same.of_eq hc hUc
    have ec := at_of_eq hUc
    clear hUc
    walk_at "w"
    have hS1 := hS.same sH1
    refine ⟨S.st, _, S.dx, _, .ref S.na, rfl, hS1.st, T.c_Store, T.na_Store_notes, rfl, ?_⟩
    walk_at "w"
    refine ⟨S.na, _, rfl, .inl (SqL.of hS1.na), ?_⟩
    intro m hm
    generalize hUm : upd H1 m _ = H2
    have sH2 := Same.of_eq hm hUm
    have em := at_of_eq hUm
    clear hUm
    walk_at "w"
    have hS2 := hS1.same sH2
    refine ⟨S.st, _, S.dx, _, .ref S.p, rfl, hS2.st, T.c_Store, T.na_Store_pen, rfl, ?_⟩
    walk_at "w"
    refine ⟨S.p, _, S.dp, _, .int n, rfl, hS2.p, T.c_Pen, T.na_Pen_asked, rfl, ?_⟩
    walk_at "w"
    walk_at "ss"
    intro t ht
    generalize hUt : upd H2 t _ = H3
    have sH3 := Same.of_eq ht hUt
    have et := at_of_eq hUt
    clear hUt
    walk_at "w"
    exact k t c m H3 (sH1.trans (sH2.trans sH3)) hc (sH1.back hm) (ne_of_none ec hm) et (sH3.at (sH2.at ec)) (sH3.at em)
theorem filt_notes : ∀ notes : List (Option Int), ((notes.map nV).filter fun v => !(isN v)).map (fun v => v) = (notes.filterMap id).map V.int
  | [] => rfl
  | none :: r => by
    have := filt_notes r
    simpa [nV, isN] using this
  | some i :: r => by
    have := filt_notes r
    simpa [nV, isN] using this
theorem ok_Store_noted (T : Txt K mg a) : FnOk P w K mg base CX0 1 a.f_Store_noted a.d_Store_noted ["self"] (sp_Snoted a) := by
  refine T.F_Store_noted.ok sc_Store_noted (fun vs H Q E h => ?_) (fun cdv A outer s H vs Q E hr h => ?_)
  · obtain ⟨S, cells, notes, n, fl, rfl, _⟩ := h; rfl
  · obtain ⟨S, cells, notes, n, fl, rfl, hS, h2, k⟩ := h
    have nd := sc_Store_noted.nd
    refine ⟨_, (pss_one (ps_ret (pe_maxD rfl (by rfl) T.n_max (pa_cons (pe_comp (blk_mk (cap := []) (ys := []) rfl rfl rfl rfl rfl trivial (by decide +kernel)) rfl (pi_list (pe_fld (cv 0) rfl)) (fun _ _ _ _ => (cv 0)) (fun _ _ _ _ => (cts_one (ct_notN (cv 0))))) pa_nil) pe_int))), ?_⟩
    walk_at "w"
    refine ⟨S.st, _, S.dx, _, .ref S.na, rfl, hS.st, T.c_Store, T.na_Store_notes, rfl, ?_⟩
    walk_at "w"
    refine ⟨S.na, rfl, ⟨_, SqL.of hS.na⟩, ?_⟩
    refine comp_listF (fun v => !(isN v)) (fun v => v) (SqL.of hS.na) (by rw [List.length_map, h2]; decide) (fun x H3 hx s3 R hR => ?_) (fun x H3 hx hp s3 R hR => ?_) (fun D H' hD s' e' => ?_)
    · exact hR H3 (Same.refl _)
    · exact hR H3 (Same.refl _)
    · rw [filt_notes] at e'
      exact ⟨D, _, 0, rfl, rfl, SqL.of e', fun m h1 h2 => k m H' s' ⟨h1, h2⟩⟩
theorem ok_refused (T : Txt K mg a) : FnOk P w K mg base CX0 8 a.f_refused a.d_refused ["_law_store", "_law_deed_here", "_law_at", "_law_sign"] (sp_refused a) := by
  refine T.F_refused.ok sc_refused (fun vs H Q E h => ?_) (fun cdv A outer s H vs Q E hr h => ?_)
  · obtain ⟨S, cells, notes, n, d, i, s, fl, oc, rfl, _⟩ := h; rfl
  · obtain ⟨S, cells, notes, n, d, i, s, fl, oc, rfl, hS, hf, hn, hn1, hP1, hP2, h2, hd0, hd3, k⟩ := h
    have nd := sc_refused.nd
    refine ⟨_, (pss_cons (ps_set (i := 4) nd rfl (Or.inl rfl) (pe_lst pa_nil))
    (pss_cons (ps_tryAs2 (i := 5) ⟨rfl, rfl, rfl⟩ T.xc_Fallen (by rfl) T.m_Fallen T.xc_OutOfRoom (by rfl) T.m_OutOfRoom nd rfl rfl (fun _ _ => (pss_cons (cs_cut (cs_if (ct_cmp o_eqI (cv 1) pe_int) (pss_one (ps_expr (pe_methX ⟨rfl, rfl, rfl⟩ (cv 0) T.c_Store T.me_Store_read (ok_Store_read T) (hr.mono (by decide)) T.b_Store_read .nil (pa_cons (cv 2) pa_nil)))) pss_nil))
    (pss_cons (cs_cut (cs_if (ct_cmp o_eqI (cv 1) pe_int) (pss_one (ps_expr (pe_methX ⟨rfl, rfl, rfl⟩ (cv 0) T.c_Store T.me_Store_write (ok_Store_write T) (hr.mono (by decide)) T.b_Store_write .nil (pa_cons (cv 2) (pa_cons (cv 3) pa_nil))))) pss_nil))
    (pss_cons (cs_cut (cs_if (ct_cmp o_eqI (cv 1) pe_int) (pss_one (ps_expr (pe_methX ⟨rfl, rfl, rfl⟩ (cv 0) T.c_Store T.me_Store_mark (ok_Store_mark T) (hr.mono (by decide)) T.b_Store_mark .nil (pa_cons (cv 3) pa_nil)))) pss_nil))
    (pss_one (cs_if (ct_cmp o_eqI (cv 1) pe_int) (pss_one (ps_expr (pe_methX0 ⟨rfl, rfl, rfl⟩ (cv 0) T.c_Store T.me_Store_begin (ok_Store_begin T) (hr.mono (by decide)) T.b_Store_begin .nil))) pss_nil)))))) (fun _ _ _ _ ep => (pss_one (ps_set (i := 4) nd rfl (Or.inl rfl) (pe_lst (pa_cons (pe_callB (r := rIsiX K _ _ _) (call_isiX ep fun _ z => List.mem_append_right _ z) (by rfl) T.n_isinstance bt_isinstance (pa_cons (cv 5) (pa_cons (pe_glob (v := .ref a.C_OutOfRoom) (by rfl) T.m_OutOfRoom rfl) pa_nil))) (pa_cons (pe_callB (r := rIsiX K _ _ _) (call_isiX ep fun _ z => List.mem_append_right _ z) (by rfl) T.n_isinstance bt_isinstance (pa_cons (cv 5) (pa_cons (pe_glob (v := .ref a.C_RoomError) (by rfl) T.m_RoomError rfl) pa_nil))) (pa_cons (pe_callB (r := rIsiX K _ _ _) (call_isiX ep fun _ z => List.mem_append_right _ z) (by rfl) T.n_isinstance bt_isinstance (pa_cons (cv 5) (pa_cons (pe_bltn (v := .ty "ValueError") (by rfl) T.n_ValueError PyProof.Rows.Boot.«ValueError» rfl) pa_nil))) (pa_cons (pe_fldE (K := K) rfl ep (by exact fun _ z => List.mem_append_right _ z) (cv 5) rfl) pa_nil)))))))) (fun _ _ _ _ ep => (pss_one (ps_set (i := 4) nd rfl (Or.inl rfl) (pe_lst (pa_cons pe_bl (pa_cons (pe_callB (r := rIsiX K _ _ _) (call_isiX ep fun _ z => List.mem_append_right _ z) (by rfl) T.n_isinstance bt_isinstance (pa_cons (cv 5) (pa_cons (pe_glob (v := .ref a.C_RoomError) (by rfl) T.m_RoomError rfl) pa_nil))) (pa_cons (pe_callB (r := rIsiX K _ _ _) (call_isiX ep fun _ z => List.mem_append_right _ z) (by rfl) T.n_isinstance bt_isinstance (pa_cons (cv 5) (pa_cons (pe_bltn (v := .ty "ValueError") (by rfl) T.n_ValueError PyProof.Rows.Boot.«ValueError» rfl) pa_nil))) (pa_cons (pe_fldE (K := K) rfl ep (by exact fun _ z => List.mem_append_right _ z) (cv 5) rfl) pa_nil)))))))))
    (pss_one (ps_ret (cv 4))))), ?_⟩
    walk_at "w"
    walk_at "ss"
    intro l0 hl0
    generalize hUl0 : upd H l0 _ = H0
    have sH0 := Same.of_eq hl0 hUl0
    have el0 := at_of_eq hUl0
    clear hUl0
    walk_at "w"
    have hS0 := hS.same sH0
    have hf0 := hf.kp hS.mu (Kp.of sH0)
    have nl0 : l0 ∉ SS S := fun z => by
      obtain ⟨u, e, _⟩ := hS.mu _ z
      rw [hl0] at e; cases e
    generalize hEE : EEtry2 _ _ _ _ _ _ _ = EE
    have fell : ∀ (c : Int) (dd : Addr) (H' : Hp), H' dd = some (.xd [("count", .int c)]) → (∀ l, H' l = none → Q (.ref l) (upd H' l (.lst (kindsV (.fell c))))) → EE [some (.ref S.st), some (.int d), some (.int i), some (.int s), some (.ref l0), none] (.ref a.C_Fallen) (some dd) H' := by
      intro c dd H' hdd q
      rw [← hEE]
      refine ⟨a.C_Fallen, rfl, .inl ⟨T.kc_Fallen_Fallen, fun x hx => ?_⟩⟩
      walk_at "w"
      refine ⟨_, _, _, _, rfl, .inr ⟨dd, _, rfl, hdd⟩, T.xi_Fallen, rfl, rfl, T.ik_Fallen_OutOfRoom, ?_⟩
      walk_at "w"
      refine ⟨_, _, _, _, rfl, .inr ⟨dd, _, rfl, hdd⟩, T.xi_Fallen, rfl, rfl, T.ik_Fallen_RoomError, ?_⟩
      walk_at "w"
      refine ⟨_, _, _, _, rfl, .inr ⟨dd, _, rfl, hdd⟩, T.xi_Fallen, rfl, rfl, T.ik_Fallen_ValueError, ?_⟩
      walk_at "w"
      refine ⟨_, dd, _, .int c, rfl, rfl, rfl, hdd, T.xi_Fallen, T.hd_Fallen, T.na_Fallen_count, rfl, ?_⟩
      walk_at "w"
      walk_at "ss"
      exact q
    have outs : ∀ (c : Int) (dd : Addr) (H' : Hp), H' dd = some (.xd [("at", .int c)]) → (∀ l, H' l = none → Q (.ref l) (upd H' l (.lst (kindsV (.out c))))) → EE [some (.ref S.st), some (.int d), some (.int i), some (.int s), some (.ref l0), none] (.ref a.C_OutOfRoom) (some dd) H' := by
      intro c dd H' hdd q
      rw [← hEE]
      refine ⟨a.C_OutOfRoom, rfl, .inr ⟨T.kc_OutOfRoom_Fallen, T.kc_OutOfRoom_OutOfRoom, fun x hx => ?_⟩⟩
      walk_at "w"
      refine ⟨_, _, _, _, rfl, .inr ⟨dd, _, rfl, hdd⟩, T.xi_OutOfRoom, rfl, rfl, T.ik_OutOfRoom_RoomError, ?_⟩
      walk_at "w"
      refine ⟨_, _, _, _, rfl, .inr ⟨dd, _, rfl, hdd⟩, T.xi_OutOfRoom, rfl, rfl, T.ik_OutOfRoom_ValueError, ?_⟩
      walk_at "w"
      refine ⟨_, dd, _, .int c, rfl, rfl, rfl, hdd, T.xi_OutOfRoom, T.hd_OutOfRoom, T.na_OutOfRoom_at, rfl, ?_⟩
      walk_at "w"
      walk_at "ss"
      exact q
    clear hEE
    -- an end with nothing told, with a fall, with a place beyond
    have fin0 : ∀ (x : List Int × List (Option Int) × Int × Out), deedS oc cells notes n d i s = x → x.2.2.2 = .ok → ∀ H', Kp (SS S) H0 H' → StAt a H' S x.1 x.2.1 x.2.2.1 fl → Q (.ref l0) H' := by
      intro x hx ho H' q1 q2
      rw [hx] at k
      exact k l0 H' ((Kp.of sH0).trans q1) q2 hl0 (by rw [ho]; exact q1 _ _ el0 nl0)
    have finF : ∀ (x : List Int × List (Option Int) × Int × Out) (c : Int), deedS oc cells notes n d i s = x → x.2.2.2 = .fell c → FalS a H0 S x.1 x.2.1 x.2.2.1 fl c (EE [some (.ref S.st), some (.int d), some (.int i), some (.int s), some (.ref l0), none]) := by
      intro x c hx ho dd H' q1 q2 q3 q4
      rw [hx, ho] at k
      have kp : Kp (SS S) H H' := (Kp.of sH0).trans q1
      refine fell c dd H' q4 fun l hl => ?_
      exact k l _ (kp.mk (back_of hS kp q2 l hl)) (q2.same (Same.new hl)) (back_of hS kp q2 l hl) upd_same
    have finO : ∀ (x : List Int × List (Option Int) × Int × Out), deedS oc cells notes n d i s = x → x = (cells, notes, n, .out i) → OutS a H0 i (EE [some (.ref S.st), some (.int d), some (.int i), some (.int s), some (.ref l0), none]) := by
      intro x hx ho dd hdd
      subst ho
      rw [hx] at k
      refine outs i dd _ upd_same fun l hl => ?_
      have e1 : H0 l = none := by
        rw [upd_ne (fun z => by rw [z, upd_same] at hl; cases hl)] at hl
        exact hl
      exact k l _ (((Kp.of sH0).mk (sH0.back hdd)).mk (sH0.back e1)) ((hS0.same (Same.new hdd)).same (Same.new hl)) (sH0.back e1) upd_same
    clear fell outs k
    have hd : d = 0 ∨ d = 1 ∨ d = 2 ∨ d = 3 := by omega
    rcases hd with rfl | rfl | rfl | rfl
    · skip
      refine ⟨fun σ' H' => σ' = [some (.ref S.st), some (.int 0), some (.int i), some (.int s), some (.ref l0), none] ∧ Q (.ref l0) H', ?_, ?_⟩
      · walk_at "w"
        refine ⟨fun _ => ?_, by walk_at "no"⟩
        walk_at "w"
        refine ⟨S.st, S.dx, _, rfl, hS0.st, rfl, ?_⟩
        walk_at "w"
        refine ⟨S, cells, notes, n, i, fl, rfl, hS0, fun e v _ => ?_, fun e => ?_⟩
        · exact ⟨rfl, fin0 (cells, notes, n, .ok) (by unfold deedS; rw [if_pos rfl, if_pos e]) rfl _ (Kp.of (Same.refl _)) hS0⟩
        · exact finO _ (by unfold deedS; rw [if_pos rfl, if_neg e]) rfl
      rintro σ' H' ⟨rfl, q⟩
      walk_at "w"
      refine ⟨fun σ' H' => σ' = [some (.ref S.st), some (.int 0), some (.int i), some (.int s), some (.ref l0), none] ∧ Q (.ref l0) H', ?_, ?_⟩
      · walk_at "w"
        exact ⟨by walk_at "no", fun _ => ⟨rfl, q⟩⟩
      rintro σ' H' ⟨rfl, q⟩
      walk_at "w"
      refine ⟨fun σ' H' => σ' = [some (.ref S.st), some (.int 0), some (.int i), some (.int s), some (.ref l0), none] ∧ Q (.ref l0) H', ?_, ?_⟩
      · walk_at "w"
        exact ⟨by walk_at "no", fun _ => ⟨rfl, q⟩⟩
      rintro σ' H' ⟨rfl, q⟩
      walk_at "w"
      exact ⟨by walk_at "no", fun _ => q⟩
    · skip
      refine ⟨fun σ' H' => σ' = [some (.ref S.st), some (.int 1), some (.int i), some (.int s), some (.ref l0), none] ∧ H0 = H', ?_, ?_⟩
      · walk_at "w"
        exact ⟨by walk_at "no", fun _ => ⟨rfl, rfl⟩⟩
      rintro σ' H' ⟨rfl, rfl⟩
      walk_at "w"
      refine ⟨fun σ' H' => σ' = [some (.ref S.st), some (.int 1), some (.int i), some (.int s), some (.ref l0), none] ∧ Q (.ref l0) H', ?_, ?_⟩
      · walk_at "w"
        refine ⟨fun _ => ?_, by walk_at "no"⟩
        walk_at "w"
        refine ⟨S.st, S.dx, _, rfl, hS0.st, rfl, ?_⟩
        walk_at "w"
        refine ⟨S, cells, notes, n, i, s, fl, oc, rfl, hS0, hf0, hn, sH0.at hP1, fun e hw H1 q1 q2 => ?_, fun e hw => ?_, fun e => ?_⟩
        · refine ⟨rfl, fin0 (cells.set i.toNat s, notes, n + 1, .ok) (by unfold deedS; rw [if_neg (by decide), if_pos rfl, if_pos e, hw]; rfl) rfl _ q1 q2⟩
        · refine finF (doW cells i.toNat s (howOf oc n), notes, n + 1, .fell n) n (by unfold deedS; rw [if_neg (by decide), if_pos rfl, if_pos e]; cases hw2 : howOf oc n with | none => exact absurd hw2 hw | some t => rfl) rfl
        · exact finO _ (by unfold deedS; rw [if_neg (by decide), if_pos rfl, if_neg e]) rfl
      rintro σ' H' ⟨rfl, q⟩
      walk_at "w"
      refine ⟨fun σ' H' => σ' = [some (.ref S.st), some (.int 1), some (.int i), some (.int s), some (.ref l0), none] ∧ Q (.ref l0) H', ?_, ?_⟩
      · walk_at "w"
        exact ⟨by walk_at "no", fun _ => ⟨rfl, q⟩⟩
      rintro σ' H' ⟨rfl, q⟩
      walk_at "w"
      exact ⟨by walk_at "no", fun _ => q⟩
    · skip
      refine ⟨fun σ' H' => σ' = [some (.ref S.st), some (.int 2), some (.int i), some (.int s), some (.ref l0), none] ∧ H0 = H', ?_, ?_⟩
      · walk_at "w"
        exact ⟨by walk_at "no", fun _ => ⟨rfl, rfl⟩⟩
      rintro σ' H' ⟨rfl, rfl⟩
      walk_at "w"
      refine ⟨fun σ' H' => σ' = [some (.ref S.st), some (.int 2), some (.int i), some (.int s), some (.ref l0), none] ∧ H0 = H', ?_, ?_⟩
      · walk_at "w"
        exact ⟨by walk_at "no", fun _ => ⟨rfl, rfl⟩⟩
      rintro σ' H' ⟨rfl, rfl⟩
      walk_at "w"
      refine ⟨fun σ' H' => σ' = [some (.ref S.st), some (.int 2), some (.int i), some (.int s), some (.ref l0), none] ∧ Q (.ref l0) H', ?_, ?_⟩
      · walk_at "w"
        refine ⟨fun _ => ?_, by walk_at "no"⟩
        walk_at "w"
        refine ⟨S.st, S.dx, _, rfl, hS0.st, rfl, ?_⟩
        walk_at "w"
        refine ⟨S, cells, notes, n, s, fl, oc, rfl, hS0, hf0, hn, sH0.at hP2, h2, fun hw H1 q1 q2 => ?_, fun hw => ?_⟩
        · refine ⟨rfl, fin0 (cells, notes.set (s % 2).toNat (some s), n + 1, .ok) (by unfold deedS; rw [if_neg (by decide), if_neg (by decide), if_pos rfl, hw]; rfl) rfl _ q1 q2⟩
        · refine finF (cells, doN notes (s % 2).toNat s (howOf oc n), n + 1, .fell n) n (by unfold deedS; rw [if_neg (by decide), if_neg (by decide), if_pos rfl]; cases hw2 : howOf oc n with | none => exact absurd hw2 hw | some t => rfl) rfl
      rintro σ' H' ⟨rfl, q⟩
      walk_at "w"
      exact ⟨by walk_at "no", fun _ => q⟩
    · skip
      refine ⟨fun σ' H' => σ' = [some (.ref S.st), some (.int 3), some (.int i), some (.int s), some (.ref l0), none] ∧ H0 = H', ?_, ?_⟩
      · walk_at "w"
        exact ⟨by walk_at "no", fun _ => ⟨rfl, rfl⟩⟩
      rintro σ' H' ⟨rfl, rfl⟩
      walk_at "w"
      refine ⟨fun σ' H' => σ' = [some (.ref S.st), some (.int 3), some (.int i), some (.int s), some (.ref l0), none] ∧ H0 = H', ?_, ?_⟩
      · walk_at "w"
        exact ⟨by walk_at "no", fun _ => ⟨rfl, rfl⟩⟩
      rintro σ' H' ⟨rfl, rfl⟩
      walk_at "w"
      refine ⟨fun σ' H' => σ' = [some (.ref S.st), some (.int 3), some (.int i), some (.int s), some (.ref l0), none] ∧ H0 = H', ?_, ?_⟩
      · walk_at "w"
        exact ⟨by walk_at "no", fun _ => ⟨rfl, rfl⟩⟩
      rintro σ' H' ⟨rfl, rfl⟩
      walk_at "w"
      refine ⟨fun _ => ?_, by walk_at "no"⟩
      walk_at "w"
      refine ⟨S.st, S.dx, _, rfl, hS0.st, rfl, ?_⟩
      walk_at "w"
      refine ⟨S, cells, notes, n, fl, oc, rfl, hS0, hf0, hn, hn1, sH0.at hP2, h2, fun hw hw1 H1 q1 q2 => ?_, fun hw => ?_, fun hw hw1 => ?_⟩
      · refine fin0 (cells, (notes.set 0 (some 0)).set 1 (some 0), n + 1 + 1, .ok) (by unfold deedS; rw [if_neg (by decide), if_neg (by decide), if_neg (by decide), if_pos hw, hw1]; rfl) rfl _ q1 q2
      · refine finF (cells, doN notes 0 0 (howOf oc n), n + 1, .fell n) n (by unfold deedS; rw [if_neg (by decide), if_neg (by decide), if_neg (by decide), if_neg hw]; cases hw2 : howOf oc n with | none => exact absurd hw2 hw | some t => rfl) rfl
      · refine finF (cells, doN (notes.set 0 (some 0)) 1 0 (howOf oc (n + 1)), n + 1 + 1, .fell (n + 1)) (n + 1) (by unfold deedS; rw [if_neg (by decide), if_neg (by decide), if_neg (by decide), if_pos hw]; cases hw2 : howOf oc (n + 1) with | none => exact absurd hw2 hw1 | some t => rfl) rfl
theorem ok_noted (T : Txt K mg a) : FnOk P w K mg base CX0 3 a.f_noted a.d_noted ["_law_stand", "_law_which", "_law_number", "_law_cell"] sp_noted := by
  refine T.F_noted.ok sc_noted (fun vs H Q E h => ?_) (fun cdv A outer s H vs Q E hr h => ?_)
  · obtain ⟨t, c, m, notes, n, i, k, cell, rfl, _⟩ := h; rfl
  · obtain ⟨t, c, m, notes, n, i, k, cell, rfl, ht, hm, hn, h0, hi, q⟩ := h
    have nd := sc_noted.nd
    refine ⟨_, (pss_cons (ps_asg (cv 0) (pg_tup rfl (pgs_cons (pg_name (i := 4) nd rfl (Or.inl rfl)) (pgs_cons (pg_name (i := 5) nd rfl (Or.inl rfl)) (pgs_cons (pg_name (i := 6) nd rfl (Or.inl rfl)) pgs_nil)))))
    (pss_cons (ps_set (i := 7) nd rfl (Or.inl rfl) (pe_call (ok_fall_at T) (hr.mono (by decide)) (by rfl) T.m_fall_at T.F_fall_at.kp T.b_fall_at .nil pass0 (pa_cons (cv 3) (pa_cons (cv 6) pa_nil))))
    (pss_cons (ps_set (i := 5) nd rfl (Or.inl rfl) (pe_callTy call_list_of (by rfl) T.n_list bt_list (pa_cons (cv 5) pa_nil)))
    (pss_cons (cs_cut (cs_if (ct_isN (cv 7)) (pss_one (ps_asg (cv 2) (pg_sub (cv 5) (cv 1) set_list))) (pss_one (cs_if (ct_cmp (o_dne hr.units) (cv 7) (pe_tup pa_nil)) (pss_one (ps_asg pe_non (pg_sub (cv 5) (cv 1) set_list))) pss_nil))))
    (pss_one (ps_ret (pe_tup (pa_cons (cv 4) (pa_cons (cv 5) (pa_cons (pe_op o_add (cv 6) pe_int) pa_nil)))))))))), ?_⟩
    walk_at "w"
    refine ⟨t, _, rfl, SqT.of ht, ?_⟩
    walk_at "w"
    refine And.intro rfl ?_
    walk_at "w"
    refine ⟨_, _, rfl, ?_⟩
    walk_at "w"
    refine ⟨_, _, rfl, ?_⟩
    walk_at "w"
    refine ⟨_, _, rfl, ?_⟩
    walk_at "w"
    refine And.intro rfl ?_
    walk_at "w"
    refine ⟨cell, n, rfl, hn, fun v H1 s1 hv => ?_⟩
    walk_at "w"
    refine ⟨m, _, rfl, .inl (SqL.of (s1.at hm)), ?_⟩
    intro mm hmm
    generalize hUmm : upd H1 mm _ = H2
    have sH2 := Same.of_eq hmm hUmm
    have emm := at_of_eq hUmm
    clear hUmm
    walk_at "w"
    have m0 := s1.back hmm
    have s2 := s1.trans sH2
    refine ⟨fun σ' H' => σ' = [some (.ref t), some (.int i), some (.int k), some (.int cell), some (.ref c), some (.ref mm), some (.int n), some v] ∧ Same H H' ∧ H' mm = some (.lst ((doN notes i.toNat k (fallAt cell n)).map nV)), ?_, ?_⟩
    · cases hw : fallAt cell n with
      | none =>
        rw [hw] at hv
        obtain rfl : v = .non := hv
        walk_at "w"
        refine ⟨fun _ => ?_, by walk_at "no"⟩
        walk_at "w"
        refine ⟨mm, _, i, _, rfl, rfl, emm, ixN_in h0 (by rw [List.length_map]; exact hi), ?_⟩
        exact ⟨rfl, s2.put m0, by rw [upd_same]; simp [doN, List.map_set, nV]⟩
      | some z =>
        rw [hw] at hv
        cases z with
        | none =>
          obtain ⟨ta, rfl, hta⟩ := hv
          walk_at "w"
          refine ⟨by walk_at "no", fun _ => ?_⟩
          walk_at "w"
          walk_at "ss"
          intro e he
          refine deq_same (d := .tuple []) (.tup (SqT.of (by rw [upd_ne (ne_of_none (sH2.at hta) he)]; exact sH2.at hta)) .nil) (.tup (SqT.of upd_same) .nil) rfl ?_
          walk_at "w"
          refine ⟨by walk_at "no", fun _ => ?_⟩
          exact ⟨rfl, s2.put (s2.back he), by rw [upd_ne (ne_of_none emm he)]; exact emm⟩
        | some s1 =>
          obtain ⟨ta, rfl, hta⟩ := hv
          walk_at "w"
          refine ⟨by walk_at "no", fun _ => ?_⟩
          walk_at "w"
          walk_at "ss"
          intro e he
          refine ⟨.tuple [.int s1], .tuple [], .tup (SqT.of (by rw [upd_ne (ne_of_none (sH2.at hta) he)]; exact sH2.at hta)) (.cons (.int _) .nil), .tup (SqT.of upd_same) .nil, rfl, rfl, ?_⟩
          rw [show PyData.eqv (.tuple [.int s1]) (.tuple []) = false from rfl]
          walk_at "w"
          refine ⟨fun _ => ?_, by walk_at "no"⟩
          walk_at "w"
          have emm' : upd H2 e (.tup []) mm = some (.lst (notes.map nV)) := by rw [upd_ne (ne_of_none emm he)]; exact emm
          refine ⟨mm, _, i, _, rfl, rfl, emm', ixN_in h0 (by rw [List.length_map]; exact hi), ?_⟩
          exact ⟨rfl, (s2.put (s2.back he)).put m0, by rw [upd_same]; simp [doN, List.map_set, nV]⟩
    · rintro σ' H' ⟨rfl, s3, e3⟩
      walk_at "w"
      walk_at "ss"
      intro t' ht'
      exact q t' mm _ (s3.put (s3.back ht')) m0 upd_same (by rw [upd_ne (ne_of_none e3 ht')]; exact e3)
theorem ok_begun (T : Txt K mg a) : FnOk P w K mg base CX0 9 a.f_begun a.d_begun ["_law_store", "_law_stand", "_law_cell"] (sp_begun a) := by
  refine T.F_begun.ok sc_begun (fun vs H Q E h => ?_) (fun cdv A outer s H vs Q E hr h => ?_)
  · obtain ⟨S, t, c, m, cells, notes, n, cell, fl, rfl, _⟩ := h; rfl
  · obtain ⟨S, t, c, m, cells, notes, n, cell, fl, rfl, p, q⟩ := h
    have nd := sc_begun.nd
    refine ⟨_, (pss_cons (ps_set (i := 3) nd rfl (Or.inl rfl) (pe_call (ok_noted T) (hr.mono (by decide)) (by rfl) T.m_noted T.F_noted.kp T.b_noted .nil pass0 (pa_cons (cv 1) (pa_cons pe_int (pa_cons pe_int (pa_cons (cv 2) pa_nil))))))
    (pss_cons (ps_set (i := 4) nd rfl (Or.inl rfl) (pe_lst (pa_cons pe_bl (pa_cons pe_bl (pa_cons pe_bl (pa_cons (pe_ix ix_tup (cv 1) pe_int (fun _ _ => rfl)) pa_nil))))))
    (pss_cons (cs_cut (cs_if (ct_isN (pe_call (ok_fall_at T) (hr.mono (by decide)) (by rfl) T.m_fall_at T.F_fall_at.kp T.b_fall_at .nil pass0 (pa_cons (cv 2) (pa_cons (pe_ix ix_tup (cv 1) pe_int (fun _ _ => rfl)) pa_nil)))) (pss_cons (ps_set (i := 4) nd rfl (Or.inl rfl) (pe_lst (pa_cons pe_bl (pa_cons pe_bl (pa_cons pe_bl (pa_cons (pe_ix ix_tup (cv 3) pe_int (fun _ _ => rfl)) pa_nil))))))
    (pss_cons (cs_cut (cs_if (ct_isN (pe_call (ok_fall_at T) (hr.mono (by decide)) (by rfl) T.m_fall_at T.F_fall_at.kp T.b_fall_at .nil pass0 (pa_cons (cv 2) (pa_cons (pe_ix ix_tup (cv 3) pe_int (fun _ _ => rfl)) pa_nil)))) (pss_one (ps_set (i := 4) nd rfl (Or.inl rfl) (pe_lst pa_nil))) pss_nil))
    (pss_one (ps_set (i := 3) nd rfl (Or.inl rfl) (pe_call (ok_noted T) (hr.mono (by decide)) (by rfl) T.m_noted T.F_noted.kp T.b_noted .nil pass0 (pa_cons (cv 3) (pa_cons pe_int (pa_cons pe_int (pa_cons (cv 2) pa_nil))))))))) pss_nil))
    (pss_cons (cs_if (ct_cmp (o_dne hr.units) (pe_call (ok_refused T) (hr.mono (by decide)) (by rfl) T.m_refused T.F_refused.kp T.b_refused .nil pass0 (pa_cons (cv 0) (pa_cons pe_int (pa_cons pe_int (pa_cons pe_int pa_nil))))) (cv 4)) (pss_one (ps_ret pe_non)) pss_nil)
    (pss_one (ps_ret (cv 3))))))), ?_⟩
    walk_at "w"
    refine ⟨t, c, m, notes, n, 0, 0, cell, rfl, p.C.1, p.C.2.2, p.n0, by omega, by rw [p.two]; omega, fun t1 m1 H1 s1 hm1 et1 em1 => ?_⟩
    have p1 := p.same s1
    walk_at "w"
    refine ⟨t, _, 2, .int n, rfl, rfl, SqT.of p1.C.1, rfl, ?_⟩
    walk_at "w"
    walk_at "ss"
    intro d1 hd1
    generalize hUd1 : upd H1 d1 _ = H2
    have sH2 := Same.of_eq hd1 hUd1
    have ed1 := at_of_eq hUd1
    clear hUd1
    walk_at "w"
    have p2 := p1.same sH2
    have s2 := s1.trans sH2
    have nd1 := fresh_nin p1.st hd1
    have nm1 := fresh_nin p.st hm1
    generalize hx : deedS (some cell) cells notes n 3 0 0 = x at q
    have hx3 : x = if fallAt cell n = none then (cells, doN (notes.set 0 (some 0)) 1 0 (fallAt cell (n + 1)), n + 1 + 1, outOf (fallAt cell (n + 1)) (n + 1)) else (cells, doN notes 0 0 (fallAt cell n), n + 1, outOf (fallAt cell n) n) := by
      rw [← hx]; unfold deedS; rw [if_neg (by decide), if_neg (by decide), if_neg (by decide)]; rfl
    refine ⟨fun σ' H' => ∃ tb mb db, σ' = [some (.ref S.st), some (.ref t), some (.int cell), some (.ref tb), some (.ref db)] ∧ Same H H' ∧ H mb = none ∧ H db = none ∧ H' tb = some (.tup [.ref c, .ref mb, .int x.2.2.1]) ∧ H' mb = some (.lst (x.2.1.map nV)) ∧ H' db = some (.lst (kindsV x.2.2.2)), ?_, ?_⟩
    · walk_at "w"
      refine ⟨t, _, 2, .int n, rfl, rfl, SqT.of p2.C.1, rfl, ?_⟩
      walk_at "w"
      refine ⟨cell, n, rfl, p.n0, fun v H3 s3 hv => ?_⟩
      have s03 := s2.trans s3
      cases hw : fallAt cell n with
      | some z =>
        rw [hw] at hv hx3 em1
        rw [if_neg (by intro z; cases z)] at hx3
        have hne : isN v = false := by
          rcases z with _ | z
          · obtain ⟨ta, rfl, _⟩ := hv; rfl
          · obtain ⟨ta, rfl, _⟩ := hv; rfl
        walk_at "w"
        rw [hne]
        refine ⟨by walk_at "no", fun _ => ?_⟩
        subst hx3
        exact ⟨t1, m1, d1, rfl, s03, hm1, s1.back hd1, s3.at (sH2.at et1), s3.at (sH2.at em1), s3.at ed1⟩
      | none =>
        rw [hw] at hv hx3 em1
        rw [if_pos rfl] at hx3
        obtain rfl : v = .non := hv
        walk_at "w"
        refine ⟨fun _ => ?_, by walk_at "no"⟩
        walk_at "w"
        have et3 := s3.at (sH2.at et1)
        refine ⟨t1, _, 2, .int (n + 1), rfl, rfl, SqT.of et3, rfl, ?_⟩
        walk_at "w"
        walk_at "ss"
        intro d2 hd2
        generalize hUd2 : upd H3 d2 _ = H4
        have sH4 := Same.of_eq hd2 hUd2
        have ed2 := at_of_eq hUd2
        clear hUd2
        walk_at "w"
        have s04 := s03.trans sH4
        refine ⟨fun σ' H' => ∃ db, σ' = [some (.ref S.st), some (.ref t), some (.int cell), some (.ref t1), some (.ref db)] ∧ Same H4 H' ∧ H db = none ∧ H' db = some (.lst (kindsV x.2.2.2)), ?_, ?_⟩
        · walk_at "w"
          refine ⟨t1, _, 2, .int (n + 1), rfl, rfl, SqT.of (sH4.at et3), rfl, ?_⟩
          walk_at "w"
          refine ⟨cell, n + 1, rfl, p.n1, fun v H5 s5 hv => ?_⟩
          cases hw2 : fallAt cell (n + 1) with
          | some z =>
            rw [hw2] at hv hx3
            have hne : isN v = false := by
              rcases z with _ | z
              · obtain ⟨ta, rfl, _⟩ := hv; rfl
              · obtain ⟨ta, rfl, _⟩ := hv; rfl
            walk_at "w"
            rw [hne]
            refine ⟨by walk_at "no", fun _ => ?_⟩
            subst hx3
            exact ⟨d2, rfl, s5, s03.back hd2, s5.at ed2⟩
          | none =>
            rw [hw2] at hv hx3
            obtain rfl : v = .non := hv
            walk_at "w"
            refine ⟨fun _ => ?_, by walk_at "no"⟩
            walk_at "w"
            walk_at "ss"
            intro d3 hd3
            subst hx3
            exact ⟨d3, rfl, s5.put (s5.back hd3), s04.back (s5.back hd3), upd_same⟩
        · rintro σ' H' ⟨db, rfl, s5, hdb, edb⟩
          walk_at "w"
          refine ⟨t1, c, m1, notes.set 0 (some 0), n + 1, 1, 0, cell, rfl, s5.at (sH4.at et3), ?_, p.n1, by omega, by rw [List.length_set, p.two]; omega, fun t2 m2 H6 s6 hm2 et2 em2 => ?_⟩
          · have := s5.at (sH4.at (s3.at (sH2.at em1)))
            exact this
          · subst hx3
            exact ⟨t2, m2, db, rfl, s04.trans (s5.trans s6), s04.back (s5.back hm2), hdb, et2, em2, s6.at edb⟩
    · rintro σ' H' ⟨tb, mb, db, rfl, s3, hmb, hdb, etb, emb, edb⟩
      have p3 := p.same s3
      walk_at "w"
      refine ⟨S, cells, notes, n, 3, 0, 0, fl, some cell, rfl, p3.st, p3.f, p.n0, p.n1, p3.w, p3.d, p.two, by omega, by omega, fun l H4 q1 hS4 hl el => ?_⟩
      rw [hx] at hS4 el
      have x1 : x.1 = cells := by rw [hx3]; split <;> rfl
      have nb : db ∉ SS S := fresh_nin p.st hdb
      have nmb : mb ∉ SS S := fresh_nin p.st hmb
      walk_at "w"
      refine deq_same (d := kindsD x.2.2.2) (kinds_rp el) (kinds_rp (q1 _ _ edb nb)) (kinds_sh _) ?_
      walk_at "w"
      refine ⟨by walk_at "no", fun _ => ?_⟩
      walk_at "w"
      refine q tb c mb H4 ((Kp.of s3).trans q1) hS4 (StandC.kp (cells := x.1) (notes := x.2.1) ⟨etb, by rw [x1]; exact p3.C.2.1, emb⟩ p3.st p.nc nmb q1) p.nc nmb
theorem set_cut (cells : List Int) (i s : Int) (h : inR cells i) : cutV (cells.map V.int) none (some i) ++ [V.int s] ++ cutV (cells.map V.int) (some (i + 1)) none = (cells.set i.toNat s).map V.int := by
  obtain ⟨h0, h1⟩ := h
  have e1 : cutV (cells.map V.int) none (some i) = (cells.take i.toNat).map V.int := by
    rw [cutV_ints, sIx_nn h0, HT.sIx_none, Nat.min_eq_left (by omega)]; rfl
  have e2 : cutV (cells.map V.int) (some (i + 1)) none = (cells.drop (i.toNat + 1)).map V.int := by
    rw [cutV_ints, sIx_nn (by omega), HT.sIx_none, show (i + 1).toNat = i.toNat + 1 by omega, Nat.min_eq_left (by omega), List.take_of_length_le (by rw [List.length_drop]; omega)]
  rw [e1, e2, List.set_eq_take_append_cons_drop, if_pos (by omega)]
  simp
theorem ok_written (T : Txt K mg a) : FnOk P w K mg base CX0 9 a.f_written a.d_written ["_law_store", "_law_stand", "_law_at", "_law_sign", "_law_cell"] (sp_written a) := by
  refine T.F_written.ok sc_written (fun vs H Q E h => ?_) (fun cdv A outer s H vs Q E hr h => ?_)
  · obtain ⟨S, t, c, m, cells, notes, n, i, sg, cell, fl, rfl, _⟩ := h; rfl
  · obtain ⟨S, t, c, m, cells, notes, n, i, sg, cell, fl, rfl, p, hi, hl, q⟩ := h
    have nd := sc_written.nd
    refine ⟨_, (pss_cons (ps_asg (cv 1) (pg_tup rfl (pgs_cons (pg_name (i := 5) nd rfl (Or.inl rfl)) (pgs_cons (pg_name (i := 6) nd rfl (Or.inl rfl)) (pgs_cons (pg_name (i := 7) nd rfl (Or.inl rfl)) pgs_nil)))))
    (pss_cons (ps_set (i := 8) nd rfl (Or.inl rfl) (pe_call (ok_fall_at T) (hr.mono (by decide)) (by rfl) T.m_fall_at T.F_fall_at.kp T.b_fall_at .nil pass0 (pa_cons (cv 4) (pa_cons (cv 7) pa_nil))))
    (pss_cons (ps_set (i := 9) nd rfl (Or.inl rfl) (pe_lst (pa_cons pe_bl (pa_cons pe_bl (pa_cons pe_bl (pa_cons (cv 7) pa_nil))))))
    (pss_cons (cs_cut (cs_if (ct_isN (cv 8)) (pss_cons (ps_set (i := 9) nd rfl (Or.inl rfl) (pe_lst pa_nil))
    (pss_one (ps_set (i := 5) nd rfl (Or.inl rfl) (pe_op op_cat (pe_op op_cat (pe_slice sl_list (cv 5) po_none (po_some (cv 2))) (pe_lst (pa_cons (cv 3) pa_nil))) (pe_slice sl_list (cv 5) (po_some (pe_op o_add (cv 2) pe_int)) po_none))))) (pss_one (cs_if (ct_cmp (o_dne hr.units) (cv 8) (pe_tup pa_nil)) (pss_one (ps_set (i := 5) nd rfl (Or.inl rfl) (pe_op op_cat (pe_op op_cat (pe_slice sl_list (cv 5) po_none (po_some (cv 2))) (pe_lst (pa_cons (pe_ix ix_tup (cv 8) pe_int (fun _ _ => rfl)) pa_nil))) (pe_slice sl_list (cv 5) (po_some (pe_op o_add (cv 2) pe_int)) po_none)))) pss_nil))))
    (pss_cons (cs_if (ct_cmp (o_dne hr.units) (pe_call (ok_refused T) (hr.mono (by decide)) (by rfl) T.m_refused T.F_refused.kp T.b_refused .nil pass0 (pa_cons (cv 0) (pa_cons pe_int (pa_cons (cv 2) (pa_cons (cv 3) pa_nil))))) (cv 9)) (pss_one (ps_ret pe_non)) pss_nil)
    (pss_one (ps_ret (pe_tup (pa_cons (cv 5) (pa_cons (cv 6) (pa_cons (pe_op o_add (cv 7) pe_int) pa_nil))))))))))), ?_⟩
    walk_at "w"
    refine ⟨t, _, rfl, SqT.of p.C.1, ?_⟩
    walk_at "w"
    refine And.intro rfl ?_
    walk_at "w"
    refine ⟨_, _, rfl, ?_⟩
    walk_at "w"
    refine ⟨_, _, rfl, ?_⟩
    walk_at "w"
    refine ⟨_, _, rfl, ?_⟩
    walk_at "w"
    refine And.intro rfl ?_
    walk_at "w"
    refine ⟨cell, n, rfl, p.n0, fun v H1 s1 hv => ?_⟩
    walk_at "w"
    walk_at "ss"
    intro d1 hd1
    generalize hUd1 : upd H1 d1 _ = H2
    have sH2 := Same.of_eq hd1 hUd1
    have ed1 := at_of_eq hUd1
    clear hUd1
    walk_at "w"
    have s2 := s1.trans sH2
    generalize hx : deedS (some cell) cells notes n 1 i sg = x at q
    have hx3 : x = (doW cells i.toNat sg (fallAt cell n), notes, n + 1, outOf (fallAt cell n) n) := by
      rw [← hx]; unfold deedS; rw [if_neg (by decide), if_pos rfl, if_pos hi]; rfl
    have hc2 := s2.at p.C.2.1
    refine ⟨fun σ' H' => ∃ cb db, σ' = [some (.ref S.st), some (.ref t), some (.int i), some (.int sg), some (.int cell), some (.ref cb), some (.ref m), some (.int n), some v, some (.ref db)] ∧ Same H H' ∧ (cb = c ∨ H cb = none) ∧ H db = none ∧ H' cb = some (.lst (x.1.map V.int)) ∧ H' db = some (.lst (kindsV x.2.2.2)), ?_, ?_⟩
    · cases hw : fallAt cell n with
      | none =>
        rw [hw] at hv hx3
        obtain rfl : v = .non := hv
        walk_at "w"
        refine ⟨fun _ => ?_, by walk_at "no"⟩
        walk_at "w"
        walk_at "ss"
        intro d2 hd2
        generalize hUd2 : upd H2 d2 _ = H3
        have sH3 := Same.of_eq hd2 hUd2
        have ed2 := at_of_eq hUd2
        clear hUd2
        walk_at "w"
        have s3 := s2.trans sH3
        refine ⟨_, rfl, ?_⟩
        walk_at "w"
        refine ⟨c, _, rfl, SqL.of (sH3.at hc2), ?_⟩
        intro a1 ha1
        generalize hUa1 : upd H3 a1 _ = H4
        have sH4 := Same.of_eq ha1 hUa1
        have ea1 := at_of_eq hUa1
        clear hUa1
        walk_at "w"
        walk_at "ss"
        intro a2 ha2
        generalize hUa2 : upd H4 a2 _ = H5
        have sH5 := Same.of_eq ha2 hUa2
        have ea2 := at_of_eq hUa2
        clear hUa2
        walk_at "w"
        refine ⟨a1, a2, _, _, rfl, rfl, sH5.at ea1, ea2, ?_, ?_⟩
        · have := cutV_length (cells.map V.int) none (some i)
          rw [List.length_map] at this
          show _ + 1 ≤ sizeLine
          rw [sizeLine_eq]; omega
        intro a3 ha3
        generalize hUa3 : upd H5 a3 _ = H6
        have sH6 := Same.of_eq ha3 hUa3
        have ea3 := at_of_eq hUa3
        clear hUa3
        walk_at "w"
        have s6 := sH4.trans (sH5.trans sH6)
        refine ⟨_, rfl, ?_⟩
        walk_at "w"
        refine ⟨c, _, rfl, SqL.of (s6.at (sH3.at hc2)), ?_⟩
        intro a4 ha4
        generalize hUa4 : upd H6 a4 _ = H7
        have sH7 := Same.of_eq ha4 hUa4
        have ea4 := at_of_eq hUa4
        clear hUa4
        walk_at "w"
        refine ⟨a3, a4, _, _, rfl, rfl, sH7.at ea3, ea4, ?_, ?_⟩
        · have := cutV_length (cells.map V.int) none (some i)
          have h2 := cutV_length (cells.map V.int) (some (i + 1)) none
          rw [List.length_map] at this h2
          rw [List.length_append, sizeLine_eq]
          show _ + 1 + _ ≤ _
          omega
        intro a5 ha5
        have s7 := s3.trans (s6.trans sH7)
        subst hx3
        refine ⟨a5, d2, rfl, s7.put (s7.back ha5), .inr (s7.back ha5), s2.back hd2, ?_, ?_⟩
        · rw [upd_same, set_cut cells i sg hi]; rfl
        · have e := sH7.at (s6.at ed2)
          rw [upd_ne (ne_of_none e ha5)]; exact e
      | some z =>
        rw [hw] at hv hx3
        cases z with
        | none =>
          obtain ⟨ta, rfl, hta⟩ := hv
          walk_at "w"
          refine ⟨by walk_at "no", fun _ => ?_⟩
          walk_at "w"
          walk_at "ss"
          intro e he
          refine deq_same (d := .tuple []) (.tup (SqT.of (by rw [upd_ne (ne_of_none (sH2.at hta) he)]; exact sH2.at hta)) .nil) (.tup (SqT.of upd_same) .nil) rfl ?_
          walk_at "w"
          refine ⟨by walk_at "no", fun _ => ?_⟩
          subst hx3
          exact ⟨c, d1, rfl, s2.put (s2.back he), .inl rfl, s1.back hd1, by rw [upd_ne (ne_of_none hc2 he)]; exact hc2, by rw [upd_ne (ne_of_none ed1 he)]; exact ed1⟩
        | some s1' =>
          obtain ⟨ta, rfl, hta⟩ := hv
          walk_at "w"
          refine ⟨by walk_at "no", fun _ => ?_⟩
          walk_at "w"
          walk_at "ss"
          intro e he
          generalize hUe : upd H2 e _ = H3
          have sH3 := Same.of_eq he hUe
          have ee := at_of_eq hUe
          clear hUe
          walk_at "w"
          have s3 := s2.trans sH3
          have hta3 := sH3.at (sH2.at hta)
          refine ⟨.tuple [.int s1'], .tuple [], .tup (SqT.of hta3) (.cons (.int _) .nil), .tup (SqT.of ee) .nil, rfl, rfl, ?_⟩
          rw [show PyData.eqv (.tuple [.int s1']) (.tuple []) = false from rfl]
          walk_at "w"
          refine ⟨fun _ => ?_, by walk_at "no"⟩
          walk_at "w"
          refine ⟨_, rfl, ?_⟩
          walk_at "w"
          refine ⟨c, _, rfl, SqL.of (sH3.at hc2), ?_⟩
          intro a1 ha1
          generalize hUa1 : upd H3 a1 _ = H4
          have sH4 := Same.of_eq ha1 hUa1
          have ea1 := at_of_eq hUa1
          clear hUa1
          walk_at "w"
          refine ⟨ta, _, 0, .int s1', rfl, rfl, SqT.of (sH4.at hta3), rfl, ?_⟩
          walk_at "w"
          walk_at "ss"
          intro a2 ha2
          generalize hUa2 : upd H4 a2 _ = H5
          have sH5 := Same.of_eq ha2 hUa2
          have ea2 := at_of_eq hUa2
          clear hUa2
          walk_at "w"
          refine ⟨a1, a2, _, _, rfl, rfl, sH5.at ea1, ea2, ?_, ?_⟩
          · have := cutV_length (cells.map V.int) none (some i)
            rw [List.length_map] at this
            show _ + 1 ≤ sizeLine
            rw [sizeLine_eq]; omega
          intro a3 ha3
          generalize hUa3 : upd H5 a3 _ = H6
          have sH6 := Same.of_eq ha3 hUa3
          have ea3 := at_of_eq hUa3
          clear hUa3
          walk_at "w"
          have s6 := sH4.trans (sH5.trans sH6)
          refine ⟨_, rfl, ?_⟩
          walk_at "w"
          refine ⟨c, _, rfl, SqL.of (s6.at (sH3.at hc2)), ?_⟩
          intro a4 ha4
          generalize hUa4 : upd H6 a4 _ = H7
          have sH7 := Same.of_eq ha4 hUa4
          have ea4 := at_of_eq hUa4
          clear hUa4
          walk_at "w"
          refine ⟨a3, a4, _, _, rfl, rfl, sH7.at ea3, ea4, ?_, ?_⟩
          · have := cutV_length (cells.map V.int) none (some i)
            have h2 := cutV_length (cells.map V.int) (some (i + 1)) none
            rw [List.length_map] at this h2
            rw [List.length_append, sizeLine_eq]
            show _ + 1 + _ ≤ _
            omega
          intro a5 ha5
          have s7 := s3.trans (s6.trans sH7)
          subst hx3
          refine ⟨a5, d1, rfl, s7.put (s7.back ha5), .inr (s7.back ha5), s1.back hd1, ?_, ?_⟩
          · rw [upd_same, set_cut cells i s1' hi]; rfl
          · have e := sH7.at (s6.at (sH3.at ed1))
            rw [upd_ne (ne_of_none e ha5)]; exact e
    · rintro σ' H' ⟨cb, db, rfl, s3, hcb, hdb, ecb, edb⟩
      have p3 := p.same s3
      walk_at "w"
      refine ⟨S, cells, notes, n, 1, i, sg, fl, some cell, rfl, p3.st, p3.f, p.n0, p.n1, p3.w, p3.d, p.two, by omega, by omega, fun l H4 q1 hS4 hl el => ?_⟩
      rw [hx] at hS4 el
      have nb : db ∉ SS S := fresh_nin p.st hdb
      have ncb : cb ∉ SS S := by
        rcases hcb with rfl | hcb
        · exact p.nc
        · exact fresh_nin p.st hcb
      walk_at "w"
      refine deq_same (d := kindsD x.2.2.2) (kinds_rp el) (kinds_rp (q1 _ _ edb nb)) (kinds_sh _) ?_
      walk_at "w"
      refine ⟨by walk_at "no", fun _ => ?_⟩
      walk_at "w"
      walk_at "ss"
      intro t' ht'
      have k4 : Kp (SS S) H H4 := (Kp.of s3).trans q1
      have e1 := q1 _ _ ecb ncb
      have e2 := q1 _ _ p3.C.2.2 p.nm
      have x2 : x.2.1 = notes ∧ x.2.2.1 = n + 1 := by rw [hx3]; exact ⟨rfl, rfl⟩
      refine q t' cb m _ (k4.mk (back_of p.st k4 hS4 t' ht')) (hS4.same (Same.new ht')) ⟨by rw [upd_same, x2.2], by rw [upd_ne (ne_of_none e1 ht')]; exact e1, by rw [upd_ne (ne_of_none e2 ht'), x2.1]; exact e2⟩ ncb p.nm
theorem beyond_at (cells : List Int) (x dr z : Int) (hz : z = cells.length) : ∃ v, atI [V.int z, V.int (-1), V.int (z + x % 10 ^ Int.toNat 40), V.int (-1 - x % 10 ^ Int.toNat 40)] (dr / 8 % 4) = some (.int v) ∧ ¬ inR cells v := by
  have hm : 0 ≤ x % 10 ^ Int.toNat 40 := Int.emod_nonneg _ (by decide)
  have h4 : dr / 8 % 4 = 0 ∨ dr / 8 % 4 = 1 ∨ dr / 8 % 4 = 2 ∨ dr / 8 % 4 = 3 := by omega
  generalize x % 10 ^ Int.toNat 40 = y at hm
  rcases h4 with h | h | h | h <;> rw [h]
  · exact ⟨_, rfl, fun q => by have := q.2; omega⟩
  · exact ⟨_, rfl, fun q => by have := q.1; omega⟩
  · exact ⟨_, rfl, fun q => by have := q.2; omega⟩
  · exact ⟨_, rfl, fun q => by have := q.1; omega⟩
theorem ok_deed (T : Txt K mg a) : FnOk P w K mg base CX0 10 a.f_deed a.d_deed ["_law_store", "_law_stand", "_law_cell", "_law_falls", "_law_k"] (sp_deed a) := by
  refine T.F_deed.ok sc_deed (fun vs H Q E h => ?_) (fun cdv A outer s H vs Q E hr h => ?_)
  · obtain ⟨S, t, c, m, cells, notes, n, x, cell, k, fl, rfl, _⟩ := h; rfl
  · obtain ⟨S, t, c, m, cells, notes, n, x, cell, k, fl, rfl, p, hl, q⟩ := h
    have nd := sc_deed.nd
    refine ⟨_, (pss_cons (cs_let (i := 5) nd rfl (Or.inl rfl) (pe_call (ok_mixed T) (hr.mono (by decide)) (by rfl) T.m_mixed T.F_mixed.kp T.b_mixed .nil pass0 (pa_cons (cv 2) (pa_cons (cv 4) pa_nil))))
    (pss_cons (cs_let (i := 6) nd rfl (Or.inl rfl) (pe_callB call_len_seq (by rfl) T.n_len bt_len (pa_cons (pe_ix ix_tup (cv 1) pe_int (fun _ _ => rfl)) pa_nil)))
    (pss_cons (cs_let (i := 7) nd rfl (Or.inl rfl) (pe_op o_add (pe_op o_sub (pe_op o_mod (cv 2) (pe_op o_sub (pe_op o_mul pe_int (pe_op o_pow pe_int pe_int)) pe_int)) (pe_op o_pow pe_int pe_int)) pe_int))
    (pss_cons (cs_let (i := 8) nd rfl (Or.inl rfl) (pe_op o_mod (pe_op o_fdiv (cv 5) pe_int) (pe_callB (c_max2 rfl) (by rfl) T.n_max bt_max (pa_cons pe_int (pa_cons (cv 6) pa_nil)))))
    (pss_cons (cs_if (PW.pt (cw_or (ct_cmp o_eqI (pe_op o_mod (cv 5) pe_int) pe_int) (pw_or1 (ct_cmp o_eqI (cv 6) pe_int)))) (pss_cons (cs_let (i := 8) nd rfl (Or.inl rfl) (pe_ix ix_list (pe_lst (pa_cons (cv 6) (pa_cons (pe_un o_neg pe_int) (pa_cons (pe_op o_add (cv 6) (pe_op o_mod (cv 2) (pe_op o_pow pe_int pe_int))) (pa_cons (pe_op o_sub (pe_un o_neg pe_int) (pe_op o_mod (cv 2) (pe_op o_pow pe_int pe_int))) pa_nil))))) (pe_op o_mod (pe_op o_fdiv (cv 5) pe_int) pe_int) (fun _ _ => rfl)))
    (pss_cons (cs_let (i := 9) nd rfl (Or.inl rfl) (pe_lst (pa_cons pe_bl (pa_cons pe_bl (pa_cons pe_bl (pa_cons (cv 8) pa_nil))))))
    (pss_cons (cs_if (ct_cmp (o_dne hr.units) (pe_call (ok_refused T) (hr.mono (by decide)) (by rfl) T.m_refused T.F_refused.kp T.b_refused .nil pass0 (pa_cons (cv 0) (pa_cons (pe_op o_mod (pe_op o_fdiv (cv 5) pe_int) pe_int) (pa_cons (cv 8) (pa_cons (cv 7) pa_nil))))) (cv 9)) (pss_one (ps_ret pe_non)) pss_nil)
    (pss_one (ps_ret (cv 1)))))) pss_nil)
    (pss_cons (cs_if (ct_cmp o_lt (pe_op o_mod (cv 5) pe_int) pe_int) (pss_one (ps_ret (pe_call (ok_written T) (hr.mono (by decide)) (by rfl) T.m_written T.F_written.kp T.b_written .nil pass0 (pa_cons (cv 0) (pa_cons (cv 1) (pa_cons (cv 8) (pa_cons (cv 7) (pa_cons (cv 3) pa_nil)))))))) pss_nil)
    (pss_cons (cs_if (ct_cmp o_eqI (pe_op o_mod (cv 5) pe_int) pe_int) (pss_one (ps_ret (pe_call (ok_begun T) (hr.mono (by decide)) (by rfl) T.m_begun T.F_begun.kp T.b_begun .nil pass0 (pa_cons (cv 0) (pa_cons (cv 1) (pa_cons (cv 3) pa_nil)))))) pss_nil)
    (pss_cons (cs_if (PW.pt (cw_and (ct_cmp o_eqI (pe_op o_mod (cv 5) pe_int) pe_int) (pw_and1 (ct_cmp o_neI (pe_meth (cv 0) T.c_Store T.me_Store_read (ok_Store_read T) (hr.mono (by decide)) T.b_Store_read .nil passF (pa_cons (cv 8) pa_nil)) (pe_ix ix_list (pe_ix ix_tup (cv 1) pe_int (fun _ _ => rfl)) (cv 8) (fun _ _ => rfl)))))) (pss_one (ps_ret pe_non)) pss_nil)
    (pss_cons (cs_if (ct_cmp o_gt (pe_op o_mod (cv 5) pe_int) pe_int) (pss_cons (cs_let (i := 10) nd rfl (Or.inl rfl) (pe_op o_mod (cv 2) (pe_op o_pow pe_int pe_int)))
    (pss_cons (cs_let (i := 11) nd rfl (Or.inl rfl) (pe_call (ok_noted T) (hr.mono (by decide)) (by rfl) T.m_noted T.F_noted.kp T.b_noted .nil pass0 (pa_cons (cv 1) (pa_cons (pe_op o_mod (cv 10) pe_int) (pa_cons (cv 10) (pa_cons (cv 3) pa_nil))))))
    (pss_cons (cs_let (i := 9) nd rfl (Or.inl rfl) (pe_lst (pa_cons pe_bl (pa_cons pe_bl (pa_cons pe_bl (pa_cons (pe_ix ix_tup (cv 1) pe_int (fun _ _ => rfl)) pa_nil))))))
    (pss_cons (cs_cut (cs_if (ct_isN (pe_call (ok_fall_at T) (hr.mono (by decide)) (by rfl) T.m_fall_at T.F_fall_at.kp T.b_fall_at .nil pass0 (pa_cons (cv 3) (pa_cons (pe_ix ix_tup (cv 1) pe_int (fun _ _ => rfl)) pa_nil)))) (pss_one (cs_let (i := 9) nd rfl (Or.inl rfl) (pe_lst pa_nil))) pss_nil))
    (pss_cons (cs_if (ct_cmp (o_dne hr.units) (pe_call (ok_refused T) (hr.mono (by decide)) (by rfl) T.m_refused T.F_refused.kp T.b_refused .nil pass0 (pa_cons (cv 0) (pa_cons pe_int (pa_cons pe_int (pa_cons (cv 10) pa_nil))))) (cv 9)) (pss_one (ps_ret pe_non)) pss_nil)
    (pss_one (ps_ret (cv 11)))))))) pss_nil)
    (pss_one (ps_ret (cv 1)))))))))))), ?_⟩
    walk_at "w"
    refine ⟨x, k, rfl, ?_⟩
    have hd0 := mixed_nonneg x k
    generalize mixed x k = d at hd0
    walk_at "w"
    refine let_int fun dr hdr => ?_
    walk_at "w"
    subst hdr
    refine ⟨t, _, 0, .ref c, rfl, rfl, SqT.of p.C.1, rfl, ?_⟩
    walk_at "w"
    refine ⟨c, _, rfl, .inl (SqL.of p.C.2.1), ?_⟩
    rw [List.length_map]
    walk_at "w"
    refine let_int fun z hz => ?_
    walk_at "w"
    walk_at "ss"
    refine let_int fun sg hsg => ?_
    walk_at "w"
    clear hsg
    walk_at "ss"
    refine let_int fun i hi => ?_
    walk_at "w"
    walk_at "ss"
    refine ⟨fun e => ?_, fun e => ?_⟩
    · walk_at "w"
      refine ⟨fun _ => ?_, by walk_at "no"⟩
      walk_at "w"
      walk_at "ss"
      intro L hL
      generalize hUL : upd H L _ = H1
      have sH1 := Same.of_eq hL hUL
      have eL := at_of_eq hUL
      clear hUL
      walk_at "w"
      walk_at "ss"
      obtain ⟨v, hv, hout⟩ := beyond_at cells x dr z hz
      refine ⟨L, _, _, .int v, rfl, rfl, SqL.of eL, hv, ?_⟩
      walk_at "w"
      refine let_int fun at1 hat1 => ?_
      walk_at "w"
      subst hat1
      walk_at "ss"
      intro due hdue
      generalize hUdue : upd H1 due _ = H2
      have sH2 := Same.of_eq hdue hUdue
      have edue := at_of_eq hUdue
      clear hUdue
      walk_at "w"
      refine let_ref ?_
      walk_at "w"
      walk_at "ss"
      have s2 := sH1.trans sH2
      have p2 := p.same s2
      have hx : deedS (some cell) cells notes n (dr / 32 % 2) at1 sg = (cells, notes, n, .out at1) := by
        unfold deedS
        by_cases h1 : dr / 32 % 2 = 0
        · rw [if_pos h1, if_neg hout]
        · rw [if_neg h1, if_pos (by omega), if_neg hout]
      refine ⟨S, cells, notes, n, dr / 32 % 2, at1, sg, fl, some cell, rfl, p2.st, p2.f, p.n0, p.n1, p2.w, p2.d, p.two, by omega, by omega, fun l H3 q1 hS3 hl3 el => ?_⟩
      rw [hx] at hS3 el
      have ndue := fresh_nin p.st (sH1.back hdue)
      walk_at "w"
      refine deq_same (d := kindsD (.out at1)) (kinds_rp el) (kinds_rp (o := .out at1) (q1 _ _ edue ndue)) (kinds_sh _) ?_
      walk_at "w"
      refine ⟨by walk_at "no", fun _ => ?_⟩
      walk_at "w"
      exact q cells notes n rfl p.two (by omega) (by omega) t c m H3 ((Kp.of s2).trans q1) hS3 (p2.C.kp p2.st p.nc p.nm q1) p.nc p.nm
    · walk_at "w"
      refine ⟨fun ez => ?_, fun ez => ?_⟩
      · skip
        walk_at "w"
        walk_at "ss"
        intro L hL
        generalize hUL : upd H L _ = H1
        have sH1 := Same.of_eq hL hUL
        have eL := at_of_eq hUL
        clear hUL
        walk_at "w"
        walk_at "ss"
        obtain ⟨v, hv, hout⟩ := beyond_at cells x dr z hz
        refine ⟨L, _, _, .int v, rfl, rfl, SqL.of eL, hv, ?_⟩
        walk_at "w"
        refine let_int fun at1 hat1 => ?_
        walk_at "w"
        subst hat1
        walk_at "ss"
        intro due hdue
        generalize hUdue : upd H1 due _ = H2
        have sH2 := Same.of_eq hdue hUdue
        have edue := at_of_eq hUdue
        clear hUdue
        walk_at "w"
        refine let_ref ?_
        walk_at "w"
        walk_at "ss"
        have s2 := sH1.trans sH2
        have p2 := p.same s2
        have hx : deedS (some cell) cells notes n (dr / 32 % 2) at1 sg = (cells, notes, n, .out at1) := by
          unfold deedS
          by_cases h1 : dr / 32 % 2 = 0
          · rw [if_pos h1, if_neg hout]
          · rw [if_neg h1, if_pos (by omega), if_neg hout]
        refine ⟨S, cells, notes, n, dr / 32 % 2, at1, sg, fl, some cell, rfl, p2.st, p2.f, p.n0, p.n1, p2.w, p2.d, p.two, by omega, by omega, fun l H3 q1 hS3 hl3 el => ?_⟩
        rw [hx] at hS3 el
        have ndue := fresh_nin p.st (sH1.back hdue)
        walk_at "w"
        refine deq_same (d := kindsD (.out at1)) (kinds_rp el) (kinds_rp (o := .out at1) (q1 _ _ edue ndue)) (kinds_sh _) ?_
        walk_at "w"
        refine ⟨by walk_at "no", fun _ => ?_⟩
        walk_at "w"
        exact q cells notes n rfl p.two (by omega) (by omega) t c m H3 ((Kp.of s2).trans q1) hS3 (p2.C.kp p2.st p.nc p.nm q1) p.nc p.nm
      · have ez := of_decide_eq_false ez
        walk_at "w"
        walk_at "ss"
        have hz0 : z ≠ 0 := ez
        have hi : inR cells i := by
          have h1 : 0 < max 1 z := by omega
          have := Int.emod_nonneg (dr / 64) (show max 1 z ≠ 0 by omega)
          have := Int.emod_lt_of_pos (dr / 64) h1
          constructor <;> omega
        refine ⟨fun e1 => ?_, fun e1 => ?_⟩
        · have e1 := of_decide_eq_true e1
          walk_at "w"
          refine ⟨S, t, c, m, cells, notes, n, i, sg, cell, fl, rfl, p, hi, hl, ?_⟩
          have hx : deedS (some cell) cells notes n 1 i sg = (doW cells i.toNat sg (fallAt cell n), notes, n + 1, outOf (fallAt cell n) n) := by
            unfold deedS; rw [if_neg (by decide), if_pos rfl, if_pos hi]; rfl
          rw [hx]
          exact q _ _ _ (doW_length _ _ _ _) p.two (by show n ≤ n + 1; omega) (by show n + 1 ≤ n + 2; omega)
        · have e1 := of_decide_eq_false e1
          walk_at "w"
          walk_at "ss"
          refine ⟨fun e2 => ?_, fun e2 => ?_⟩
          · have e2 := of_decide_eq_true e2
            walk_at "w"
            refine ⟨S, t, c, m, cells, notes, n, cell, fl, rfl, p, ?_⟩
            have hx : deedS (some cell) cells notes n 3 0 0 = if fallAt cell n = none then (cells, doN (notes.set 0 (some 0)) 1 0 (fallAt cell (n + 1)), n + 1 + 1, outOf (fallAt cell (n + 1)) (n + 1)) else (cells, doN notes 0 0 (fallAt cell n), n + 1, outOf (fallAt cell n) n) := by
              unfold deedS; rw [if_neg (by decide), if_neg (by decide), if_neg (by decide)]; rfl
            rw [hx]
            by_cases hw : fallAt cell n = none
            · rw [if_pos hw]
              exact q _ _ _ rfl (by rw [doN_length, List.length_set]; exact p.two) (by show n ≤ n + 1 + 1; omega) (by show n + 1 + 1 ≤ n + 2; omega)
            · rw [if_neg hw]
              exact q _ _ _ rfl (by rw [doN_length]; exact p.two) (by show n ≤ n + 1; omega) (by show n + 1 ≤ n + 2; omega)
          · have e2 := of_decide_eq_false e2
            walk_at "w"
            walk_at "ss"
            refine ⟨fun e3 => ?_, fun e3 => ?_⟩
            · have e3 := of_decide_eq_true e3
              walk_at "w"
              refine ⟨S.st, S.dx, _, rfl, p.st.st, rfl, ?_⟩
              walk_at "w"
              refine ⟨S, cells, notes, n, i, fl, rfl, p.st, fun _ v hv => ?_, fun z => absurd hi z⟩
              walk_at "w"
              refine ⟨t, _, 0, .ref c, rfl, rfl, SqT.of p.C.1, rfl, ?_⟩
              walk_at "w"
              refine ⟨c, _, i, .int v, rfl, rfl, SqL.of p.C.2.1, atI_in hi.1 hv, ?_⟩
              walk_at "w"
              rw [decide_eq_true (rfl : v = v)]
              refine ⟨by walk_at "no", fun _ => ?_⟩
              walk_at "w"
              walk_at "ss"
              refine ⟨fun e5 => ?_, fun e5 => ?_⟩
              · have e5 := of_decide_eq_true e5
                walk_at "w"
                walk_at "ss"
                refine let_int fun nu hnu => ?_
                walk_at "w"
                clear hnu
                walk_at "ss"
                refine ⟨t, c, m, notes, n, nu % 2, nu, cell, rfl, p.C.1, p.C.2.2, p.n0, by omega, by rw [p.two]; omega, fun t1 m1 H1 s1 hm1 et1 em1 => ?_⟩
                have p1 := p.same s1
                walk_at "w"
                refine let_ref ?_
                walk_at "w"
                refine ⟨t, _, 2, .int n, rfl, rfl, SqT.of p1.C.1, rfl, ?_⟩
                walk_at "w"
                walk_at "ss"
                intro d1 hd1
                generalize hUd1 : upd H1 d1 _ = H2
                have sH2 := Same.of_eq hd1 hUd1
                have ed1 := at_of_eq hUd1
                clear hUd1
                walk_at "w"
                refine let_ref ?_
                walk_at "w"
                have s2 := s1.trans sH2
                have p2 := p.same s2
                have nm1 := fresh_nin p.st hm1
                generalize hx : deedS (some cell) cells notes n 2 0 nu = y
                have hx3 : y = (cells, doN notes (nu % 2).toNat nu (fallAt cell n), n + 1, outOf (fallAt cell n) n) := by
                  rw [← hx]; unfold deedS; rw [if_neg (by decide), if_neg (by decide), if_pos rfl]; rfl
                refine ⟨fun σ' H' => ∃ db, σ' = [some (.ref S.st), some (.ref t), some (.int x), some (.int cell), some (.int k), some (.int dr), some (.int z), some (.int sg), some (.int i), some (.ref db), some (.int nu), some (.ref t1)] ∧ Same H2 H' ∧ H db = none ∧ H' db = some (.lst (kindsV y.2.2.2)), ?_, ?_⟩
                · walk_at "w"
                  refine ⟨t, _, 2, .int n, rfl, rfl, SqT.of p2.C.1, rfl, ?_⟩
                  walk_at "w"
                  refine ⟨cell, n, rfl, p.n0, fun v H3 s3 hv => ?_⟩
                  cases hw : fallAt cell n with
                  | some z =>
                    rw [hw] at hv hx3
                    have hne : isN v = false := by
                      rcases z with _ | z
                      · obtain ⟨ta, rfl, _⟩ := hv; rfl
                      · obtain ⟨ta, rfl, _⟩ := hv; rfl
                    walk_at "w"
                    rw [hne]
                    refine ⟨by walk_at "no", fun _ => ?_⟩
                    subst hx3
                    exact ⟨d1, rfl, s3, s1.back hd1, s3.at ed1⟩
                  | none =>
                    rw [hw] at hv hx3
                    obtain rfl : v = .non := hv
                    walk_at "w"
                    refine ⟨fun _ => ?_, by walk_at "no"⟩
                    walk_at "w"
                    walk_at "ss"
                    intro d2 hd2
                    walk_at "w"
                    refine let_ref ?_
                    walk_at "w"
                    subst hx3
                    exact ⟨d2, rfl, s3.put (s3.back hd2), s2.back (s3.back hd2), upd_same⟩
                · rintro σ' H' ⟨db, rfl, s3, hdb, edb⟩
                  have p3 := p2.same s3
                  walk_at "w"
                  refine ⟨S, cells, notes, n, 2, 0, nu, fl, some cell, rfl, p3.st, p3.f, p.n0, p.n1, p3.w, p3.d, p.two, by omega, by omega, fun l H4 q1 hS4 hl4 el => ?_⟩
                  rw [hx] at hS4 el
                  have nb : db ∉ SS S := fresh_nin p.st hdb
                  walk_at "w"
                  refine deq_same (d := kindsD y.2.2.2) (kinds_rp el) (kinds_rp (q1 _ _ edb nb)) (kinds_sh _) ?_
                  walk_at "w"
                  refine ⟨by walk_at "no", fun _ => ?_⟩
                  walk_at "w"
                  have et4 := s3.at (sH2.at et1)
                  have em4 := s3.at (sH2.at em1)
                  subst hx3
                  exact q _ _ _ rfl (by rw [doN_length]; exact p.two) (by show n ≤ n + 1; omega) (by show n + 1 ≤ n + 2; omega) t1 c m1 H4 ((Kp.of (s2.trans s3)).trans q1) hS4 (StandC.kp (cells := cells) (notes := doN notes (nu % 2).toNat nu (fallAt cell n)) ⟨et4, p3.C.2.1, em4⟩ p3.st p.nc nm1 q1) p.nc nm1
              · have e5 := of_decide_eq_false e5
                walk_at "w"
                exact q cells notes n rfl p.two (by omega) (by omega) t c m H (Kp.of (Same.refl _)) p.st p.C p.nc p.nm
            · have e3 := of_decide_eq_false e3
              walk_at "w"
              refine ⟨by walk_at "no", fun _ => ?_⟩
              walk_at "w"
              walk_at "ss"
              refine ⟨fun e5 => ?_, fun e5 => ?_⟩
              · have e5 := of_decide_eq_true e5
                walk_at "w"
                walk_at "ss"
                refine let_int fun nu hnu => ?_
                walk_at "w"
                clear hnu
                walk_at "ss"
                refine ⟨t, c, m, notes, n, nu % 2, nu, cell, rfl, p.C.1, p.C.2.2, p.n0, by omega, by rw [p.two]; omega, fun t1 m1 H1 s1 hm1 et1 em1 => ?_⟩
                have p1 := p.same s1
                walk_at "w"
                refine let_ref ?_
                walk_at "w"
                refine ⟨t, _, 2, .int n, rfl, rfl, SqT.of p1.C.1, rfl, ?_⟩
                walk_at "w"
                walk_at "ss"
                intro d1 hd1
                generalize hUd1 : upd H1 d1 _ = H2
                have sH2 := Same.of_eq hd1 hUd1
                have ed1 := at_of_eq hUd1
                clear hUd1
                walk_at "w"
                refine let_ref ?_
                walk_at "w"
                have s2 := s1.trans sH2
                have p2 := p.same s2
                have nm1 := fresh_nin p.st hm1
                generalize hx : deedS (some cell) cells notes n 2 0 nu = y
                have hx3 : y = (cells, doN notes (nu % 2).toNat nu (fallAt cell n), n + 1, outOf (fallAt cell n) n) := by
                  rw [← hx]; unfold deedS; rw [if_neg (by decide), if_neg (by decide), if_pos rfl]; rfl
                refine ⟨fun σ' H' => ∃ db, σ' = [some (.ref S.st), some (.ref t), some (.int x), some (.int cell), some (.int k), some (.int dr), some (.int z), some (.int sg), some (.int i), some (.ref db), some (.int nu), some (.ref t1)] ∧ Same H2 H' ∧ H db = none ∧ H' db = some (.lst (kindsV y.2.2.2)), ?_, ?_⟩
                · walk_at "w"
                  refine ⟨t, _, 2, .int n, rfl, rfl, SqT.of p2.C.1, rfl, ?_⟩
                  walk_at "w"
                  refine ⟨cell, n, rfl, p.n0, fun v H3 s3 hv => ?_⟩
                  cases hw : fallAt cell n with
                  | some z =>
                    rw [hw] at hv hx3
                    have hne : isN v = false := by
                      rcases z with _ | z
                      · obtain ⟨ta, rfl, _⟩ := hv; rfl
                      · obtain ⟨ta, rfl, _⟩ := hv; rfl
                    walk_at "w"
                    rw [hne]
                    refine ⟨by walk_at "no", fun _ => ?_⟩
                    subst hx3
                    exact ⟨d1, rfl, s3, s1.back hd1, s3.at ed1⟩
                  | none =>
                    rw [hw] at hv hx3
                    obtain rfl : v = .non := hv
                    walk_at "w"
                    refine ⟨fun _ => ?_, by walk_at "no"⟩
                    walk_at "w"
                    walk_at "ss"
                    intro d2 hd2
                    walk_at "w"
                    refine let_ref ?_
                    walk_at "w"
                    subst hx3
                    exact ⟨d2, rfl, s3.put (s3.back hd2), s2.back (s3.back hd2), upd_same⟩
                · rintro σ' H' ⟨db, rfl, s3, hdb, edb⟩
                  have p3 := p2.same s3
                  walk_at "w"
                  refine ⟨S, cells, notes, n, 2, 0, nu, fl, some cell, rfl, p3.st, p3.f, p.n0, p.n1, p3.w, p3.d, p.two, by omega, by omega, fun l H4 q1 hS4 hl4 el => ?_⟩
                  rw [hx] at hS4 el
                  have nb : db ∉ SS S := fresh_nin p.st hdb
                  walk_at "w"
                  refine deq_same (d := kindsD y.2.2.2) (kinds_rp el) (kinds_rp (q1 _ _ edb nb)) (kinds_sh _) ?_
                  walk_at "w"
                  refine ⟨by walk_at "no", fun _ => ?_⟩
                  walk_at "w"
                  have et4 := s3.at (sH2.at et1)
                  have em4 := s3.at (sH2.at em1)
                  subst hx3
                  exact q _ _ _ rfl (by rw [doN_length]; exact p.two) (by show n ≤ n + 1; omega) (by show n + 1 ≤ n + 2; omega) t1 c m1 H4 ((Kp.of (s2.trans s3)).trans q1) hS4 (StandC.kp (cells := cells) (notes := doN notes (nu % 2).toNat nu (fallAt cell n)) ⟨et4, p3.C.2.1, em4⟩ p3.st p.nc nm1 q1) p.nc nm1
              · have e5 := of_decide_eq_false e5
                walk_at "w"
                exact q cells notes n rfl p.two (by omega) (by omega) t c m H (Kp.of (Same.refl _)) p.st p.C p.nc p.nm
def nD : Option Int → PyData
  | none => .none
  | some i => .int i
def toldD (cells : List Int) (notes : List (Option Int)) (n : Int) : PyData := .tuple [dInts cells, .list (notes.map nD), .int n]
theorem rps_notes {K : PySem.W.Frag} {H : Hp} : ∀ notes : List (Option Int), Rps K H (notes.map nV) (notes.map nD)
  | [] => .nil
  | none :: r => .cons .non (rps_notes r)
  | some i :: r => .cons (.int i) (rps_notes r)
theorem told_rp {K : PySem.W.Frag} {H : Hp} {t c m : Addr} {cells : List Int} {notes : List (Option Int)} {n : Int} (h1 : H t = some (.tup [.ref c, .ref m, .int n])) (h2 : H c = some (.lst (cells.map V.int))) (h3 : H m = some (.lst (notes.map nV))) : Rp K H (.ref t) (toldD cells notes n) :=
  .tup (SqT.of h1) (.cons (.ints (SqL.of h2)) (.cons (.lst (SqL.of h3) (rps_notes notes)) (.cons (.int n) .nil)))
theorem nD_can : ∀ notes : List (Option Int), PyData.canLayAll0 (notes.map nD) = true
  | [] => by simp [PyData.canLayAll0]
  | none :: r => by simp only [List.map_cons, PyData.canLayAll0, nD, PyData.canLay0, nD_can r, Bool.and_true]
  | some i :: r => by simp only [List.map_cons, PyData.canLayAll0, nD, PyData.canLay0, nD_can r, Bool.and_true]
theorem nD_depth : ∀ notes : List (Option Int), PyData.depthAll (notes.map nD) = 0
  | [] => by simp [PyData.depthAll]
  | none :: r => by simp [PyData.depthAll, nD, PyData.depth, nD_depth r]
  | some i :: r => by simp [PyData.depthAll, nD, PyData.depth, nD_depth r]
theorem told_sh (cells : List Int) (notes : List (Option Int)) (n : Int) : SeqAt.shaped (toldD cells notes n) = true := by
  unfold SeqAt.shaped toldD
  have h1 : PyData.canLay0 (.tuple [dInts cells, .list (notes.map nD), .int n]) = true := by
    simp only [PyData.canLay0, PyData.canLayAll0, dInts_can, nD_can, Bool.and_true, Bool.true_and]
  have h2 : PyData.depth (.tuple [dInts cells, .list (notes.map nD), .int n]) ≤ 64 := by
    have := dInts_depth cells
    have h3 := nD_depth notes
    simp only [PyData.depth, PyData.depthAll, h3]
    omega
  rw [h1, decide_eq_true h2]; rfl
/-  a new store, made behind G -/
theorem made_same {G H' : Hp} {x dx : Addr} {C : Addr} (hx : G x = none) (hd : G dx = none) (k : Kp [x] (upd (upd G dx (.own x)) x (.ins C dx [])) H') : Same G H' := fun b u e =>
  k b u (by rw [upd_ne (ne_of_none e hx), upd_ne (ne_of_none e hd)]; exact e) (by simp; exact ne_of_none e hx)
theorem made_back {G : Hp} {x dx b : Addr} {C : Addr} (hx : G x = none) (hd : G dx = none) (e : upd (upd G dx (.own x)) x (.ins C dx []) b = none) : G b = none := by
  by_cases h : b = x
  · rw [h]; exact hx
  · rw [upd_ne h] at e
    by_cases h2 : b = dx
    · rw [h2]; exact hd
    · rw [upd_ne h2] at e; exact e
theorem same_kp {H G G' : Hp} {L : List Addr} (s : Same H G) (k : Kp L G G') (f : ∀ b ∈ L, H b = none) : Same H G' := fun b u e =>
  k b u (s b u e) fun z => by rw [f b z] at e; cases e
theorem Pre.to {H H' : Hp} {S : SA} {t c m : Addr} {cells : List Int} {notes : List (Option Int)} {n cell : Int} {fl : V} {cells' : List Int} {notes' : List (Option Int)} {n' : Int} {t' c' m' : Addr} (p : Pre a H S t c m cells notes n cell fl) (k : Kp (SS S) H H') (h1 : StAt a H' S cells' notes' n' fl) (h2 : StandC H' t' c' m' cells' notes' n') (h3 : c' ∉ SS S) (h4 : m' ∉ SS S) (h5 : nOk n') (h6 : nOk (n' + 1)) (h7 : notes'.length = 2) : Pre a H' S t' c' m' cells' notes' n' cell fl :=
  ⟨h1, p.f.kp p.st.mu k, h2, h3, h4, h5, h6, k _ _ p.w fun z => (by obtain ⟨u, e, i⟩ := p.st.mu _ z; rw [p.w] at e; cases e; exact i), k _ _ p.d fun z => (by obtain ⟨u, e, i⟩ := p.st.mu _ z; rw [p.d] at e; cases e; exact i), h7⟩
theorem sizes_at (i : Nat) : ∃ v, atI [V.int 1, V.int (-1), V.int (10 ^ Int.toNat 25), V.int (-(10 ^ Int.toNat 50))] ((0 + (i : Int) * 1) % 4) = some (.int v) := by
  have h4 : (0 + (i : Int) * 1) % 4 = 0 ∨ (0 + (i : Int) * 1) % 4 = 1 ∨ (0 + (i : Int) * 1) % 4 = 2 ∨ (0 + (i : Int) * 1) % 4 = 3 := by omega
  rcases h4 with h | h | h | h <;> rw [h] <;> exact ⟨_, rfl⟩
def quietC (sg : List Int) : List Int := match sg with
  | [] => []
  | _ :: r => 5 :: r
def quietN (sg : List Int) : Int := match sg with
  | [] => 0
  | _ :: _ => 1
theorem cut_one (sg : List Int) : cutV (sg.map V.int) none (some 1) = (sg.take 1).map V.int := by
  rw [cutV_ints, sIx_nn (by omega), HT.sIx_none]
  cases sg <;> simp
theorem cut_rest (sg : List Int) : cutV (sg.map V.int) (some 1) none = (sg.drop 1).map V.int := by
  rw [cutV_ints, sIx_nn (by omega), HT.sIx_none]
  cases sg <;> simp
theorem quiet_list (sg : List Int) : (List.replicate (((sg.take 1).length : Nat) : Int).toNat [V.int 5]).flatten ++ (sg.drop 1).map V.int = (quietC sg).map V.int := by
  cases sg <;> simp [quietC]
theorem quiet_len (sg : List Int) : (((sg.take 1).length : Nat) : Int) = quietN sg := by
  cases sg <;> simp [quietN]
theorem ok_law (T : Txt K mg a) : FnOk P w K mg base CX0 11 a.f_law a.d_law ["_law_script"] (sp_law K) := by
  refine T.F_law.okC ["_law_falls"] T.cd_law sc_law (fun vs H Q E h => ?_) (fun A outer s H vs Q E hr h => ?_)
  · obtain ⟨l, ns, rfl, _⟩ := h; rfl
  · obtain ⟨l, ns, rfl, hl, hlen, hPw, hPd, hPl, kk⟩ := h
    have nd := sc_law.nd
    refine ⟨_, (pss_track (x := "_law_falls") (i := 2) nd rfl rfl rfl (by kernel_rfl) (pss_cons (cs_let (i := 1) nd rfl (Or.inr rfl) (pe_call (ok_cell_at T) (hr.mono (by decide)) (by rfl) T.m_cell_at T.F_cell_at.kp T.b_cell_at .nil pass0 (pa_cons (cv 0) (pa_cons pe_int pa_nil))))
    (pss_cons (ps_setF (i := 2) nd rfl rfl rfl (by kernel_rfl) (pe_call (ok_cell_at T) (hr.mono (by decide)) (by rfl) T.m_cell_at T.F_cell_at.kp T.b_cell_at .nil pass0 (pa_cons (cv 0) (pa_cons pe_int pa_nil))))
    (pss_cons (cs_let (i := 3) nd rfl (Or.inr rfl) (pe_lst (pa_cons pe_int (pa_cons (pe_un o_neg pe_int) (pa_cons (pe_op o_pow pe_int pe_int) (pa_cons (pe_un o_neg (pe_op o_pow pe_int pe_int)) pa_nil))))))
    (pss_cons (ps_setComp (i := 4) (blk_mk (cap := [1, 3]) (ys := ["_law_cell", "_law_sizes"]) rfl rfl rfl rfl rfl ⟨⟨rfl, rfl, .inl rfl⟩, ⟨⟨rfl, rfl, .inl rfl⟩, trivial⟩⟩ (by decide +kernel)) rfl nd rfl rfl (ci_range1 (by rfl) T.n_range (pa_cons (pe_op o_mod (cv 1) pe_int) pa_nil)) (fun _ _ _ _ => (pe_op o_mul (pe_call (ok_mixed T) (hr.mono (by decide)) (by rfl) T.m_mixed T.F_mixed.kp T.b_mixed .nil pass0 (pa_cons (cv 1) (pa_cons (cv 0) pa_nil))) (pe_ix (ix_listK (K := K) rfl) (cv 2) (pe_op o_mod (cv 0) pe_int) (fun _ _ => rfl)))) (fun _ _ _ _ => cts_nil))
    (pss_cons (cs_let (i := 5) nd rfl (Or.inl rfl) (pe_callTy call_list_of (by rfl) T.n_list bt_list (pa_cons (cv 4) pa_nil)))
    (pss_cons (cs_let (i := 6) nd rfl (Or.inl rfl) (pe_make T.mk_Store (ok_Store_init T) (hr.mono (by decide)) (by rfl) T.m_Store T.b_Store_init .nil pass0 (pa_cons (cv 5) (pa_cons (ce_lambda (c := c_law) (P := P_law) (qs := qs_law) (fns := ["_law_falls"]) rfl T.tk_law (q := "law.<locals>.<lambda>") (by kernel_rfl) (.head _) (by kernel_rfl) (by kernel_rfl)) pa_nil))))
    (pss_cons (ps_expr (pe_bm PySem.F.plainAttrs_list PySem.F.slot_list_append PySem.F.type_list_append mt_append (cv 5) (pa_cons pe_int pa_nil)))
    (pss_cons (cs_let (i := 7) nd rfl (Or.inl rfl) (pe_make (dvs := [.non]) T.mk_Store (ok_Store_init T) (hr.mono (by decide)) (by rfl) T.m_Store T.bd_Store_init (.cons rfl .nil) pass0 (pa_cons (cv 4) pa_nil)))
    (pss_cons (cs_cut (cs_if (ct_cmp (o_dne hr.units) (cv 4) (pe_lst pa_nil)) (pss_one (ps_expr (pe_meth (cv 7) T.c_Store T.me_Store_write (ok_Store_write T) (hr.mono (by decide)) T.b_Store_write .nil passF (pa_cons pe_int (pa_cons pe_int pa_nil))))) pss_nil))
    (pss_cons (cs_let (i := 8) nd rfl (Or.inl rfl) (pe_tup (pa_cons (cv 4) (pa_cons (pe_lst (pa_cons pe_int (pa_cons pe_int pa_nil))) (pa_cons pe_int pa_nil)))))
    (pss_cons (cs_for PassesOwn.never rfl (ci_range2 (by rfl) T.n_range (pa_cons pe_int (pa_cons (pe_callB (c_min2 rfl) (by rfl) T.n_min bt_min (pa_cons (pe_callB call_len_seq (by rfl) T.n_len bt_len (pa_cons (cv 0) pa_nil)) (pa_cons pe_int pa_nil))) pa_nil))) (pg_name (i := 9) nd rfl (Or.inl rfl)) (pss_cons (cs_let (i := 8) nd rfl (Or.inl rfl) (pe_call (ok_deed T) (hr.mono (by decide)) (by rfl) T.m_deed T.F_deed.kp T.b_deed .nil pass0 (pa_cons (cv 6) (pa_cons (cv 8) (pa_cons (pe_ix ix_list (cv 0) (cv 9) (fun _ _ => rfl)) (pa_cons (cv 2) (pa_cons (cv 9) pa_nil)))))))
    (pss_cons (cs_if (ct_isN (cv 8)) (pss_one (ps_ret pe_bl)) pss_nil)
    (pss_cons (cs_let (i := 10) nd rfl (Or.inl rfl) (pe_meth0 (cv 6) T.c_Store T.me_Store_told (ok_Store_told T) (hr.mono (by decide)) T.b_Store_told .nil pass0))
    (pss_cons (cs_if (PW.pt (cw_or (pt_not (ct_val (pe_callB call_isi (by rfl) T.n_isinstance bt_isinstance (pa_cons (cv 10) (pa_cons (pe_bltn (v := .ty "tuple") (by rfl) T.n_tuple bt_tuple rfl) pa_nil))))) (pw_or1 (ct_cmp (o_dne hr.units) (cv 10) (pe_tup (pa_cons (pe_ix ix_tup (cv 8) pe_int (fun _ _ => rfl)) (pa_cons (pe_ix ix_tup (cv 8) pe_int (fun _ _ => rfl)) (pa_cons (pe_ix ix_tup (cv 8) pe_int (fun _ _ => rfl)) pa_nil)))))))) (pss_one (ps_ret pe_bl)) pss_nil)
    (pss_cons (cs_if (ct_cmp o_neI (pe_meth0 (cv 6) T.c_Store T.me_Store_noted (ok_Store_noted T) (hr.mono (by decide)) T.b_Store_noted .nil pass0) (pe_maxD rfl (by rfl) T.n_max (pa_cons (pe_comp (blk_mk (cap := []) (ys := []) rfl rfl rfl rfl rfl trivial (by decide +kernel)) rfl (pi_list (pe_ix ix_tup (cv 8) pe_int (fun _ _ => rfl))) (fun _ _ _ _ => (cv 0)) (fun _ _ _ _ => (cts_one (ct_notN (cv 0))))) pa_nil) pe_int)) (pss_one (ps_ret pe_bl)) pss_nil)
    (pss_cons (ps_expr (pe_bm PySem.F.plainAttrs_list PySem.F.slot_list_append PySem.F.type_list_append mt_append (pe_ix ix_tup (cv 10) pe_int (fun _ _ => rfl)) (pa_cons pe_int pa_nil)))
    (pss_one (ps_expr (pe_bm PySem.F.plainAttrs_list PySem.F.slot_list_append PySem.F.type_list_append mt_append (pe_ix ix_tup (cv 10) pe_int (fun _ _ => rfl)) (pa_cons pe_int pa_nil)))))))))))
    (pss_one (ps_ret (ce_cmp (o_deq hr.units) (pe_meth0 (cv 7) T.c_Store T.me_Store_told (ok_Store_told T) (hr.mono (by decide)) T.b_Store_told .nil pass0) (pe_tup (pa_cons (pe_op op_cat (pe_op op_rep (pe_lst (pa_cons pe_int pa_nil)) (pe_callB call_len_seq (by rfl) T.n_len bt_len (pa_cons (pe_slice sl_list (cv 4) po_none (po_some pe_int)) pa_nil))) (pe_slice sl_list (cv 4) (po_some pe_int) po_none)) (pa_cons (pe_lst (pa_cons pe_int (pa_cons pe_int pa_nil))) (pa_cons (pe_callB call_len_seq (by rfl) T.n_len bt_len (pa_cons (pe_slice sl_list (cv 4) po_none (po_some pe_int)) pa_nil)) pa_nil))))))))))))))))))), ?_⟩
    walk_at "w"
    intro f1 e1 z1 d1
    refine And.intro z1 ?_
    generalize hU1 : upd H f1 _ = H1
    have s1 : Same H H1 := Same.of_eq z1 hU1
    have c1 : H1 f1 = some (.cel none) := at_of_eq hU1
    clear hU1
    walk_at "w"
    refine ⟨l, ns, 0, rfl, s1.seq hl, by omega, ?_⟩
    walk_at "w"
    refine let_int fun cell hcell => ?_
    walk_at "w"
    clear hcell
    refine ⟨l, ns, 1, rfl, s1.seq hl, by omega, ?_⟩
    generalize cellAt ns 1 = falls
    walk_at "w"
    refine ⟨f1, e1, c1, ?_⟩
    generalize hU2 : upd H1 f1 _ = H2
    have s2 : Same H H2 := Same.wr s1 z1 hU2
    have c2 : H2 f1 = some (.cel (some (.int falls))) := by rw [← hU2]; exact upd_same
    clear hU2
    walk_at "w"
    walk_at "ss"
    intro sz hsz
    generalize hUsz : upd H2 sz _ = H3
    have sH3 := Same.of_eq hsz hUsz
    have esz := at_of_eq hUsz
    clear hUsz
    walk_at "w"
    refine let_ref ?_
    walk_at "w"
    walk_at "ss"
    have hn12 : rngN 0 (cell % 12) 1 ≤ 11 := by rw [rngN_one]; omega
    refine comp_itsP (fun i acc _ => ∃ sg : List Int, acc = sg.map V.int ∧ sg.length = i) (by rw [sizeLine_eq]; omega) ⟨[], rfl, rfl⟩ (fun i acc H4 H4' hi s4 s4' hP R hR => ?_) (fun D acc H4 H4' hD hD4 s4 s4' hP hacc hv => ?_)
    · obtain ⟨sg, rfl, hsl⟩ := hP
      walk_at "w"
      refine ⟨cell, _, rfl, ?_⟩
      have hb := mod_bounds ((cell % 2147483647 + 7919 * (0 + (i : Int) * 1) + 1) * 48271)
      have m0 := mixed_nonneg cell (0 + (i : Int) * 1)
      have m1 : mixed cell (0 + (i : Int) * 1) < 2147483647 := Int.emod_lt_of_pos _ (by decide)
      generalize mixed cell (0 + (i : Int) * 1) = mx at m0 m1
      walk_at "w"
      walk_at "ss"
      obtain ⟨v, hv⟩ := sizes_at i
      refine ⟨sz, _, _, .int v, rfl, rfl, SqL.of (s4'.at (s4.at esz)), hv, ?_⟩
      walk_at "w"
      refine And.intro (.inl ⟨by omega, by omega⟩) ?_
      exact hR _ _ (Same.refl _) fun H6 _ _ => ⟨sg ++ [mx * v], by simp, by simp [hsl]⟩
    · obtain ⟨sg, rfl, hsl⟩ := hP
      clear hacc
      rw [← hsl] at hn12
      have sA : Same H2 H4' := sH3.trans (s4.trans s4')
      have sA0 : Same H H4' := s2.trans sA
      have cA := sA.at c2
      have hD0 : H D = none := (s2.trans sH3).back hD
      clear hsl hD4 hD s4 s4' esz sH3 hsz c2 s2 s1 c1 sA
      walk_at "w"
      refine ⟨D, _, rfl, .inl (SqL.of hv), ?_⟩
      intro hd hhd
      generalize hUhd : upd H4' hd _ = H5
      have sH5 := Same.of_eq hhd hUhd
      have ehd := at_of_eq hUhd
      clear hUhd
      walk_at "w"
      refine let_ref ?_
      walk_at "w"
      have s5 := sA0.trans sH5
      refine ⟨s5.at hPl, [("_law_falls", .int falls)], rfl, fun x v m => ?_, fun f H6 hf s6 hc => ?_⟩
      · simp only [List.mem_cons, Prod.mk.injEq, List.not_mem_nil, or_false] at m
        obtain ⟨rfl, rfl⟩ := m
        exact ⟨f1, e1, sH5.at cA⟩
      walk_at "w"
      intro x dx hx hdx nx
      have s06 := s5.trans s6
      have ehd6 := s6.at ehd
      refine ⟨x, dx, hd, sg, .ref f, rfl, upd_same, by rw [upd_ne (ne_of_none ehd6 hx), upd_ne (ne_of_none ehd6 hdx)]; exact ehd6, fun S H7 hst kp hS b1 b2 b3 => ⟨rfl, ?_⟩⟩
      have s7 := made_same hx hdx kp
      have g1 := made_back hx hdx b1
      have g2 := made_back hx hdx b2
      have g3 := made_back hx hdx b3
      have g4 : H6 S.st = none := by rw [hst]; exact hx
      clear kp b1 b2 b3
      subst hst
      have fS : ∀ b ∈ SS S, H b = none := by
        intro b hb
        simp only [List.mem_cons, List.not_mem_nil, or_false] at hb
        rcases hb with rfl | rfl | rfl
        · exact s06.back g1
        · exact s06.back g2
        · exact s06.back g3
      have hf7 : FallV H7 (.ref f) (some falls) := ⟨f, rfl, hc.same s7⟩
      have ehd7 := s7.at ehd6
      have nhd : ∀ b ∈ [hd], b ≠ S.st ∧ b ≠ S.ca ∧ b ≠ S.na ∧ b ≠ S.p := by
        intro b hb
        rw [List.mem_singleton.mp hb]
        exact ⟨ne_of_none ehd6 g4, ne_of_none ehd6 g1, ne_of_none ehd6 g2, ne_of_none ehd6 g3⟩
      have hD7 := s7.at (s6.at (sH5.at hv))
      have s07 := s06.trans s7
      have nDhd : D ≠ hd := ne_of_none hv hhd
      have nDS : D ∉ SS S := by
        have := s6.at (sH5.at hv)
        simp only [List.mem_cons, List.not_mem_nil, or_false, not_or]
        exact ⟨ne_of_none this g1, ne_of_none this g2, ne_of_none this g3⟩
      walk_at "w"
      refine let_ref ?_
      walk_at "w"
      refine ⟨.inl ⟨rfl, _, SqL.of ehd7⟩, ?_⟩
      walk_at "w"
      refine ⟨hd, _, _, rfl, rfl, ehd7, by rw [List.length_map, sizeLine_eq]; omega, ?_⟩
      generalize hU8 : upd H7 hd _ = H8
      have k8 : Kp [hd] H7 H8 := by rw [← hU8]; exact (Kp.of (Same.refl _)).wr (by simp)
      have s08 : Same H H8 := same_kp s07 k8 (by intro b hb; rw [List.mem_singleton.mp hb]; exact sA0.back hhd)
      have hS8 := hS.kp0 k8 nhd
      have hf8 := hf7.kp (S := [hd]) (by intro b hb; rw [List.mem_singleton.mp hb]; exact ⟨_, ehd7, trivial⟩) k8
      have hD8 : H8 D = some (.lst (sg.map V.int)) := k8 _ _ hD7 (by simpa using nDhd)
      clear hU8
      walk_at "w"
      intro y dy hy hdy ny
      refine ⟨y, dy, D, sg, .non, rfl, upd_same, by rw [upd_ne (ne_of_none hD8 hy), upd_ne (ne_of_none hD8 hdy)]; exact hD8, fun Sq H9 hst kp hSq b1 b2 b3 => ⟨rfl, ?_⟩⟩
      have s9 := made_same hy hdy kp
      have q1 := made_back hy hdy b1
      have q2 := made_back hy hdy b2
      have q3 := made_back hy hdy b3
      have q4 : H8 Sq.st = none := by rw [hst]; exact hy
      clear kp b1 b2 b3
      subst hst
      have s09 := s08.trans s9
      have fQ : ∀ b ∈ SS Sq, H b = none := by
        intro b hb
        simp only [List.mem_cons, List.not_mem_nil, or_false] at hb
        rcases hb with rfl | rfl | rfl
        · exact s08.back q1
        · exact s08.back q2
        · exact s08.back q3
      -- the two stores stand apart
      have ap : ∀ b ∈ SS Sq, b ≠ S.st ∧ b ≠ S.ca ∧ b ≠ S.na ∧ b ≠ S.p := by
        intro b hb
        have : H8 b = none := by
          simp only [List.mem_cons, List.not_mem_nil, or_false] at hb
          rcases hb with rfl | rfl | rfl
          · exact q1
          · exact q2
          · exact q3
        exact ⟨Ne.symm (ne_of_none hS8.st this), Ne.symm (ne_of_none hS8.ca this), Ne.symm (ne_of_none hS8.na this), Ne.symm (ne_of_none hS8.p this)⟩
      have ap2 : ∀ b ∈ SS S, b ≠ Sq.st ∧ b ≠ Sq.ca ∧ b ≠ Sq.na ∧ b ≠ Sq.p := by
        intro b hb
        obtain ⟨u, e, _⟩ := hS8.mu b hb
        exact ⟨ne_of_none e q4, ne_of_none e q1, ne_of_none e q2, ne_of_none e q3⟩
      have hS9 := hS8.same s9
      have hf9 := hf8.kp hS8.mu (Kp.of s9)
      have hD9 := s9.at hD8
      have nDQ : D ∉ SS Sq := by
        simp only [List.mem_cons, List.not_mem_nil, or_false, not_or]
        exact ⟨ne_of_none hD8 q1, ne_of_none hD8 q2, ne_of_none hD8 q3⟩
      clear hS8 hf8 hD8 s9 q1 q2 q3 q4 hS hf7 ehd7 hD7 k8 s08 s07 nhd g1 g2 g3 g4 s7 hy hdy ny hx hdx nx ehd6 s06 hf s6 hc
      walk_at "w"
      refine let_ref ?_
      walk_at "w"
      refine ⟨fun σ' H' => σ' = [some (.ref l), some (.int cell), some (.int falls), some (.ref sz), some (.ref D), some (.ref hd), some (.ref S.st), some (.ref Sq.st), none, none, none] ∧ Same H H' ∧ StAt a H' S sg [some 0, some 0] 0 (.ref f) ∧ FallV H' (.ref f) (some falls) ∧ H' D = some (.lst (sg.map V.int)) ∧ StAt a H' Sq (quietC sg) [some 0, some 0] (quietN sg) .non, ?_, ?_⟩
      · walk_at "w"
        walk_at "ss"
        intro el hel
        generalize hUel : upd H9 el _ = H10
        have sH10 := Same.of_eq hel hUel
        have eel := at_of_eq hUel
        clear hUel
        walk_at "w"
        refine leq_imp ⟨D, el, sg, [], rfl, rfl, SqL.of (sH10.at hD9), SqL.of eel, ?_⟩
        cases sg with
        | nil =>
          walk_at "w"
          refine ⟨by walk_at "no", fun _ => ?_⟩
          exact ⟨rfl, s09.trans sH10, hS9.same sH10, hf9.kp hS9.mu (Kp.of sH10), sH10.at hD9, hSq.same sH10⟩
        | cons x0 r0 =>
          walk_at "w"
          refine ⟨fun _ => ?_, by walk_at "no"⟩
          walk_at "w"
          have hSq10 := hSq.same sH10
          refine ⟨Sq.st, Sq.dx, _, rfl, hSq10.st, rfl, ?_⟩
          walk_at "w"
          refine ⟨Sq, x0 :: r0, _, 0, 0, 5, .non, none, rfl, hSq10, rfl, ⟨by omega, by omega⟩, (s09.trans sH10).at hPw, fun _ _ H11 k11 hSq11 => ?_, fun _ z => absurd rfl z, fun z => absurd ⟨by omega, by show (0 : Int) < ((r0.length + 1 : Nat) : Int); omega⟩ z⟩
          refine ⟨rfl, same_kp (s09.trans sH10) k11 fQ, (hS9.same sH10).kp0 k11 ap, ?_, k11 _ _ (sH10.at hD9) nDQ, hSq11⟩
          exact (hf9.kp hS9.mu (Kp.of sH10)).kp hSq10.mu k11
      · rintro σ' G0 ⟨rfl, s0, hS0, hf0, hD0', hQ0⟩
        clear hS9 hf9 hD9 hSq s09 hv ehd sH5 s5 sA0 cA hhd
        walk_at "w"
        walk_at "ss"
        intro no hno
        generalize hUno : upd G0 no _ = G1
        have sG1 := Same.of_eq hno hUno
        have eno := at_of_eq hUno
        clear hUno
        walk_at "w"
        walk_at "ss"
        intro st0 hst0
        generalize hUst0 : upd G1 st0 _ = G2
        have sG2 := Same.of_eq hst0 hUst0
        have est0 := at_of_eq hUst0
        clear hUst0
        walk_at "w"
        refine let_ref ?_
        walk_at "w"
        have s20 := s0.trans (sG1.trans sG2)
        refine ⟨l, _, rfl, .inl (s20.seq hl), ?_⟩
        rw [List.length_map]
        walk_at "w"
        have hr40 : rngN 2 (min (ns.length : Int) 42) 1 ≤ 40 ∧ 2 + (rngN 2 (min (ns.length : Int) 42) 1 : Int) ≤ max 2 ns.length := by rw [rngN_one]; omega
        generalize rngN 2 (min (ns.length : Int) 42) 1 = N at hr40
        refine forAt_its (fun i σ G => ∃ (t c m : Addr) (cells : List Int) (notes : List (Option Int)) (n : Int) (x9 x10 : Option V), σ = [some (.ref l), some (.int cell), some (.int falls), some (.ref sz), some (.ref D), some (.ref hd), some (.ref S.st), some (.ref Sq.st), some (.ref t), x9, x10] ∧ Same H G ∧ Pre a G S t c m cells notes n falls (.ref f) ∧ cells.length ≤ 11 ∧ n ≤ 2 * i ∧ G D = some (.lst (sg.map V.int)) ∧ StAt a G Sq (quietC sg) [some 0, some 0] (quietN sg) .non) ?_ (fun i σ G hi hP => ?_) (fun σ G hP => ?_)
        · have hs2 := sG1.trans sG2
          have p0 := hS0.same hs2
          refine ⟨st0, D, no, sg, [some 0, some 0], 0, none, none, rfl, s20, ⟨p0, hf0.kp hS0.mu (Kp.of hs2), ⟨est0, hs2.at hD0', sG2.at eno⟩, nDS, fresh_nin hS0 hno, ⟨by omega, by omega⟩, ⟨by omega, by omega⟩, s20.at hPw, s20.at hPd, rfl⟩, hn12, by omega, hs2.at hD0', hQ0.same hs2⟩
        · obtain ⟨t, c, m, cells, notes, n, x9, x10, rfl, sG, p, hc11, hn2, hDG, hQG⟩ := hP
          have hi2 : (2 + (i : Int) * 1).toNat < ns.length := by omega
          have hn0 := p.n0.1
          walk_at "w"
          refine ⟨l, _, _, .int ns[(2 + (i : Int) * 1).toNat], rfl, rfl, sG.seq hl, atI_in (by omega) (List.getElem?_eq_getElem hi2), ?_⟩
          walk_at "w"
          refine ⟨S, t, c, m, cells, notes, n, _, falls, _, .ref f, rfl, p, hc11, fun cells' notes' n' h1 h2 h3 h4 t1 c1 m1 G1 kp hS1 hC1 nc nm => ?_⟩
          have p1 := Pre.to p kp hS1 hC1 nc nm ⟨by omega, by omega⟩ ⟨by omega, by omega⟩ h2
          have sG1 := same_kp sG kp fS
          have hQ1 := hQG.kp0 kp ap2
          have hD1 := kp _ _ hDG nDS
          clear hDG hQG sG kp p hS1 hC1
          walk_at "w"
          refine let_ref ?_
          walk_at "w"
          refine ⟨by walk_at "no", fun _ => ?_⟩
          walk_at "w"
          refine ⟨S.st, S.dx, _, rfl, p1.st.st, rfl, ?_⟩
          walk_at "w"
          refine ⟨S, cells', notes', n', .ref f, rfl, p1.st, fun tt ct mt G2 s2 hct hmt nct ett ect emt => ?_⟩
          walk_at "w"
          refine let_ref ?_
          walk_at "w"
          refine ⟨_, _, _, _, true, rfl, rfl, TyOf.tup ett, rfl, ?_⟩
          walk_at "w"
          refine ⟨by walk_at "no", fun _ => ?_⟩
          walk_at "w"
          have p2 := p1.same s2
          refine ⟨t1, _, 0, .ref c1, rfl, rfl, SqT.of p2.C.1, rfl, ?_⟩
          walk_at "w"
          refine ⟨t1, _, 1, .ref m1, rfl, rfl, SqT.of p2.C.1, rfl, ?_⟩
          walk_at "w"
          refine ⟨t1, _, 2, .int n', rfl, rfl, SqT.of p2.C.1, rfl, ?_⟩
          walk_at "w"
          walk_at "ss"
          intro tu htu
          generalize hUtu : upd G2 tu _ = G3
          have sG3 := Same.of_eq htu hUtu
          have etu := at_of_eq hUtu
          clear hUtu
          walk_at "w"
          have p3 := p2.same sG3
          refine deq_same (d := toldD cells' notes' n') (told_rp (sG3.at ett) (sG3.at ect) (sG3.at emt)) (told_rp etu p3.C.2.1 p3.C.2.2) (told_sh _ _ _) ?_
          walk_at "w"
          refine ⟨by walk_at "no", fun _ => ?_⟩
          walk_at "w"
          refine ⟨S.st, S.dx, _, rfl, p3.st.st, rfl, ?_⟩
          walk_at "w"
          refine ⟨S, cells', notes', n', .ref f, rfl, p3.st, h2, fun mx1 G4 s4 hm1 => ?_⟩
          have p4 := p3.same s4
          walk_at "w"
          refine ⟨t1, _, 1, .ref m1, rfl, rfl, SqT.of p4.C.1, rfl, ?_⟩
          walk_at "w"
          refine ⟨m1, rfl, ⟨_, SqL.of p4.C.2.2⟩, ?_⟩
          refine comp_listF (fun v => !(isN v)) (fun v => v) (SqL.of p4.C.2.2) (by rw [List.length_map, h2]; decide) (fun x H3 hx s3 R hR => ?_) (fun x H3 hx hp s3 R hR => ?_) (fun Dm G5 hDm s5 eDm => ?_)
          · exact hR H3 (Same.refl _)
          · exact hR H3 (Same.refl _)
          rw [filt_notes] at eDm
          walk_at "w"
          refine ⟨Dm, _, 0, rfl, rfl, SqL.of eDm, fun mx2 hz1 hz2 => ?_⟩
          obtain rfl : mx1 = mx2 := hm1.uniq ⟨hz1, hz2⟩
          walk_at "w"
          rw [decide_eq_true (rfl : mx1 = mx1)]
          refine ⟨by walk_at "no", fun _ => ?_⟩
          have s25 := sG3.trans (s4.trans s5)
          walk_at "w"
          refine ⟨tt, _, 0, .ref ct, rfl, rfl, SqT.of (s25.at ett), rfl, ?_⟩
          walk_at "w"
          refine ⟨.inl ⟨rfl, _, SqL.of (s25.at ect)⟩, ?_⟩
          walk_at "w"
          refine ⟨ct, _, _, rfl, rfl, s25.at ect, by rw [List.length_map, sizeLine_eq]; omega, ?_⟩
          generalize hU6 : upd G5 ct _ = G6
          have s16 : Same G1 G6 := Same.wr (s2.trans s25) hct hU6
          have ett6 : G6 tt = some (.tup [.ref ct, .ref mt, .int n']) := by rw [← hU6, upd_ne (ne_of (s25.at ett) (s25.at ect) (by intro z; cases z))]; exact s25.at ett
          have emt6 : G6 mt = some (.lst (notes'.map nV)) := by rw [← hU6, upd_ne (Ne.symm nct)]; exact s25.at emt
          clear hU6
          walk_at "w"
          refine ⟨tt, _, 1, .ref mt, rfl, rfl, SqT.of ett6, rfl, ?_⟩
          walk_at "w"
          refine ⟨.inl ⟨rfl, _, SqL.of emt6⟩, ?_⟩
          walk_at "w"
          refine ⟨mt, _, _, rfl, rfl, emt6, by rw [List.length_map, h2, sizeLine_eq]; omega, ?_⟩
          have s17 : Same G1 (upd G6 mt (.lst (notes'.map nV ++ [.int 4]))) := s16.put hmt
          exact ⟨t1, c1, m1, cells', notes', n', _, _, rfl, sG1.trans s17, p1.same s17, by omega, by omega, s17.at hD1, hQ1.same s17⟩
        · obtain ⟨t, c, m, cells, notes, n, x9, x10, rfl, sG, p, hc11, hn2, hDG, hQG⟩ := hP
          clear p hc11 hn2
          walk_at "w"
          refine ⟨Sq.st, Sq.dx, _, rfl, hQG.st, rfl, ?_⟩
          walk_at "w"
          refine ⟨Sq, _, _, _, .non, rfl, hQG, fun tt ct mt G2 s2 hct hmt nct ett ect emt => ?_⟩
          have hD2 := s2.at hDG
          walk_at "w"
          walk_at "ss"
          intro a1 ha1
          generalize hUa1 : upd G2 a1 _ = G3
          have sG3 := Same.of_eq ha1 hUa1
          have ea1 := at_of_eq hUa1
          clear hUa1
          walk_at "w"
          refine ⟨_, rfl, ?_⟩
          walk_at "w"
          refine ⟨D, _, rfl, SqL.of (sG3.at hD2), ?_⟩
          rw [cut_one]
          intro a2 ha2
          generalize hUa2 : upd G3 a2 _ = G4
          have sG4 := Same.of_eq ha2 hUa2
          have ea2 := at_of_eq hUa2
          clear hUa2
          walk_at "w"
          refine ⟨a2, _, rfl, .inl (SqL.of ea2), ?_⟩
          rw [List.length_map]
          have hl1 : (sg.take 1).length ≤ 1 := by rw [List.length_take]; omega
          have hD4 := sG4.at (sG3.at hD2)
          walk_at "w"
          refine ⟨a1, _, _, rfl, rfl, sG4.at ea1, by omega, by omega, ?_, ?_⟩
          · show 1 * _ ≤ sizeLine
            rw [sizeLine_eq]; omega
          intro a3 ha3
          generalize hUa3 : upd G4 a3 _ = G5
          have sG5 := Same.of_eq ha3 hUa3
          have ea3 := at_of_eq hUa3
          clear hUa3
          walk_at "w"
          refine ⟨_, rfl, ?_⟩
          walk_at "w"
          refine ⟨D, _, rfl, SqL.of (sG5.at hD4), ?_⟩
          rw [cut_rest]
          intro a4 ha4
          generalize hUa4 : upd G5 a4 _ = G6
          have sG6 := Same.of_eq ha4 hUa4
          have ea4 := at_of_eq hUa4
          clear hUa4
          walk_at "w"
          refine ⟨a3, a4, _, _, rfl, rfl, sG6.at ea3, ea4, ?_, ?_⟩
          · rw [len_rep, List.length_map, sizeLine_eq]
            show _ * 1 + _ ≤ _
            rw [List.length_drop]
            omega
          rw [quiet_list]
          intro a5 ha5
          generalize hUa5 : upd G6 a5 _ = G7
          have sG7 := Same.of_eq ha5 hUa5
          have ea5 := at_of_eq hUa5
          clear hUa5
          walk_at "w"
          walk_at "ss"
          intro a6 ha6
          generalize hUa6 : upd G7 a6 _ = G8
          have sG8 := Same.of_eq ha6 hUa6
          have ea6 := at_of_eq hUa6
          clear hUa6
          walk_at "w"
          have hD8 := sG8.at (sG7.at (sG6.at (sG5.at hD4)))
          refine ⟨_, rfl, ?_⟩
          walk_at "w"
          refine ⟨D, _, rfl, SqL.of hD8, ?_⟩
          rw [cut_one]
          intro a7 ha7
          generalize hUa7 : upd G8 a7 _ = G9
          have sG9 := Same.of_eq ha7 hUa7
          have ea7 := at_of_eq hUa7
          clear hUa7
          walk_at "w"
          refine ⟨a7, _, rfl, .inl (SqL.of ea7), ?_⟩
          rw [List.length_map, quiet_len]
          walk_at "w"
          walk_at "ss"
          intro tu htu
          generalize hUtu : upd G9 tu _ = GX
          have sGX := Same.of_eq htu hUtu
          have etu := at_of_eq hUtu
          clear hUtu
          walk_at "w"
          have s2X := sG3.trans (sG4.trans (sG5.trans (sG6.trans (sG7.trans (sG8.trans (sG9.trans sGX))))))
          refine deq_same (f := fun b => b) (d := toldD (quietC sg) [some 0, some 0] (quietN sg)) (told_rp (s2X.at ett) (s2X.at ect) (s2X.at emt)) (told_rp etu ((sG8.trans (sG9.trans sGX)).at ea5) ((sG9.trans sGX).at ea6)) (told_sh _ _ _) ?_
          exact kk _
end
theorem txt_mk {l : PySem.W.OpenLaw} {w : World} {K : PySem.W.Frag} {h : Heap} {mg : Str → Option Value} {fa : Addr} {f_OutOfRoom_init f_Fallen_init f_Pen_init f_Pen_write_into f_Pen_answer_of_fall f_Store_init f_Store_read f_Store_write f_Store_mark f_Store_noted f_Store_begin f_Store_told f_Store_refuse_lacking f_Store_note_down f_cell_at f_mixed f_fall_at f_refused f_noted f_begun f_written f_deed f_law C_Pen C_Store C_Fallen C_OutOfRoom C_RoomError : Addr} {dT_Store_init : Addr} {dod_Store_init : Option Addr} {dn_Store_init : Nat} {dsl_Store_init : Array (Option Value)} {ddc_Store_init : Value} {od0 an0 od1 an1 od2 an2 od3 an3 od4 an4 od5 an5 od6 an6 od7 an7 od8 an8 od9 an9 od10 an10 od11 an11 od12 an12 od13 an13 od14 an14 od15 an15 od16 an16 od17 an17 od18 an18 od19 an19 od20 an20 od21 an21 od22 an22 : Option Addr} {sl0 sl1 sl2 sl3 sl4 sl5 sl6 sl7 sl8 sl9 sl10 sl11 sl12 sl13 sl14 sl15 sl16 sl17 sl18 sl19 sl20 sl21 sl22 : Array (Option Value)} {oc0 kV0 dc0 pm0 cd0 ct0 oc1 kV1 dc1 pm1 cd1 ct1 oc2 kV2 dc2 pm2 cd2 ct2 oc3 kV3 dc3 pm3 cd3 ct3 oc4 kV4 dc4 pm4 cd4 ct4 oc5 kV5 dc5 pm5 cd5 ct5 oc6 kV6 dc6 pm6 cd6 ct6 oc7 kV7 dc7 pm7 ct7 oc8 kV8 dc8 pm8 cd8 ct8 oc9 kV9 dc9 pm9 cd9 ct9 oc10 kV10 dc10 pm10 cd10 ct10 oc11 kV11 dc11 pm11 cd11 ct11 oc12 kV12 dc12 pm12 cd12 ct12 oc13 kV13 dc13 pm13 ct13 oc14 kV14 dc14 pm14 cd14 ct14 oc15 kV15 dc15 pm15 cd15 ct15 oc16 kV16 dc16 pm16 cd16 ct16 oc17 kV17 dc17 pm17 cd17 ct17 oc18 kV18 dc18 pm18 cd18 ct18 oc19 kV19 dc19 pm19 cd19 ct19 oc20 kV20 dc20 pm20 cd20 ct20 oc21 kV21 dc21 pm21 cd21 ct21 oc22 kV22 dc22 pm22 ct22 : Value} (X : K.In h) (G : h.Ns mainGlobals mg) (hfa : mg "law" = some (.ref fa))
    (aC_Pen : PySem.W.nsIn K mainGlobals "Pen" = some (some (.ref C_Pen)))
    (aC_Store : PySem.W.nsIn K mainGlobals "Store" = some (some (.ref C_Store)))
    (aC_Fallen : PySem.W.nsIn K mainGlobals "Fallen" = some (some (.ref C_Fallen)))
    (aC_OutOfRoom : PySem.W.nsIn K mainGlobals "OutOfRoom" = some (some (.ref C_OutOfRoom)))
    (aC_RoomError : PySem.W.nsIn K mainGlobals "RoomError" = some (some (.ref C_RoomError)))
    (xn1_Fallen : L2.xinIn K C_Fallen f_Fallen_init = true)
    (xn2_Fallen : PySem.W.isFn K (.ref f_Fallen_init) = true)
    (xn3_Fallen : PySem.W.hasDictIn K C_Fallen = true)
    (xn4_Fallen : (PySem.W.clsIn K C_Fallen).any (fun cd => L2.afterRefs cd.mro == L2.mroV) = true)
    (xn5_Fallen : PySem.W.mroIn K C_Fallen (.type "object") = some true)
    (xn6_Fallen : PySem.W.findIn K (.ref C_Fallen) "__setattr__" = some (some (.builtin "object.__setattr__")))
    (na_Fallen_count : PySem.W.findIn K (.ref C_Fallen) "count" = some none)
    (kc_Fallen_Fallen : PySem.W.kitCls K (.ref C_Fallen) (.ref C_Fallen) = some true)
    (kc_Fallen_OutOfRoom : PySem.W.kitCls K (.ref C_Fallen) (.ref C_OutOfRoom) = some false)
    (ik_Fallen_ValueError : PySem.W.kitOne K (.ref C_Fallen) (.type "ValueError") = some true)
    (xi1_Fallen : PySem.W.findIn K (.ref C_Fallen) "__getattribute__" = some (some (.builtin "BaseException.__getattribute__")))
    (xi2_Fallen : PySem.W.findIn K (.ref C_Fallen) "__getattr__" = some none)
    (xi3_Fallen : PySem.W.findIn K (.ref C_Fallen) "__class__" = some (some (.builtin "object.__class__")))
    (xi4_Fallen : PySem.W.specialIn K (.builtin "object.__class__") "__get__" = some (some (.builtin "getset_descriptor.__get__")))
    (xi5_Fallen : PySem.W.takesIn K (.builtin "object.__class__") = some true)
    (xi6_Fallen : PySem.W.mroIn K C_Fallen (.type "object") = some true)
    (xi7_Fallen : PySem.W.mroIn K C_Fallen (.type "BaseException") = some true)
    (xi8_Fallen : (PySem.W.clsIn K C_Fallen).isSome = true)
    (xn1_OutOfRoom : L2.xinIn K C_OutOfRoom f_OutOfRoom_init = true)
    (xn2_OutOfRoom : PySem.W.isFn K (.ref f_OutOfRoom_init) = true)
    (xn3_OutOfRoom : PySem.W.hasDictIn K C_OutOfRoom = true)
    (xn4_OutOfRoom : (PySem.W.clsIn K C_OutOfRoom).any (fun cd => L2.afterRefs cd.mro == L2.mroV) = true)
    (xn5_OutOfRoom : PySem.W.mroIn K C_OutOfRoom (.type "object") = some true)
    (xn6_OutOfRoom : PySem.W.findIn K (.ref C_OutOfRoom) "__setattr__" = some (some (.builtin "object.__setattr__")))
    (na_OutOfRoom_at : PySem.W.findIn K (.ref C_OutOfRoom) "at" = some none)
    (kc_OutOfRoom_Fallen : PySem.W.kitCls K (.ref C_OutOfRoom) (.ref C_Fallen) = some false)
    (kc_OutOfRoom_OutOfRoom : PySem.W.kitCls K (.ref C_OutOfRoom) (.ref C_OutOfRoom) = some true)
    (ik_OutOfRoom_ValueError : PySem.W.kitOne K (.ref C_OutOfRoom) (.type "ValueError") = some true)
    (xi1_OutOfRoom : PySem.W.findIn K (.ref C_OutOfRoom) "__getattribute__" = some (some (.builtin "BaseException.__getattribute__")))
    (xi2_OutOfRoom : PySem.W.findIn K (.ref C_OutOfRoom) "__getattr__" = some none)
    (xi3_OutOfRoom : PySem.W.findIn K (.ref C_OutOfRoom) "__class__" = some (some (.builtin "object.__class__")))
    (xi4_OutOfRoom : PySem.W.specialIn K (.builtin "object.__class__") "__get__" = some (some (.builtin "getset_descriptor.__get__")))
    (xi5_OutOfRoom : PySem.W.takesIn K (.builtin "object.__class__") = some true)
    (xi6_OutOfRoom : PySem.W.mroIn K C_OutOfRoom (.type "object") = some true)
    (xi7_OutOfRoom : PySem.W.mroIn K C_OutOfRoom (.type "BaseException") = some true)
    (xi8_OutOfRoom : (PySem.W.clsIn K C_OutOfRoom).isSome = true)
    (xc_Fallen : PySem.W.mroIn K C_Fallen (.type "BaseException") = some true)
    (xc_OutOfRoom : PySem.W.mroIn K C_OutOfRoom (.type "BaseException") = some true)
    (a_OutOfRoom_init : PySem.W.findIn K (.ref C_OutOfRoom) "__init__" = some (some (.ref f_OutOfRoom_init)))
    (l_OutOfRoom_init : K.lookup f_OutOfRoom_init = some ⟨oc0, od0, .func (PySem.W.fnOf "__init__" "OutOfRoom.__init__" (defArgs s_OutOfRoom_init) (defBody s_OutOfRoom_init) (defScope s_OutOfRoom_init) .none kV0 dc0 pm0 an0 cd0 ct0), sl0⟩)
    (c_OutOfRoom_init : PySem.W.codeIn K cd0 "OutOfRoom.__init__" = true)
    (k_OutOfRoom_init : PySem.W.keepIn K (.ref f_OutOfRoom_init) = true)
    (a_Fallen_init : PySem.W.findIn K (.ref C_Fallen) "__init__" = some (some (.ref f_Fallen_init)))
    (l_Fallen_init : K.lookup f_Fallen_init = some ⟨oc1, od1, .func (PySem.W.fnOf "__init__" "Fallen.__init__" (defArgs s_Fallen_init) (defBody s_Fallen_init) (defScope s_Fallen_init) .none kV1 dc1 pm1 an1 cd1 ct1), sl1⟩)
    (c_Fallen_init : PySem.W.codeIn K cd1 "Fallen.__init__" = true)
    (k_Fallen_init : PySem.W.keepIn K (.ref f_Fallen_init) = true)
    (a_Pen_init : PySem.W.findIn K (.ref C_Pen) "__init__" = some (some (.ref f_Pen_init)))
    (l_Pen_init : K.lookup f_Pen_init = some ⟨oc2, od2, .func (PySem.W.fnOf "__init__" "Pen.__init__" (defArgs s_Pen_init) (defBody s_Pen_init) (defScope s_Pen_init) .none kV2 dc2 pm2 an2 cd2 ct2), sl2⟩)
    (c_Pen_init : PySem.W.codeIn K cd2 "Pen.__init__" = true)
    (k_Pen_init : PySem.W.keepIn K (.ref f_Pen_init) = true)
    (a_Pen_write_into : PySem.W.findIn K (.ref C_Pen) "write_into" = some (some (.ref f_Pen_write_into)))
    (l_Pen_write_into : K.lookup f_Pen_write_into = some ⟨oc3, od3, .func (PySem.W.fnOf "write_into" "Pen.write_into" (defArgs s_Pen_write_into) (defBody s_Pen_write_into) (defScope s_Pen_write_into) .none kV3 dc3 pm3 an3 cd3 ct3), sl3⟩)
    (c_Pen_write_into : PySem.W.codeIn K cd3 "Pen.write_into" = true)
    (k_Pen_write_into : PySem.W.keepIn K (.ref f_Pen_write_into) = true)
    (a_Pen_answer_of_fall : PySem.W.findIn K (.ref C_Pen) "answer_of_fall" = some (some (.ref f_Pen_answer_of_fall)))
    (l_Pen_answer_of_fall : K.lookup f_Pen_answer_of_fall = some ⟨oc4, od4, .func (PySem.W.fnOf "answer_of_fall" "Pen.answer_of_fall" (defArgs s_Pen_answer_of_fall) (defBody s_Pen_answer_of_fall) (defScope s_Pen_answer_of_fall) .none kV4 dc4 pm4 an4 cd4 ct4), sl4⟩)
    (c_Pen_answer_of_fall : PySem.W.codeIn K cd4 "Pen.answer_of_fall" = true)
    (k_Pen_answer_of_fall : PySem.W.keepIn K (.ref f_Pen_answer_of_fall) = true)
    (a_Store_init : PySem.W.findIn K (.ref C_Store) "__init__" = some (some (.ref f_Store_init)))
    (l_Store_init : K.lookup f_Store_init = some ⟨oc5, od5, .func (PySem.W.fnOf "__init__" "Store.__init__" (defArgs s_Store_init) (defBody s_Store_init) (defScope s_Store_init) (.ref dT_Store_init) kV5 dc5 pm5 an5 cd5 ct5), sl5⟩)
    (ld_Store_init : K.lookup dT_Store_init = some ⟨ddc_Store_init, dod_Store_init, .seq #[.none] dn_Store_init, dsl_Store_init⟩)
    (c_Store_init : PySem.W.codeIn K cd5 "Store.__init__" = true)
    (k_Store_init : PySem.W.keepIn K (.ref f_Store_init) = true)
    (a_Store_read : PySem.W.findIn K (.ref C_Store) "read" = some (some (.ref f_Store_read)))
    (l_Store_read : K.lookup f_Store_read = some ⟨oc6, od6, .func (PySem.W.fnOf "read" "Store.read" (defArgs s_Store_read) (defBody s_Store_read) (defScope s_Store_read) .none kV6 dc6 pm6 an6 cd6 ct6), sl6⟩)
    (c_Store_read : PySem.W.codeIn K cd6 "Store.read" = true)
    (k_Store_read : PySem.W.keepIn K (.ref f_Store_read) = true)
    (a_Store_write : PySem.W.findIn K (.ref C_Store) "write" = some (some (.ref f_Store_write)))
    (tk_Store_write : TabK K c_Store_write P_Store_write)
    (l_Store_write : K.lookup f_Store_write = some ⟨oc7, od7, .func (PySem.W.fnOf "write" "Store.write" (defArgs s_Store_write) (defBody s_Store_write) (defScope s_Store_write) .none kV7 dc7 pm7 an7 (.ref c_Store_write) ct7), sl7⟩)
    (c_Store_write : PySem.W.codeIn K (.ref c_Store_write) "Store.write" = true)
    (k_Store_write : PySem.W.keepIn K (.ref f_Store_write) = true)
    (a_Store_mark : PySem.W.findIn K (.ref C_Store) "mark" = some (some (.ref f_Store_mark)))
    (l_Store_mark : K.lookup f_Store_mark = some ⟨oc8, od8, .func (PySem.W.fnOf "mark" "Store.mark" (defArgs s_Store_mark) (defBody s_Store_mark) (defScope s_Store_mark) .none kV8 dc8 pm8 an8 cd8 ct8), sl8⟩)
    (c_Store_mark : PySem.W.codeIn K cd8 "Store.mark" = true)
    (k_Store_mark : PySem.W.keepIn K (.ref f_Store_mark) = true)
    (a_Store_noted : PySem.W.findIn K (.ref C_Store) "noted" = some (some (.ref f_Store_noted)))
    (l_Store_noted : K.lookup f_Store_noted = some ⟨oc9, od9, .func (PySem.W.fnOf "noted" "Store.noted" (defArgs s_Store_noted) (defBody s_Store_noted) (defScope s_Store_noted) .none kV9 dc9 pm9 an9 cd9 ct9), sl9⟩)
    (c_Store_noted : PySem.W.codeIn K cd9 "Store.noted" = true)
    (k_Store_noted : PySem.W.keepIn K (.ref f_Store_noted) = true)
    (a_Store_begin : PySem.W.findIn K (.ref C_Store) "begin" = some (some (.ref f_Store_begin)))
    (l_Store_begin : K.lookup f_Store_begin = some ⟨oc10, od10, .func (PySem.W.fnOf "begin" "Store.begin" (defArgs s_Store_begin) (defBody s_Store_begin) (defScope s_Store_begin) .none kV10 dc10 pm10 an10 cd10 ct10), sl10⟩)
    (c_Store_begin : PySem.W.codeIn K cd10 "Store.begin" = true)
    (k_Store_begin : PySem.W.keepIn K (.ref f_Store_begin) = true)
    (a_Store_told : PySem.W.findIn K (.ref C_Store) "told" = some (some (.ref f_Store_told)))
    (l_Store_told : K.lookup f_Store_told = some ⟨oc11, od11, .func (PySem.W.fnOf "told" "Store.told" (defArgs s_Store_told) (defBody s_Store_told) (defScope s_Store_told) .none kV11 dc11 pm11 an11 cd11 ct11), sl11⟩)
    (c_Store_told : PySem.W.codeIn K cd11 "Store.told" = true)
    (k_Store_told : PySem.W.keepIn K (.ref f_Store_told) = true)
    (a_Store_refuse_lacking : PySem.W.findIn K (.ref C_Store) "refuse_lacking" = some (some (.ref f_Store_refuse_lacking)))
    (l_Store_refuse_lacking : K.lookup f_Store_refuse_lacking = some ⟨oc12, od12, .func (PySem.W.fnOf "refuse_lacking" "Store.refuse_lacking" (defArgs s_Store_refuse_lacking) (defBody s_Store_refuse_lacking) (defScope s_Store_refuse_lacking) .none kV12 dc12 pm12 an12 cd12 ct12), sl12⟩)
    (c_Store_refuse_lacking : PySem.W.codeIn K cd12 "Store.refuse_lacking" = true)
    (k_Store_refuse_lacking : PySem.W.keepIn K (.ref f_Store_refuse_lacking) = true)
    (a_Store_note_down : PySem.W.findIn K (.ref C_Store) "note_down" = some (some (.ref f_Store_note_down)))
    (tk_Store_note_down : TabK K c_Store_note_down P_Store_note_down)
    (l_Store_note_down : K.lookup f_Store_note_down = some ⟨oc13, od13, .func (PySem.W.fnOf "note_down" "Store.note_down" (defArgs s_Store_note_down) (defBody s_Store_note_down) (defScope s_Store_note_down) .none kV13 dc13 pm13 an13 (.ref c_Store_note_down) ct13), sl13⟩)
    (c_Store_note_down : PySem.W.codeIn K (.ref c_Store_note_down) "Store.note_down" = true)
    (k_Store_note_down : PySem.W.keepIn K (.ref f_Store_note_down) = true)
    (a_cell_at : PySem.W.nsIn K mainGlobals "_law_cell_at" = some (some (.ref f_cell_at)))
    (l_cell_at : K.lookup f_cell_at = some ⟨oc14, od14, .func (PySem.W.fnOf "_law_cell_at" "_law_cell_at" (defArgs s_cell_at) (defBody s_cell_at) (defScope s_cell_at) .none kV14 dc14 pm14 an14 cd14 ct14), sl14⟩)
    (c_cell_at : PySem.W.codeIn K cd14 "_law_cell_at" = true)
    (k_cell_at : PySem.W.keepIn K (.ref f_cell_at) = true)
    (a_mixed : PySem.W.nsIn K mainGlobals "_law_mixed" = some (some (.ref f_mixed)))
    (l_mixed : K.lookup f_mixed = some ⟨oc15, od15, .func (PySem.W.fnOf "_law_mixed" "_law_mixed" (defArgs s_mixed) (defBody s_mixed) (defScope s_mixed) .none kV15 dc15 pm15 an15 cd15 ct15), sl15⟩)
    (c_mixed : PySem.W.codeIn K cd15 "_law_mixed" = true)
    (k_mixed : PySem.W.keepIn K (.ref f_mixed) = true)
    (a_fall_at : PySem.W.nsIn K mainGlobals "_law_fall_at" = some (some (.ref f_fall_at)))
    (l_fall_at : K.lookup f_fall_at = some ⟨oc16, od16, .func (PySem.W.fnOf "_law_fall_at" "_law_fall_at" (defArgs s_fall_at) (defBody s_fall_at) (defScope s_fall_at) .none kV16 dc16 pm16 an16 cd16 ct16), sl16⟩)
    (c_fall_at : PySem.W.codeIn K cd16 "_law_fall_at" = true)
    (k_fall_at : PySem.W.keepIn K (.ref f_fall_at) = true)
    (a_refused : PySem.W.nsIn K mainGlobals "_law_refused" = some (some (.ref f_refused)))
    (l_refused : K.lookup f_refused = some ⟨oc17, od17, .func (PySem.W.fnOf "_law_refused" "_law_refused" (defArgs s_refused) (defBody s_refused) (defScope s_refused) .none kV17 dc17 pm17 an17 cd17 ct17), sl17⟩)
    (c_refused : PySem.W.codeIn K cd17 "_law_refused" = true)
    (k_refused : PySem.W.keepIn K (.ref f_refused) = true)
    (a_noted : PySem.W.nsIn K mainGlobals "_law_noted" = some (some (.ref f_noted)))
    (l_noted : K.lookup f_noted = some ⟨oc18, od18, .func (PySem.W.fnOf "_law_noted" "_law_noted" (defArgs s_noted) (defBody s_noted) (defScope s_noted) .none kV18 dc18 pm18 an18 cd18 ct18), sl18⟩)
    (c_noted : PySem.W.codeIn K cd18 "_law_noted" = true)
    (k_noted : PySem.W.keepIn K (.ref f_noted) = true)
    (a_begun : PySem.W.nsIn K mainGlobals "_law_begun" = some (some (.ref f_begun)))
    (l_begun : K.lookup f_begun = some ⟨oc19, od19, .func (PySem.W.fnOf "_law_begun" "_law_begun" (defArgs s_begun) (defBody s_begun) (defScope s_begun) .none kV19 dc19 pm19 an19 cd19 ct19), sl19⟩)
    (c_begun : PySem.W.codeIn K cd19 "_law_begun" = true)
    (k_begun : PySem.W.keepIn K (.ref f_begun) = true)
    (a_written : PySem.W.nsIn K mainGlobals "_law_written" = some (some (.ref f_written)))
    (l_written : K.lookup f_written = some ⟨oc20, od20, .func (PySem.W.fnOf "_law_written" "_law_written" (defArgs s_written) (defBody s_written) (defScope s_written) .none kV20 dc20 pm20 an20 cd20 ct20), sl20⟩)
    (c_written : PySem.W.codeIn K cd20 "_law_written" = true)
    (k_written : PySem.W.keepIn K (.ref f_written) = true)
    (a_deed : PySem.W.nsIn K mainGlobals "_law_deed" = some (some (.ref f_deed)))
    (l_deed : K.lookup f_deed = some ⟨oc21, od21, .func (PySem.W.fnOf "_law_deed" "_law_deed" (defArgs s_deed) (defBody s_deed) (defScope s_deed) .none kV21 dc21 pm21 an21 cd21 ct21), sl21⟩)
    (c_deed : PySem.W.codeIn K cd21 "_law_deed" = true)
    (k_deed : PySem.W.keepIn K (.ref f_deed) = true)
    (a_law : PySem.W.nsIn K mainGlobals "law" = some (some (.ref f_law)))
    (tk_law : TabK K c_law P_law)
    (l_law : K.lookup f_law = some ⟨oc22, od22, .func (PySem.W.fnOf "law" "law" (defArgs s_law) (defBody s_law) (defScope s_law) .none kV22 dc22 pm22 an22 (.ref c_law) ct22), sl22⟩)
    (c_law : PySem.W.codeIn K (.ref c_law) "law" = true)
    (k_law : PySem.W.keepIn K (.ref f_law) = true)
    (pg_Pen : PySem.W.plainGet K C_Pen Str.empty = true)
    (hd_Pen : PySem.W.hasDictIn K C_Pen = true)
    (po_Pen : PySem.W.plainOver K C_Pen = true)
    (sa_Pen : PySem.W.findIn K (.ref C_Pen) "__setattr__" = some (some (.builtin "object.__setattr__")))
    (na_Pen_asked : PySem.W.findIn K (.ref C_Pen) "asked" = some none)
    (na_Pen_fall : PySem.W.findIn K (.ref C_Pen) "fall" = some none)
    (mk_Pen : PySem.W.makesIn K C_Pen = true)
    (in_Pen : PySem.W.findIn K (.ref C_Pen) "__init__" = some (some (.ref f_Pen_init)))
    (fn_Pen : PySem.W.isFn K (.ref f_Pen_init) = true)
    (kp_Pen : PySem.W.keepIn K (.ref C_Pen) = true)
    (pg_Store : PySem.W.plainGet K C_Store Str.empty = true)
    (hd_Store : PySem.W.hasDictIn K C_Store = true)
    (po_Store : PySem.W.plainOver K C_Store = true)
    (sa_Store : PySem.W.findIn K (.ref C_Store) "__setattr__" = some (some (.builtin "object.__setattr__")))
    (na_Store_cells : PySem.W.findIn K (.ref C_Store) "cells" = some none)
    (na_Store_notes : PySem.W.findIn K (.ref C_Store) "notes" = some none)
    (na_Store_pen : PySem.W.findIn K (.ref C_Store) "pen" = some none)
    (mk_Store : PySem.W.makesIn K C_Store = true)
    (in_Store : PySem.W.findIn K (.ref C_Store) "__init__" = some (some (.ref f_Store_init)))
    (fn_Store : PySem.W.isFn K (.ref f_Store_init) = true)
    (kp_Store : PySem.W.keepIn K (.ref C_Store) = true)
    (ma_Pen_answer_of_fall : PySem.W.findIn K (.ref C_Pen) "answer_of_fall" = some (some (.ref f_Pen_answer_of_fall)))
    (mf_Pen_answer_of_fall : PySem.W.isFn K (.ref f_Pen_answer_of_fall) = true)
    (mp_Pen_answer_of_fall : PySem.W.keepIn K (.ref f_Pen_answer_of_fall) = true)
    (ma_Pen_write_into : PySem.W.findIn K (.ref C_Pen) "write_into" = some (some (.ref f_Pen_write_into)))
    (mf_Pen_write_into : PySem.W.isFn K (.ref f_Pen_write_into) = true)
    (mp_Pen_write_into : PySem.W.keepIn K (.ref f_Pen_write_into) = true)
    (ma_Store_begin : PySem.W.findIn K (.ref C_Store) "begin" = some (some (.ref f_Store_begin)))
    (mf_Store_begin : PySem.W.isFn K (.ref f_Store_begin) = true)
    (mp_Store_begin : PySem.W.keepIn K (.ref f_Store_begin) = true)
    (ma_Store_mark : PySem.W.findIn K (.ref C_Store) "mark" = some (some (.ref f_Store_mark)))
    (mf_Store_mark : PySem.W.isFn K (.ref f_Store_mark) = true)
    (mp_Store_mark : PySem.W.keepIn K (.ref f_Store_mark) = true)
    (ma_Store_note_down : PySem.W.findIn K (.ref C_Store) "note_down" = some (some (.ref f_Store_note_down)))
    (mf_Store_note_down : PySem.W.isFn K (.ref f_Store_note_down) = true)
    (mp_Store_note_down : PySem.W.keepIn K (.ref f_Store_note_down) = true)
    (ma_Store_noted : PySem.W.findIn K (.ref C_Store) "noted" = some (some (.ref f_Store_noted)))
    (mf_Store_noted : PySem.W.isFn K (.ref f_Store_noted) = true)
    (mp_Store_noted : PySem.W.keepIn K (.ref f_Store_noted) = true)
    (ma_Store_read : PySem.W.findIn K (.ref C_Store) "read" = some (some (.ref f_Store_read)))
    (mf_Store_read : PySem.W.isFn K (.ref f_Store_read) = true)
    (mp_Store_read : PySem.W.keepIn K (.ref f_Store_read) = true)
    (ma_Store_refuse_lacking : PySem.W.findIn K (.ref C_Store) "refuse_lacking" = some (some (.ref f_Store_refuse_lacking)))
    (mf_Store_refuse_lacking : PySem.W.isFn K (.ref f_Store_refuse_lacking) = true)
    (mp_Store_refuse_lacking : PySem.W.keepIn K (.ref f_Store_refuse_lacking) = true)
    (ma_Store_told : PySem.W.findIn K (.ref C_Store) "told" = some (some (.ref f_Store_told)))
    (mf_Store_told : PySem.W.isFn K (.ref f_Store_told) = true)
    (mp_Store_told : PySem.W.keepIn K (.ref f_Store_told) = true)
    (ma_Store_write : PySem.W.findIn K (.ref C_Store) "write" = some (some (.ref f_Store_write)))
    (mf_Store_write : PySem.W.isFn K (.ref f_Store_write) = true)
    (mp_Store_write : PySem.W.keepIn K (.ref f_Store_write) = true)
    (ik_Fallen_OutOfRoom : PySem.W.kitOne K (.ref C_Fallen) (.ref C_OutOfRoom) = some false)
    (ik_Fallen_RoomError : PySem.W.kitOne K (.ref C_Fallen) (.ref C_RoomError) = some true)
    (ik_OutOfRoom_OutOfRoom : PySem.W.kitOne K (.ref C_OutOfRoom) (.ref C_OutOfRoom) = some true)
    (ik_OutOfRoom_RoomError : PySem.W.kitOne K (.ref C_OutOfRoom) (.ref C_RoomError) = some true)
    (n_ValueError : PySem.W.nsIn K mainGlobals "ValueError" = some none)
    (n_isinstance : PySem.W.nsIn K mainGlobals "isinstance" = some none)
    (n_len : PySem.W.nsIn K mainGlobals "len" = some none)
    (n_list : PySem.W.nsIn K mainGlobals "list" = some none)
    (n_max : PySem.W.nsIn K mainGlobals "max" = some none)
    (n_min : PySem.W.nsIn K mainGlobals "min" = some none)
    (n_range : PySem.W.nsIn K mainGlobals "range" = some none)
    (n_tuple : PySem.W.nsIn K mainGlobals "tuple" = some none)
    : ∃ fd : FuncData, (∀ (s : Shared) (v : Value), BindsTo s fd ⟨[v], []⟩ [("_law_script", v)]) ∧ ∀ base : Heap, K.In base → base.Ns mainGlobals mg → FnOk l.prog w K mg base CX0 11 fa fd ["_law_script"] (sp_law K) := by
  have e := hfa.symm.trans (PySem.W.mg_of X G a_law)
  have e2 : f_law = fa := by injection e with e; injection e with e; exact e.symm
  subst e2
  have F_OutOfRoom_init := fun_mk (st := s_OutOfRoom_init) l_OutOfRoom_init c_OutOfRoom_init k_OutOfRoom_init
  have b_OutOfRoom_init := F_OutOfRoom_init.binds (ps := ["self", "at"]) fun _ _ _ _ _ _ us hl => match us, hl with | [_, _], _ => rfl
  have F_Fallen_init := fun_mk (st := s_Fallen_init) l_Fallen_init c_Fallen_init k_Fallen_init
  have b_Fallen_init := F_Fallen_init.binds (ps := ["self", "count"]) fun _ _ _ _ _ _ us hl => match us, hl with | [_, _], _ => rfl
  have F_Pen_init := fun_mk (st := s_Pen_init) l_Pen_init c_Pen_init k_Pen_init
  have b_Pen_init := F_Pen_init.binds (ps := ["self", "fall"]) fun _ _ _ _ _ _ us hl => match us, hl with | [_, _], _ => rfl
  have F_Pen_write_into := fun_mk (st := s_Pen_write_into) l_Pen_write_into c_Pen_write_into k_Pen_write_into
  have b_Pen_write_into := F_Pen_write_into.binds (ps := ["self", "kept", "at", "value", "torn"]) fun _ _ _ _ _ _ us hl => match us, hl with | [_, _, _, _, _], _ => rfl
  have F_Pen_answer_of_fall := fun_mk (st := s_Pen_answer_of_fall) l_Pen_answer_of_fall c_Pen_answer_of_fall k_Pen_answer_of_fall
  have b_Pen_answer_of_fall := F_Pen_answer_of_fall.binds (ps := ["self", "count"]) fun _ _ _ _ _ _ us hl => match us, hl with | [_, _], _ => rfl
  have F_Store_init := fund_mk (st := s_Store_init) (ds := [.none]) l_Store_init c_Store_init k_Store_init ld_Store_init
  have b_Store_init := F_Store_init.binds (ps := ["self", "cells", "fall"]) (es := []) 3 rfl fun _ _ _ _ _ _ _ us hl => match us, hl with | [_, _, _], _ => ⟨_, rfl, rfl⟩
  have bd_Store_init := F_Store_init.binds (ps := ["self", "cells", "fall"]) (es := [.none]) 2 rfl fun _ _ _ _ _ _ _ us hl => match us, hl with | [_, _], _ => ⟨_, rfl, rfl⟩
  have F_Store_read := fun_mk (st := s_Store_read) l_Store_read c_Store_read k_Store_read
  have b_Store_read := F_Store_read.binds (ps := ["self", "at"]) fun _ _ _ _ _ _ us hl => match us, hl with | [_, _], _ => rfl
  have F_Store_write := fun_mk (st := s_Store_write) l_Store_write c_Store_write k_Store_write
  have b_Store_write := F_Store_write.binds (ps := ["self", "at", "sign"]) fun _ _ _ _ _ _ us hl => match us, hl with | [_, _, _], _ => rfl
  have F_Store_mark := fun_mk (st := s_Store_mark) l_Store_mark c_Store_mark k_Store_mark
  have b_Store_mark := F_Store_mark.binds (ps := ["self", "number"]) fun _ _ _ _ _ _ us hl => match us, hl with | [_, _], _ => rfl
  have F_Store_noted := fun_mk (st := s_Store_noted) l_Store_noted c_Store_noted k_Store_noted
  have b_Store_noted := F_Store_noted.binds (ps := ["self"]) fun _ _ _ _ _ _ us hl => match us, hl with | [_], _ => rfl
  have F_Store_begin := fun_mk (st := s_Store_begin) l_Store_begin c_Store_begin k_Store_begin
  have b_Store_begin := F_Store_begin.binds (ps := ["self"]) fun _ _ _ _ _ _ us hl => match us, hl with | [_], _ => rfl
  have F_Store_told := fun_mk (st := s_Store_told) l_Store_told c_Store_told k_Store_told
  have b_Store_told := F_Store_told.binds (ps := ["self"]) fun _ _ _ _ _ _ us hl => match us, hl with | [_], _ => rfl
  have F_Store_refuse_lacking := fun_mk (st := s_Store_refuse_lacking) l_Store_refuse_lacking c_Store_refuse_lacking k_Store_refuse_lacking
  have b_Store_refuse_lacking := F_Store_refuse_lacking.binds (ps := ["self", "at"]) fun _ _ _ _ _ _ us hl => match us, hl with | [_, _], _ => rfl
  have F_Store_note_down := fun_mk (st := s_Store_note_down) l_Store_note_down c_Store_note_down k_Store_note_down
  have b_Store_note_down := F_Store_note_down.binds (ps := ["self", "at", "number"]) fun _ _ _ _ _ _ us hl => match us, hl with | [_, _, _], _ => rfl
  have F_cell_at := fun_mk (st := s_cell_at) l_cell_at c_cell_at k_cell_at
  have b_cell_at := F_cell_at.binds (ps := ["_law_script", "_law_k"]) fun _ _ _ _ _ _ us hl => match us, hl with | [_, _], _ => rfl
  have F_mixed := fun_mk (st := s_mixed) l_mixed c_mixed k_mixed
  have b_mixed := F_mixed.binds (ps := ["_law_cell", "_law_k"]) fun _ _ _ _ _ _ us hl => match us, hl with | [_, _], _ => rfl
  have F_fall_at := fun_mk (st := s_fall_at) l_fall_at c_fall_at k_fall_at
  have b_fall_at := F_fall_at.binds (ps := ["_law_cell", "_law_count"]) fun _ _ _ _ _ _ us hl => match us, hl with | [_, _], _ => rfl
  have F_refused := fun_mk (st := s_refused) l_refused c_refused k_refused
  have b_refused := F_refused.binds (ps := ["_law_store", "_law_deed_here", "_law_at", "_law_sign"]) fun _ _ _ _ _ _ us hl => match us, hl with | [_, _, _, _], _ => rfl
  have F_noted := fun_mk (st := s_noted) l_noted c_noted k_noted
  have b_noted := F_noted.binds (ps := ["_law_stand", "_law_which", "_law_number", "_law_cell"]) fun _ _ _ _ _ _ us hl => match us, hl with | [_, _, _, _], _ => rfl
  have F_begun := fun_mk (st := s_begun) l_begun c_begun k_begun
  have b_begun := F_begun.binds (ps := ["_law_store", "_law_stand", "_law_cell"]) fun _ _ _ _ _ _ us hl => match us, hl with | [_, _, _], _ => rfl
  have F_written := fun_mk (st := s_written) l_written c_written k_written
  have b_written := F_written.binds (ps := ["_law_store", "_law_stand", "_law_at", "_law_sign", "_law_cell"]) fun _ _ _ _ _ _ us hl => match us, hl with | [_, _, _, _, _], _ => rfl
  have F_deed := fun_mk (st := s_deed) l_deed c_deed k_deed
  have b_deed := F_deed.binds (ps := ["_law_store", "_law_stand", "_law_cell", "_law_falls", "_law_k"]) fun _ _ _ _ _ _ us hl => match us, hl with | [_, _, _, _, _], _ => rfl
  have F_law := fun_mk (st := s_law) l_law c_law k_law
  have b_law := F_law.binds (ps := ["_law_script"]) fun _ _ _ _ _ _ us hl => match us, hl with | [_], _ => rfl
  have T : Txt K mg { f_OutOfRoom_init := f_OutOfRoom_init, f_Fallen_init := f_Fallen_init, f_Pen_init := f_Pen_init, f_Pen_write_into := f_Pen_write_into, f_Pen_answer_of_fall := f_Pen_answer_of_fall, f_Store_init := f_Store_init, f_Store_read := f_Store_read, f_Store_write := f_Store_write, f_Store_mark := f_Store_mark, f_Store_noted := f_Store_noted, f_Store_begin := f_Store_begin, f_Store_told := f_Store_told, f_Store_refuse_lacking := f_Store_refuse_lacking, f_Store_note_down := f_Store_note_down, f_cell_at := f_cell_at, f_mixed := f_mixed, f_fall_at := f_fall_at, f_refused := f_refused, f_noted := f_noted, f_begun := f_begun, f_written := f_written, f_deed := f_deed, f_law := f_law, d_OutOfRoom_init := _, d_Fallen_init := _, d_Pen_init := _, d_Pen_write_into := _, d_Pen_answer_of_fall := _, d_Store_init := _, d_Store_read := _, d_Store_write := _, d_Store_mark := _, d_Store_noted := _, d_Store_begin := _, d_Store_told := _, d_Store_refuse_lacking := _, d_Store_note_down := _, d_cell_at := _, d_mixed := _, d_fall_at := _, d_refused := _, d_noted := _, d_begun := _, d_written := _, d_deed := _, d_law := _, C_Pen := C_Pen, C_Store := C_Store, C_Fallen := C_Fallen, C_OutOfRoom := C_OutOfRoom, C_RoomError := C_RoomError } := {
    F_OutOfRoom_init := F_OutOfRoom_init
    b_OutOfRoom_init := b_OutOfRoom_init
    F_Fallen_init := F_Fallen_init
    b_Fallen_init := b_Fallen_init
    F_Pen_init := F_Pen_init
    b_Pen_init := b_Pen_init
    F_Pen_write_into := F_Pen_write_into
    b_Pen_write_into := b_Pen_write_into
    F_Pen_answer_of_fall := F_Pen_answer_of_fall
    b_Pen_answer_of_fall := b_Pen_answer_of_fall
    F_Store_init := F_Store_init
    b_Store_init := b_Store_init
    bd_Store_init := bd_Store_init
    F_Store_read := F_Store_read
    b_Store_read := b_Store_read
    F_Store_write := F_Store_write
    b_Store_write := b_Store_write
    tk_Store_write := tk_Store_write
    cd_Store_write := rfl
    F_Store_mark := F_Store_mark
    b_Store_mark := b_Store_mark
    F_Store_noted := F_Store_noted
    b_Store_noted := b_Store_noted
    F_Store_begin := F_Store_begin
    b_Store_begin := b_Store_begin
    F_Store_told := F_Store_told
    b_Store_told := b_Store_told
    F_Store_refuse_lacking := F_Store_refuse_lacking
    b_Store_refuse_lacking := b_Store_refuse_lacking
    F_Store_note_down := F_Store_note_down
    b_Store_note_down := b_Store_note_down
    tk_Store_note_down := tk_Store_note_down
    cd_Store_note_down := rfl
    F_cell_at := F_cell_at
    b_cell_at := b_cell_at
    m_cell_at := PySem.W.mg_of X G a_cell_at
    F_mixed := F_mixed
    b_mixed := b_mixed
    m_mixed := PySem.W.mg_of X G a_mixed
    F_fall_at := F_fall_at
    b_fall_at := b_fall_at
    m_fall_at := PySem.W.mg_of X G a_fall_at
    F_refused := F_refused
    b_refused := b_refused
    m_refused := PySem.W.mg_of X G a_refused
    F_noted := F_noted
    b_noted := b_noted
    m_noted := PySem.W.mg_of X G a_noted
    F_begun := F_begun
    b_begun := b_begun
    m_begun := PySem.W.mg_of X G a_begun
    F_written := F_written
    b_written := b_written
    m_written := PySem.W.mg_of X G a_written
    F_deed := F_deed
    b_deed := b_deed
    m_deed := PySem.W.mg_of X G a_deed
    F_law := F_law
    b_law := b_law
    tk_law := tk_law
    cd_law := rfl
    m_Pen := PySem.W.mg_of X G aC_Pen
    c_Pen := ⟨pg_Pen, hd_Pen, po_Pen, sa_Pen⟩
    na_Pen_asked := na_Pen_asked
    na_Pen_fall := na_Pen_fall
    mk_Pen := ⟨mk_Pen, in_Pen, fn_Pen, kp_Pen⟩
    m_Store := PySem.W.mg_of X G aC_Store
    c_Store := ⟨pg_Store, hd_Store, po_Store, sa_Store⟩
    na_Store_cells := na_Store_cells
    na_Store_notes := na_Store_notes
    na_Store_pen := na_Store_pen
    mk_Store := ⟨mk_Store, in_Store, fn_Store, kp_Store⟩
    m_Fallen := PySem.W.mg_of X G aC_Fallen
    m_OutOfRoom := PySem.W.mg_of X G aC_OutOfRoom
    m_RoomError := PySem.W.mg_of X G aC_RoomError
    xn_Fallen := ⟨xn1_Fallen, xn2_Fallen, xn3_Fallen, xn4_Fallen, xn5_Fallen, xn6_Fallen⟩
    hd_Fallen := xn3_Fallen
    na_Fallen_count := na_Fallen_count
    kc_Fallen_Fallen := kc_Fallen_Fallen
    kc_Fallen_OutOfRoom := kc_Fallen_OutOfRoom
    ik_Fallen_ValueError := ik_Fallen_ValueError
    xi_Fallen := ⟨xi1_Fallen, xi2_Fallen, xi3_Fallen, xi4_Fallen, xi5_Fallen, xi6_Fallen, xi7_Fallen, xi8_Fallen⟩
    xn_OutOfRoom := ⟨xn1_OutOfRoom, xn2_OutOfRoom, xn3_OutOfRoom, xn4_OutOfRoom, xn5_OutOfRoom, xn6_OutOfRoom⟩
    hd_OutOfRoom := xn3_OutOfRoom
    na_OutOfRoom_at := na_OutOfRoom_at
    kc_OutOfRoom_Fallen := kc_OutOfRoom_Fallen
    kc_OutOfRoom_OutOfRoom := kc_OutOfRoom_OutOfRoom
    ik_OutOfRoom_ValueError := ik_OutOfRoom_ValueError
    xi_OutOfRoom := ⟨xi1_OutOfRoom, xi2_OutOfRoom, xi3_OutOfRoom, xi4_OutOfRoom, xi5_OutOfRoom, xi6_OutOfRoom, xi7_OutOfRoom, xi8_OutOfRoom⟩
    xc_Fallen := ⟨xc_Fallen⟩
    xc_OutOfRoom := ⟨xc_OutOfRoom⟩
    ik_Fallen_OutOfRoom := ik_Fallen_OutOfRoom
    ik_Fallen_RoomError := ik_Fallen_RoomError
    ik_OutOfRoom_OutOfRoom := ik_OutOfRoom_OutOfRoom
    ik_OutOfRoom_RoomError := ik_OutOfRoom_RoomError
    me_Pen_answer_of_fall := ⟨ma_Pen_answer_of_fall, mf_Pen_answer_of_fall, mp_Pen_answer_of_fall⟩
    me_Pen_write_into := ⟨ma_Pen_write_into, mf_Pen_write_into, mp_Pen_write_into⟩
    me_Store_begin := ⟨ma_Store_begin, mf_Store_begin, mp_Store_begin⟩
    me_Store_mark := ⟨ma_Store_mark, mf_Store_mark, mp_Store_mark⟩
    me_Store_note_down := ⟨ma_Store_note_down, mf_Store_note_down, mp_Store_note_down⟩
    me_Store_noted := ⟨ma_Store_noted, mf_Store_noted, mp_Store_noted⟩
    me_Store_read := ⟨ma_Store_read, mf_Store_read, mp_Store_read⟩
    me_Store_refuse_lacking := ⟨ma_Store_refuse_lacking, mf_Store_refuse_lacking, mp_Store_refuse_lacking⟩
    me_Store_told := ⟨ma_Store_told, mf_Store_told, mp_Store_told⟩
    me_Store_write := ⟨ma_Store_write, mf_Store_write, mp_Store_write⟩
    n_ValueError := PySem.W.mg_none_of X G n_ValueError
    n_isinstance := PySem.W.mg_none_of X G n_isinstance
    n_len := PySem.W.mg_none_of X G n_len
    n_list := PySem.W.mg_none_of X G n_list
    n_max := PySem.W.mg_none_of X G n_max
    n_min := PySem.W.mg_none_of X G n_min
    n_range := PySem.W.mg_none_of X G n_range
    n_tuple := PySem.W.mg_none_of X G n_tuple
  }
  exact ⟨_, fun s v => .of_eq rfl, fun base _ _ => ok_law T⟩
end K01
open PySem PySem.W PyProof.Rows
set_option maxRecDepth 100000 in
set_option maxHeartbeats 0 in
theorem PySem.Challenge.cw_oneroom_k01_a_store_holds : PySem.Challenge.rw_oneroom_k01_a_store.Holds := by
  w_on; o_law; k_head; (case hw => w_witness2)
  k_fill
  refine L2.walk_ofC (l := PySem.Challenge.rw_oneroom_k01_a_store) (n := 63) (k := 11) (x := "_law_script") (CX := L2.CX0) (sp := K01.sp_law) (tabs := [(K01.c_Store_write, K01.P_Store_write, K01.qs_Store_write), (K01.c_Store_note_down, K01.P_Store_note_down, K01.qs_Store_note_down), (K01.c_law, K01.P_law, K01.qs_law)]) rfl (by decide) rfl ⟨rfl, by decide, by decide⟩ (fun w h Y => PySem.W.km_in_of Y) (fun w h Y KX => (List.forall_mem_cons.mpr ⟨⟨PySem.W.codeHd_of_K (c := K01.c_Store_write) (P := K01.P_Store_write) KX (by kernel_rfl), PySem.W.km_tabs_of Y _ (by decide)⟩, (List.forall_mem_cons.mpr ⟨⟨PySem.W.codeHd_of_K (c := K01.c_Store_note_down) (P := K01.P_Store_note_down) KX (by kernel_rfl), PySem.W.km_tabs_of Y _ (by decide)⟩, (List.forall_mem_cons.mpr ⟨⟨PySem.W.codeHd_of_K (c := K01.c_law) (P := K01.P_law) KX (by kernel_rfl), PySem.W.km_tabs_of Y _ (by decide)⟩, (fun _ z => nomatch z)⟩)⟩)⟩)) (fun w => by kernel_rfl) (by decide) ?F ?S ?C
  case F =>
    intro w mg fa h KX G hmg
    refine' K01.txt_mk KX G hmg ?aC_Pen ?aC_Store ?aC_Fallen ?aC_OutOfRoom ?aC_RoomError ?xn1_Fallen ?xn2_Fallen ?xn3_Fallen ?xn4_Fallen ?xn5_Fallen ?xn6_Fallen ?na_Fallen_count ?kc_Fallen_Fallen ?kc_Fallen_OutOfRoom ?ik_Fallen_ValueError ?xi1_Fallen ?xi2_Fallen ?xi3_Fallen ?xi4_Fallen ?xi5_Fallen ?xi6_Fallen ?xi7_Fallen ?xi8_Fallen ?xn1_OutOfRoom ?xn2_OutOfRoom ?xn3_OutOfRoom ?xn4_OutOfRoom ?xn5_OutOfRoom ?xn6_OutOfRoom ?na_OutOfRoom_at ?kc_OutOfRoom_Fallen ?kc_OutOfRoom_OutOfRoom ?ik_OutOfRoom_ValueError ?xi1_OutOfRoom ?xi2_OutOfRoom ?xi3_OutOfRoom ?xi4_OutOfRoom ?xi5_OutOfRoom ?xi6_OutOfRoom ?xi7_OutOfRoom ?xi8_OutOfRoom ?xc_Fallen ?xc_OutOfRoom ?a_OutOfRoom_init ?l_OutOfRoom_init ?c_OutOfRoom_init ?k_OutOfRoom_init ?a_Fallen_init ?l_Fallen_init ?c_Fallen_init ?k_Fallen_init ?a_Pen_init ?l_Pen_init ?c_Pen_init ?k_Pen_init ?a_Pen_write_into ?l_Pen_write_into ?c_Pen_write_into ?k_Pen_write_into ?a_Pen_answer_of_fall ?l_Pen_answer_of_fall ?c_Pen_answer_of_fall ?k_Pen_answer_of_fall ?a_Store_init ?l_Store_init ?ld_Store_init ?c_Store_init ?k_Store_init ?a_Store_read ?l_Store_read ?c_Store_read ?k_Store_read ?a_Store_write ?tk_Store_write ?l_Store_write ?c_Store_write ?k_Store_write ?a_Store_mark ?l_Store_mark ?c_Store_mark ?k_Store_mark ?a_Store_noted ?l_Store_noted ?c_Store_noted ?k_Store_noted ?a_Store_begin ?l_Store_begin ?c_Store_begin ?k_Store_begin ?a_Store_told ?l_Store_told ?c_Store_told ?k_Store_told ?a_Store_refuse_lacking ?l_Store_refuse_lacking ?c_Store_refuse_lacking ?k_Store_refuse_lacking ?a_Store_note_down ?tk_Store_note_down ?l_Store_note_down ?c_Store_note_down ?k_Store_note_down ?a_cell_at ?l_cell_at ?c_cell_at ?k_cell_at ?a_mixed ?l_mixed ?c_mixed ?k_mixed ?a_fall_at ?l_fall_at ?c_fall_at ?k_fall_at ?a_refused ?l_refused ?c_refused ?k_refused ?a_noted ?l_noted ?c_noted ?k_noted ?a_begun ?l_begun ?c_begun ?k_begun ?a_written ?l_written ?c_written ?k_written ?a_deed ?l_deed ?c_deed ?k_deed ?a_law ?tk_law ?l_law ?c_law ?k_law ?pg_Pen ?hd_Pen ?po_Pen ?sa_Pen ?na_Pen_asked ?na_Pen_fall ?mk_Pen ?in_Pen ?fn_Pen ?kp_Pen ?pg_Store ?hd_Store ?po_Store ?sa_Store ?na_Store_cells ?na_Store_notes ?na_Store_pen ?mk_Store ?in_Store ?fn_Store ?kp_Store ?ma_Pen_answer_of_fall ?mf_Pen_answer_of_fall ?mp_Pen_answer_of_fall ?ma_Pen_write_into ?mf_Pen_write_into ?mp_Pen_write_into ?ma_Store_begin ?mf_Store_begin ?mp_Store_begin ?ma_Store_mark ?mf_Store_mark ?mp_Store_mark ?ma_Store_note_down ?mf_Store_note_down ?mp_Store_note_down ?ma_Store_noted ?mf_Store_noted ?mp_Store_noted ?ma_Store_read ?mf_Store_read ?mp_Store_read ?ma_Store_refuse_lacking ?mf_Store_refuse_lacking ?mp_Store_refuse_lacking ?ma_Store_told ?mf_Store_told ?mp_Store_told ?ma_Store_write ?mf_Store_write ?mp_Store_write ?ik_Fallen_OutOfRoom ?ik_Fallen_RoomError ?ik_OutOfRoom_OutOfRoom ?ik_OutOfRoom_RoomError ?n_ValueError ?n_isinstance ?n_len ?n_list ?n_max ?n_min ?n_range ?n_tuple
    (case aC_Pen => k_is)
    (case aC_Store => k_is)
    (case aC_Fallen => k_is)
    (case aC_OutOfRoom => k_is)
    (case aC_RoomError => k_is)
    (case xn1_Fallen => kernel_rfl)
    (case xn2_Fallen => kernel_rfl)
    (case xn3_Fallen => kernel_rfl)
    (case xn4_Fallen => kernel_rfl)
    (case xn5_Fallen => kernel_rfl)
    (case xn6_Fallen => kernel_rfl)
    (case na_Fallen_count => kernel_rfl)
    (case kc_Fallen_Fallen => kernel_rfl)
    (case kc_Fallen_OutOfRoom => kernel_rfl)
    (case ik_Fallen_ValueError => kernel_rfl)
    (case xi1_Fallen => kernel_rfl)
    (case xi2_Fallen => kernel_rfl)
    (case xi3_Fallen => kernel_rfl)
    (case xi4_Fallen => kernel_rfl)
    (case xi5_Fallen => kernel_rfl)
    (case xi6_Fallen => kernel_rfl)
    (case xi7_Fallen => kernel_rfl)
    (case xi8_Fallen => kernel_rfl)
    (case xn1_OutOfRoom => kernel_rfl)
    (case xn2_OutOfRoom => kernel_rfl)
    (case xn3_OutOfRoom => kernel_rfl)
    (case xn4_OutOfRoom => kernel_rfl)
    (case xn5_OutOfRoom => kernel_rfl)
    (case xn6_OutOfRoom => kernel_rfl)
    (case na_OutOfRoom_at => kernel_rfl)
    (case kc_OutOfRoom_Fallen => kernel_rfl)
    (case kc_OutOfRoom_OutOfRoom => kernel_rfl)
    (case ik_OutOfRoom_ValueError => kernel_rfl)
    (case xi1_OutOfRoom => kernel_rfl)
    (case xi2_OutOfRoom => kernel_rfl)
    (case xi3_OutOfRoom => kernel_rfl)
    (case xi4_OutOfRoom => kernel_rfl)
    (case xi5_OutOfRoom => kernel_rfl)
    (case xi6_OutOfRoom => kernel_rfl)
    (case xi7_OutOfRoom => kernel_rfl)
    (case xi8_OutOfRoom => kernel_rfl)
    (case xc_Fallen => kernel_rfl)
    (case xc_OutOfRoom => kernel_rfl)
    (case a_OutOfRoom_init => k_is)
    (case l_OutOfRoom_init => k_is)
    (case c_OutOfRoom_init => k_is)
    (case k_OutOfRoom_init => k_is)
    (case a_Fallen_init => k_is)
    (case l_Fallen_init => k_is)
    (case c_Fallen_init => k_is)
    (case k_Fallen_init => k_is)
    (case a_Pen_init => k_is)
    (case l_Pen_init => k_is)
    (case c_Pen_init => k_is)
    (case k_Pen_init => k_is)
    (case a_Pen_write_into => k_is)
    (case l_Pen_write_into => k_is)
    (case c_Pen_write_into => k_is)
    (case k_Pen_write_into => k_is)
    (case a_Pen_answer_of_fall => k_is)
    (case l_Pen_answer_of_fall => k_is)
    (case c_Pen_answer_of_fall => k_is)
    (case k_Pen_answer_of_fall => k_is)
    (case a_Store_init => k_is)
    (case l_Store_init => k_is)
    (case ld_Store_init => k_is)
    (case c_Store_init => k_is)
    (case k_Store_init => k_is)
    (case a_Store_read => k_is)
    (case l_Store_read => k_is)
    (case c_Store_read => k_is)
    (case k_Store_read => k_is)
    (case a_Store_write => k_is)
    (case tk_Store_write => exact L2.tabK_of (by kernel_rfl))
    (case l_Store_write => k_is)
    (case c_Store_write => k_is)
    (case k_Store_write => k_is)
    (case a_Store_mark => k_is)
    (case l_Store_mark => k_is)
    (case c_Store_mark => k_is)
    (case k_Store_mark => k_is)
    (case a_Store_noted => k_is)
    (case l_Store_noted => k_is)
    (case c_Store_noted => k_is)
    (case k_Store_noted => k_is)
    (case a_Store_begin => k_is)
    (case l_Store_begin => k_is)
    (case c_Store_begin => k_is)
    (case k_Store_begin => k_is)
    (case a_Store_told => k_is)
    (case l_Store_told => k_is)
    (case c_Store_told => k_is)
    (case k_Store_told => k_is)
    (case a_Store_refuse_lacking => k_is)
    (case l_Store_refuse_lacking => k_is)
    (case c_Store_refuse_lacking => k_is)
    (case k_Store_refuse_lacking => k_is)
    (case a_Store_note_down => k_is)
    (case tk_Store_note_down => exact L2.tabK_of (by kernel_rfl))
    (case l_Store_note_down => k_is)
    (case c_Store_note_down => k_is)
    (case k_Store_note_down => k_is)
    (case a_cell_at => k_is)
    (case l_cell_at => k_is)
    (case c_cell_at => k_is)
    (case k_cell_at => k_is)
    (case a_mixed => k_is)
    (case l_mixed => k_is)
    (case c_mixed => k_is)
    (case k_mixed => k_is)
    (case a_fall_at => k_is)
    (case l_fall_at => k_is)
    (case c_fall_at => k_is)
    (case k_fall_at => k_is)
    (case a_refused => k_is)
    (case l_refused => k_is)
    (case c_refused => k_is)
    (case k_refused => k_is)
    (case a_noted => k_is)
    (case l_noted => k_is)
    (case c_noted => k_is)
    (case k_noted => k_is)
    (case a_begun => k_is)
    (case l_begun => k_is)
    (case c_begun => k_is)
    (case k_begun => k_is)
    (case a_written => k_is)
    (case l_written => k_is)
    (case c_written => k_is)
    (case k_written => k_is)
    (case a_deed => k_is)
    (case l_deed => k_is)
    (case c_deed => k_is)
    (case k_deed => k_is)
    (case a_law => k_is)
    (case tk_law => exact L2.tabK_of (by kernel_rfl))
    (case l_law => k_is)
    (case c_law => k_is)
    (case k_law => k_is)
    (case pg_Pen => k_is)
    (case hd_Pen => k_is)
    (case po_Pen => k_is)
    (case sa_Pen => k_is)
    (case na_Pen_asked => k_is)
    (case na_Pen_fall => k_is)
    (case mk_Pen => k_is)
    (case in_Pen => k_is)
    (case fn_Pen => k_is)
    (case kp_Pen => k_is)
    (case pg_Store => k_is)
    (case hd_Store => k_is)
    (case po_Store => k_is)
    (case sa_Store => k_is)
    (case na_Store_cells => k_is)
    (case na_Store_notes => k_is)
    (case na_Store_pen => k_is)
    (case mk_Store => k_is)
    (case in_Store => k_is)
    (case fn_Store => k_is)
    (case kp_Store => k_is)
    (case ma_Pen_answer_of_fall => k_is)
    (case mf_Pen_answer_of_fall => k_is)
    (case mp_Pen_answer_of_fall => k_is)
    (case ma_Pen_write_into => k_is)
    (case mf_Pen_write_into => k_is)
    (case mp_Pen_write_into => k_is)
    (case ma_Store_begin => k_is)
    (case mf_Store_begin => k_is)
    (case mp_Store_begin => k_is)
    (case ma_Store_mark => k_is)
    (case mf_Store_mark => k_is)
    (case mp_Store_mark => k_is)
    (case ma_Store_note_down => k_is)
    (case mf_Store_note_down => k_is)
    (case mp_Store_note_down => k_is)
    (case ma_Store_noted => k_is)
    (case mf_Store_noted => k_is)
    (case mp_Store_noted => k_is)
    (case ma_Store_read => k_is)
    (case mf_Store_read => k_is)
    (case mp_Store_read => k_is)
    (case ma_Store_refuse_lacking => k_is)
    (case mf_Store_refuse_lacking => k_is)
    (case mp_Store_refuse_lacking => k_is)
    (case ma_Store_told => k_is)
    (case mf_Store_told => k_is)
    (case mp_Store_told => k_is)
    (case ma_Store_write => k_is)
    (case mf_Store_write => k_is)
    (case mp_Store_write => k_is)
    (case ik_Fallen_OutOfRoom => kernel_rfl)
    (case ik_Fallen_RoomError => kernel_rfl)
    (case ik_OutOfRoom_OutOfRoom => kernel_rfl)
    (case ik_OutOfRoom_RoomError => kernel_rfl)
    (case n_ValueError => k_is)
    (case n_isinstance => k_is)
    (case n_len => k_is)
    (case n_list => k_is)
    (case n_max => k_is)
    (case n_min => k_is)
    (case n_range => k_is)
    (case n_tuple => k_is)
  case S => exact fun K H a ns hl hS hT => ⟨a, ns, rfl, hS, hl, hT _ (.head _), hT _ (.tail _ (.head _)), hT _ (.tail _ (.tail _ (.head _))), fun _ => rfl⟩
  case C => exact fun _ _ _ _ z => z
#print axioms PySem.Challenge.cw_oneroom_k01_a_store_holds

