import PyProof.Rows.All
import Wide.All
import OpenK.AllK
import Wide.FinOn
import Lean
import PyProof.EqAt
import PyProof.EqKinds
import PyProof.TupleCall
import PySem.Challenge.RW_oneroom_k36_rows_found
set_option Elab.async false
set_option linter.all false
set_option maxRecDepth 100000
/-! THE HAND LAYER, for ints, bools, texts, own classes, LISTS and tuples (index, slices, in, append, pop ..), calls, loops. Paste it whole ahead of your own text; what your proof does not reach may be deleted. -/
namespace L2
open PySem PySem.Spec PyProof.Rows

/-  a key: an int or a str -/
abbrev Key := Sum Int Str
def keyIs : Key → Value → Bool
  | .inl k, v => Value.isInt k v
  | .inr x, v => Value.isStrOf x v
def keyH (w : World) : Key → Int
  | .inl k => hashInt k
  | .inr x => hashStr w x
theorem keyIs_shape : ∀ {k : Key} {v : Value}, keyIs k v = true → (∃ i t, k = Sum.inl i ∧ v = Value.int i t) ∨ (∃ x t, k = Sum.inr x ∧ v = Value.str x t)
  | .inl i, v, h => by
    obtain ⟨t, e⟩ := Value.isInt_shape (k := i) (v := v) h
    exact .inl ⟨i, t, rfl, e⟩
  | .inr x, v, h => by
    obtain ⟨t, e⟩ := Value.isStrOf_shape (x := x) (v := v) h
    exact .inr ⟨x, t, rfl, e⟩
theorem key_ll (a b : Int) : decide ((Sum.inl a : Key) = Sum.inl b) = (a == b) := by
  by_cases e : a = b
  · subst e; simp
  · have h : ¬ (Sum.inl a : Key) = Sum.inl b := fun q => e (Sum.inl.inj q)
    rw [decide_eq_false h]
    exact (beq_eq_false_iff_ne.mpr e).symm
theorem key_rr (a b : Str) : decide ((Sum.inr a : Key) = Sum.inr b) = decide (a = b) := by
  by_cases e : a = b
  · subst e; simp
  · have h : ¬ (Sum.inr a : Key) = Sum.inr b := fun q => e (Sum.inr.inj q)
    rw [decide_eq_false h, decide_eq_false e]
theorem key_lr (a : Int) (b : Str) : decide ((Sum.inl a : Key) = Sum.inr b) = false := decide_eq_false (fun q => nomatch q)
theorem key_rl (a : Str) (b : Int) : decide ((Sum.inr a : Key) = Sum.inl b) = false := decide_eq_false (fun q => nomatch q)

def mixKind (prog : Program) (w : World) : PySem.KeyKind prog w Key where
  is := keyIs
  hash := keyH w
  inj := fun v a b ha hb => by
    rcases keyIs_shape ha with ⟨i, t, rfl, rfl⟩ | ⟨x, t, rfl, rfl⟩
    · rcases keyIs_shape hb with ⟨j, u, rfl, e⟩ | ⟨y, u, rfl, e⟩
      · injection e with e1 _; rw [e1]
      · exact nomatch e
    · rcases keyIs_shape hb with ⟨j, u, rfl, e⟩ | ⟨y, u, rfl, e⟩
      · exact nomatch e
      · injection e with e1 _; rw [e1]
  byValue := fun k v h => by
    rcases keyIs_shape h with ⟨i, t, rfl, rfl⟩ | ⟨x, t, rfl, rfl⟩ <;> rfl
  pyHash := fun hv h => by
    rcases keyIs_shape hv with ⟨i, t, rfl, rfl⟩ | ⟨x, t, rfl, rfl⟩
    · exact wpAny_pyHash_int h
    · exact wpAny_pyHash_str h
  eqBool := fun hu hv h => by
    rcases keyIs_shape hu with ⟨i, t, rfl, rfl⟩ | ⟨x, t, rfl, rfl⟩
    · rcases keyIs_shape hv with ⟨j, u, rfl, rfl⟩ | ⟨y, u, rfl, rfl⟩
      · rw [key_ll] at h; exact wpAny_eqBool_int h
      · rw [key_lr] at h; exact SeqAt.EqAt.int_str i t y u _ _ _ _ h
    · rcases keyIs_shape hv with ⟨j, u, rfl, rfl⟩ | ⟨y, u, rfl, rfl⟩
      · rw [key_rl] at h; exact SeqAt.EqAt.str_int x t j u _ _ _ _ h
      · rw [key_rr] at h; exact wpAny_eqBool_str h
  «strs» := fun k x t v h => by
    rcases keyIs_shape h with ⟨i, u, rfl, e⟩ | ⟨y, u, rfl, e⟩
    · exact nomatch e
    · injection e with e1 _
      subst e1
      cases v <;> rfl

end L2

namespace L2
open PySem PySem.Spec PyProof.Rows

/-  a value, without the heap -/
inductive V where
  | non | bl (b : Bool) | int (i : Int) | str (x : Str) | byt (b : Array UInt8) | flt (b : UInt64) | ref (a : Addr) | ty (n : String)
  deriving DecidableEq

def RelV : V → Value → Prop
  | .non, u => u = Value.none
  | .bl b, u => u = Value.bool b
  | .int i, u => ∃ t, u = Value.int i t
  | .str x, u => ∃ t, u = Value.str x t
  | .byt b, u => ∃ t, u = Value.bytes b t
  | .flt b, u => ∃ t, u = Value.float b t
  | .ref a, u => u = Value.ref a
  | .ty n, u => u = Value.type n

theorem RelV.fn {x y : V} {u : Value} (a : RelV x u) (b : RelV y u) : x = y := by
  cases x <;> simp only [RelV] at a <;> (first | subst a | (obtain ⟨_, rfl⟩ := a)) <;> cases y <;> simp only [RelV] at b <;> first | rfl | (cases b; done) | (cases b; rfl) | (obtain ⟨_, b⟩ := b; cases b; done) | (obtain ⟨_, b⟩ := b; cases b; rfl)
abbrev Vals : List V → List Value → Prop := Paired RelV
theorem Vals.length {xs : List V} {us : List Value} (r : Vals xs us) : xs.length = us.length := Paired.length r
theorem Vals.get : ∀ {xs : List V} {us : List Value} {i : Nat} {x : V}, Vals xs us → xs[i]? = some x → ∃ u, us[i]? = some u ∧ RelV x u
  | _, _, _, _, .nil, e => by simp at e
  | _, _, 0, _, .cons r _, e => by simp at e; subst e; exact ⟨_, rfl, r⟩
  | _, _, i + 1, x, .cons _ t, e => by
    obtain ⟨u, h1, h2⟩ := Vals.get (i := i) (x := x) t (by simpa using e)
    exact ⟨u, by simpa using h1, h2⟩
theorem Vals.append : ∀ {xs ys : List V} {us ws : List Value}, Vals xs us → Vals ys ws → Vals (xs ++ ys) (us ++ ws)
  | _, _, _, _, .nil, s => s
  | _, _, _, _, .cons r t, s => .cons r (Vals.append t s)
theorem Vals.take : ∀ {xs : List V} {us : List Value} (n : Nat), Vals xs us → Vals (xs.take n) (us.take n)
  | _, _, 0, _ => .nil
  | _, _, _ + 1, .nil => .nil
  | _, _, n + 1, .cons r t => .cons r (Vals.take n t)
theorem Vals.drop : ∀ {xs : List V} {us : List Value} (n : Nat), Vals xs us → Vals (xs.drop n) (us.drop n)
  | _, _, 0, r => r
  | _, _, _ + 1, .nil => .nil
  | _, _, n + 1, .cons _ t => Vals.drop n t
def RelO : Option V → Option Value → Prop
  | some v, some u => RelV v u
  | none, none => True
  | _, _ => False
def KV {κ : Type} : List (κ × V) → List (κ × Value) → Prop := Paired fun (p : κ × V) (q : κ × Value) => p.1 = q.1 ∧ RelV p.2 q.2

/-  a key of a dict (00_mix): an int or a text -/
def kV : Key → V
  | .inl i => .int i
  | .inr x => .str x

/-  what stands at a tracked address -/
inductive HO where
  /-- a list -/
  | lst (xs : List V)
  /-- a tuple (never changes) -/
  | tup (xs : List V)
  /-- a dict whose keys are ints and texts; one whose keys are tuples of ints and texts (the empty one is both) -/
  | dK (kvs : List (Key × V)) | dT (kvs : List (List Key × V))
  /-- a set of ints: its members, its size -/
  | set (S : Int → Bool) (n : Nat)
  /-- an instance of the class at C, its dict at dx, its attributes -/
  | ins (C dx : Addr) (fs : List (Str × V))
  /-- the dict of the instance at x -/
  | own (x : Addr)
  /-- the dict of an exception -/
  | xd (fs : List (Str × V))
  /-- a bound method, f of x -/
  | met (f x : Addr)
  /-- a range object lo, lo + 1, .. below hi -/
  | rng (lo hi : Int)
  /-- a thing that is known to the object (the script; a dict while a loop walks it): read, never written while it is so -/
  | frz (o : Obj) (u : HO)
  /-- a code object's table -/
  | tbl (qs : List (Pos × Str))
  | cel (v : Option V)
  /-- any other thing, by what is true of its one object (a def of one's own: SetO a S n := HO.ext fun h => ..) -/
  | ext (φ : Heap → Prop)

abbrev Hp := Addr → Option HO
def upd (H : Hp) (a : Addr) (o : HO) : Hp := fun b => if b = a then some o else H b
theorem upd_same {H : Hp} {a : Addr} {o : HO} : upd H a o a = some o := by unfold upd; rw [if_pos rfl]
theorem upd_ne {H : Hp} {a b : Addr} {o : HO} (h : b ≠ a) : upd H a o b = H b := by unfold upd; rw [if_neg h]
theorem upd_upd {H : Hp} {a : Addr} {o u : HO} : upd (upd H a o) a u = upd H a u := by
  funext b; unfold upd; split <;> rfl
/-  two objects of different content stand apart -/
theorem ne_of {H : Hp} {a b : Addr} {o u : HO} (h : H a = some o) (h' : H b = some u) (d : o ≠ u) : a ≠ b := by
  intro e; subst e; rw [h] at h'; exact d (Option.some.inj h')
theorem ne_of_none {H : Hp} {a b : Addr} {o : HO} (h : H a = some o) (h' : H b = none) : a ≠ b := by
  intro e; subst e; rw [h] at h'; cases h'

section
variable (P : Program) (w : World)
def ObjOk (H : Hp) (h : Heap) (a : Addr) : HO → Prop
  | .lst xs => xs.length ≤ sizeLine ∧ ∃ (its : List Value) (n : Nat), Vals xs its ∧ h.get? a = some { cls := .type "list", data := .seq its.toArray n }
  | .tup xs => xs.length ≤ sizeLine ∧ ∃ its : List Value, Vals xs its ∧ IsTup h a its.toArray
  | .dK kvs => kvs.length ≤ sizeLine ∧ (a == sysModules) = false ∧ ∃ vs, KV kvs vs ∧ h.DictOf (mixKind P w) a vs
  | .dT kvs => kvs.length ≤ sizeLine ∧ (a == sysModules) = false ∧ ∃ xs : List (List Key × Addr × Value),
      Paired (fun (p : List Key × V) (q : List Key × Addr × Value) => p.1 = q.1 ∧ H q.2.1 = some (.tup (p.1.map kV)) ∧ RelV p.2 q.2.2) kvs xs ∧
      ∃ o es ep, h.get? a = some o ∧ o.ExactDict ∧ o.data = .dict es ep ∧ es.toList = xs.map (entryOfKey (tupleKind (mixKind P w))) ∧ (xs.map (·.1)).Nodup
  | .set S n => h.SetOf (intKind P w) a S n
  | .ins C dx fs => H dx = some (.own a) ∧ fs.length ≤ 1000 ∧ dx ≠ a ∧ h.get? a = some (PySem.W.instObj C dx) ∧
      ∃ mA, h.Ns1 dx mA ∧ (∀ f, RelO (fs.lookup f) (mA f)) ∧ PySem.Within mA (fs.map (·.1))
  | .own _ => ∃ o, h.get? a = some o
  | .xd fs => ∃ mA, h.Ns1 a mA ∧ ∀ f, RelO (fs.lookup f) (mA f)
  | .rng lo hi => ∃ t u v, h.get? a = some { cls := .type "range", data := .fields #[.int lo t, .int hi u, .int 1 v] }
  | .frz o u => h.get? a = some o ∧ ObjOk H h a u
  | .tbl qs => ∃ ps : Array Value, h.get? a = some { cls := .none, data := .fields ps } ∧ TriplesOk ps.toList ∧ ∀ pos q, (pos, q) ∈ qs →
      codeAmong pos ps.toList = none ∨ ∃ c o u vs t, codeAmong pos ps.toList = some (.ref c) ∧ H c = some (.frz o u) ∧ o.data = .fields vs ∧ vs[1]? = some (.str q t)
  | .cel v => ∃ u, h.IsCell a u ∧ ∀ x, v = some x → ∃ y, u = some y ∧ RelV x y
  | .met f x => h.get? a = some (PySem.W.methodObj (.ref f) (.ref x))
  | .ext φ => φ h ∧ (∃ o, h.get? a = some o) ∧ ∀ h1 h2 : Heap, φ h1 → (∀ o, h1.get? a = some o → h2.get? a = some o) → φ h2
/-  the abstract heap is held -/
def HOk (H : Hp) (h : Heap) : Prop := ∀ a o, H a = some o → ObjOk P w H h a o
end

section
variable {P : Program} {w : World} {H H' : Hp} {h h' : Heap} {a : Addr} {o : HO}
def Rely : HO → Prop
  | .tup _ => True
  | .frz _ _ => True
  | _ => False
def Fix : HO → Prop
  | .tup _ => True
  | .frz _ _ => True
  | .tbl _ => True
  | .cel _ => True
  | _ => False
theorem ObjOk.lt (x : ObjOk P w H h a o) : a < h.objs.size := by
  cases o with
  | lst xs => obtain ⟨_, _, _, _, e⟩ := x; exact Heap.lt_size e
  | tup xs => obtain ⟨_, _, _, p⟩ := x; exact p.lt
  | dK kvs => obtain ⟨_, _, _, _, o, _, _, e, _⟩ := x; exact Heap.lt_size e
  | dT kvs => obtain ⟨_, _, _, _, o, _, _, e, _⟩ := x; exact Heap.lt_size e
  | set S n => obtain ⟨o, _, _, _, e, _⟩ := x; exact Heap.lt_size e
  | ins C dx fs => obtain ⟨_, _, _, e, _⟩ := x; exact Heap.lt_size e
  | own y => obtain ⟨_, e⟩ := x; exact Heap.lt_size e
  | xd fs => obtain ⟨_, ⟨_, _, _, e, _⟩, _⟩ := x; exact Heap.lt_size e
  | rng lo hi => obtain ⟨_, _, _, e⟩ := x; exact Heap.lt_size e
  | frz ob u => obtain ⟨e, _⟩ := x; exact Heap.lt_size e
  | tbl qs => obtain ⟨_, e, _⟩ := x; exact Heap.lt_size e
  | cel v => obtain ⟨_, ⟨_, e, _⟩, _⟩ := x; exact Heap.lt_size e
  | met f y => exact Heap.lt_size (show h.get? a = some _ from x)
  | ext φ => obtain ⟨_, ⟨_, e⟩, _⟩ := x; exact Heap.lt_size e
theorem Paired.mapP {α β : Type} {F G : α → β → Prop} : ∀ {l₁ : List α} {l₂ : List β}, Paired F l₁ l₂ → (∀ a b, F a b → G a b) → Paired G l₁ l₂
  | _, _, .nil, _ => .nil
  | _, _, .cons r t, f => .cons (f _ _ r) (Paired.mapP t f)
theorem Paired.imp' {α β : Type} {F G : α → β → Prop} (f : ∀ a b, F a b → G a b) {l₁ : List α} {l₂ : List β} (r : Paired F l₁ l₂) : Paired G l₁ l₂ := Paired.mapP r f
/-  what an object's description leans on: its own object, its own dict, the tuples -/
theorem ObjOk.stay (x : ObjOk P w H h a o) (k : ∀ b u, (b = a ∨ H b = some (.own a)) → h.get? b = some u → h'.get? b = some u)
    (ho : ∀ b, H b = some (.own a) → H' b = some (.own a)) (ht : ∀ b u, H b = some u → Rely u → H' b = some u) : ObjOk P w H' h' a o := by
  induction o with
  | lst xs => obtain ⟨z, its, n, r, e⟩ := x; exact ⟨z, its, n, r, k _ _ (.inl rfl) e⟩
  | tup xs => obtain ⟨z, its, r, ob, e, c⟩ := x; exact ⟨z, its, r, ob, k _ _ (.inl rfl) e, c⟩
  | dK kvs => obtain ⟨z, y, vs, r, ob, es, ep, e, c⟩ := x; exact ⟨z, y, vs, r, ob, es, ep, k _ _ (.inl rfl) e, c⟩
  | dT kvs =>
    obtain ⟨z, y, xs, r, ob, es, ep, e, c⟩ := x
    exact ⟨z, y, xs, Paired.mapP r fun p q z => ⟨z.1, ht _ _ z.2.1 trivial, z.2.2⟩, ob, es, ep, k _ _ (.inl rfl) e, c⟩
  | set S n => obtain ⟨ob, es, ep, t, e, c⟩ := x; exact ⟨ob, es, ep, t, k _ _ (.inl rfl) e, c⟩
  | ins C dx fs =>
    obtain ⟨d, z, ne, e, mA, ⟨od, es, ep, e2, c⟩, r⟩ := x
    exact ⟨ho _ d, z, ne, k _ _ (.inl rfl) e, mA, ⟨od, es, ep, k _ _ (.inr d) e2, c⟩, r⟩
  | own y => obtain ⟨ob, e⟩ := x; exact ⟨ob, k _ _ (.inl rfl) e⟩
  | xd fs => obtain ⟨mA, ⟨od, es, ep, e, c⟩, r⟩ := x; exact ⟨mA, ⟨od, es, ep, k _ _ (.inl rfl) e, c⟩, r⟩
  | rng lo hi => obtain ⟨t, u, v, e⟩ := x; exact ⟨t, u, v, k _ _ (.inl rfl) e⟩
  | frz ob u ih => obtain ⟨e, q⟩ := x; exact ⟨k _ _ (.inl rfl) e, ih q⟩
  | tbl qs =>
    obtain ⟨ps, e, tr, r⟩ := x
    refine ⟨ps, k _ _ (.inl rfl) e, tr, fun pos q m => ?_⟩
    rcases r pos q m with z | ⟨c, ob, u, vs, t, z1, z2, z3⟩
    · exact .inl z
    · exact .inr ⟨c, ob, u, vs, t, z1, ht _ _ z2 trivial, z3⟩
  | cel v => obtain ⟨u, ⟨ob, e, d⟩, r⟩ := x; exact ⟨u, ⟨ob, k _ _ (.inl rfl) e, d⟩, r⟩
  | met f y =>
    have e : h.get? a = some (PySem.W.methodObj (.ref f) (.ref y)) := x
    show h'.get? a = some (PySem.W.methodObj (.ref f) (.ref y))
    exact k a _ (.inl rfl) e
  | ext φ => obtain ⟨p, ⟨o, e⟩, st⟩ := x; exact ⟨st _ _ p fun o q => k _ _ (.inl rfl) q, ⟨o, k _ _ (.inl rfl) e⟩, st⟩
theorem HOk.lt (x : HOk P w H h) (e : H a = some o) : a < h.objs.size := (x a o e).lt
theorem HOk.fresh (x : HOk P w H h) (e : h.objs.size ≤ a) : H a = none := by
  cases q : H a with
  | none => rfl
  | some u => exact absurd (Nat.lt_of_lt_of_le (x.lt q) e) (Nat.lt_irrefl _)
/-  every object of the heap is kept -/
theorem HOk.kept (x : HOk P w H h) (k : ∀ b u, h.get? b = some u → h'.get? b = some u) : HOk P w H h' := fun a o e =>
  (x a o e).stay (fun b u _ q => k b u q) (fun _ q => q) fun _ _ q _ => q
/-  a new object is laid and tracked -/
theorem HOk.laid (x : HOk P w H h) (k : ∀ b u, h.get? b = some u → h'.get? b = some u) (hp : h.objs.size ≤ a) (new : ObjOk P w (upd H a o) h' a o) : HOk P w (upd H a o) h' := fun b u e => by
  have hn := x.fresh hp
  by_cases hb : b = a
  · subst hb; rw [upd_same] at e; cases e; exact new
  · rw [upd_ne hb] at e
    exact (x b u e).stay (fun c v _ q => k c v q) (fun c q => by rw [upd_ne (ne_of_none q hn)]; exact q) fun c xs q _ => by rw [upd_ne (ne_of_none q hn)]; exact q
end

/-  what may be read as u: it is u, or a known u -/
def Rd (H : Hp) (a : Addr) (u : HO) : Prop := H a = some u ∨ ∃ o, H a = some (.frz o u)
theorem Rd.ok {P : Program} {w : World} {H : Hp} {h : Heap} {a : Addr} {u : HO} (r : Rd H a u) (x : HOk P w H h) : ObjOk P w H h a u := by
  rcases r with r | ⟨o, r⟩
  · exact x a u r
  · obtain ⟨_, q⟩ := x a _ r
    exact q
/-  what may be written -/
def Mut : Option HO → Prop
  | some (.lst _) => True
  | some (.dK _) => True
  | some (.dT _) => True
  | some (.set _ _) => True
  | some (.ins _ _ _) => True
  | some (.ext _) => True
  | _ => False
section
variable {P : Program} {w : World} {H : Hp} {h h' : Heap} {x e : Addr} {o' : HO}
/-  the object at e is changed: x itself, or the dict of the instance x -/
theorem HOk.write (ok : HOk P w H h) (mu : Mut (H x)) (he : e = x ∨ H e = some (.own x)) (k : ∀ b u, b ≠ e → h.get? b = some u → h'.get? b = some u) (heo : ∃ u, h'.get? e = some u)
    (new : ObjOk P w (upd H x o') h' x o') : HOk P w (upd H x o') h' := fun b u q => by
  have nown : ∀ c y, H c = some (.own y) → c ≠ x := fun c y r z => by subst z; rw [r] at mu; exact mu
  have ntup : ∀ c u, H c = some u → Rely u → c ≠ x := fun c u r hf z => by
    subst z; rw [r] at mu
    cases u <;> first | exact mu | exact hf
  by_cases hb : b = x
  · subst hb; rw [upd_same] at q; cases q; exact new
  · rw [upd_ne hb] at q
    by_cases hbe : b = e
    · have q' : H b = some (.own x) := by
        rcases he with z | z
        · exact absurd (hbe.trans z) hb
        · rw [hbe]; exact z
      rw [q] at q'; cases q'
      obtain ⟨v, hv⟩ := heo
      exact ⟨v, by rw [hbe]; exact hv⟩
    · refine (ok b u q).stay (fun c v hc r => k c v ?_ r) (fun c r => by rw [upd_ne (nown c b r)]; exact r) fun c xs r hf => by rw [upd_ne (ntup c xs r hf)]; exact r
      rcases hc with rfl | hc
      · exact hbe
      · rintro rfl
        rcases he with z | z
        · exact nown c b hc z
        · rw [hc] at z; cases z; exact hb rfl
end

/-! ### kept unless tracked; of the frames at fs (the callers') the slots may change (an exception that passes writes there); of the records at ex (iterators) nothing is said -/
structure Un (fs ex : List Addr) (H H' : Hp) (h h' : Heap) : Prop where
  keep : ∀ b o, h.get? b = some o → H b = none → b ∉ fs → b ∉ ex → h'.get? b = some o
  slot : ∀ b o, h.get? b = some o → H b = none → b ∈ fs → b ∉ ex → ∃ sl, h'.get? b = some { o with slots := sl }
  free : ∀ b o, h.get? b = some o → H b = none → b ∉ ex → H' b = none
  there : ∀ b o, h.get? b = some o → b ∉ ex → ∃ o', h'.get? b = some o'
  fix : ∀ b u, H b = some u → Fix u → H' b = some u
section
variable {fs fs' ex ex' : List Addr} {H H1 H2 : Hp} {h h1 h2 h' : Heap} {a x e : Addr} {o : HO}
theorem Un.any (u : Un fs ex H H1 h h1) {b : Addr} {ob : Obj} (q : h.get? b = some ob) (n : H b = none) (hx : b ∉ ex) : ∃ sl, h1.get? b = some { ob with slots := sl } := by
  by_cases hb : b ∈ fs
  · exact u.slot b ob q n hb hx
  · exact ⟨ob.slots, u.keep b ob q n hb hx⟩
theorem Un.trans (a : Un fs ex H H1 h h1) (b : Un fs ex H1 H2 h1 h2) : Un fs ex H H2 h h2 where
  keep := fun c ob q n hc hx => b.keep c ob (a.keep c ob q n hc hx) (a.free c ob q n hx) hc hx
  slot := fun c ob q n hc hx => by
    obtain ⟨sl, e1⟩ := a.slot c ob q n hc hx
    obtain ⟨sl', e2⟩ := b.slot c _ e1 (a.free c ob q n hx) hc hx
    exact ⟨sl', e2⟩
  free := fun c ob q n hx => by
    obtain ⟨o', e1⟩ := a.there c ob q hx
    exact b.free c o' e1 (a.free c ob q n hx) hx
  there := fun c ob q hx => by
    obtain ⟨o', e1⟩ := a.there c ob q hx
    exact b.there c o' e1 hx
  fix := fun c u q f => b.fix c u (a.fix c u q f) f
theorem Un.kept (k : ∀ b u, h.get? b = some u → h'.get? b = some u) : Un fs ex H H h h' :=
  ⟨fun b ob q _ _ _ => k b ob q, fun b ob q _ _ _ => ⟨ob.slots, k b ob q⟩, fun _ _ _ n _ => n, fun b ob q _ => ⟨ob, k b ob q⟩, fun _ _ q _ => q⟩
theorem Un.refl : Un fs ex H H h h := Un.kept fun _ _ q => q
theorem Un.laid (k : ∀ b u, h.get? b = some u → h'.get? b = some u) (hp : h.objs.size ≤ a) (hn : H a = none) : Un fs ex H (upd H a o) h h' where
  keep := fun b u q _ _ _ => k b u q
  slot := fun b u q _ _ _ => ⟨u.slots, k b u q⟩
  free := fun b u q n _ => by rw [upd_ne (Nat.ne_of_lt (Nat.lt_of_lt_of_le (Heap.lt_size q) hp))]; exact n
  there := fun b u q _ => ⟨u, k b u q⟩
  fix := fun b u q _ => by rw [upd_ne (ne_of_none q hn)]; exact q
theorem Un.write (mu : Mut (H x)) (he : e = x ∨ H e = some (.own x)) (k : ∀ b u, b ≠ e → h.get? b = some u → h'.get? b = some u) (heo : ∃ u, h'.get? e = some u) : Un fs ex H (upd H x o) h h' := by
  have hx : ∀ b, H b = none → b ≠ x := fun b n z => by subst z; rw [n] at mu; exact mu
  have hb : ∀ b, H b = none → b ≠ e := fun b n z => by
    subst z
    rcases he with r | r
    · exact hx b n r
    · rw [n] at r; cases r
  have hm : ∀ b u, H b = some u → ¬ Mut (some u) → b ≠ x := fun b u q nm z => by subst z; rw [q] at mu; exact nm mu
  refine ⟨fun b u q n _ _ => k b u (hb b n) q, fun b u q n _ _ => ⟨u.slots, k b u (hb b n) q⟩, fun b u q n _ => by rw [upd_ne (hx b n)]; exact n, fun b u q _ => ?_,
    fun b u q hf => by rw [upd_ne (hm b _ q fun z => by cases u <;> first | exact z | exact hf)]; exact q⟩
  by_cases hbe : b = e
  · subst hbe; exact heo
  · exact ⟨u, k b u hbe q⟩
end

/-! ### the heap without what is tracked -/
def trk (h : Heap) (H : Hp) : List Addr := (List.range h.objs.size).filter fun a => (H a).isSome
def hidT (h : Heap) (H : Hp) : Heap := PySem.W.hideAll h (trk h H)
theorem hidT_size (h : Heap) (H : Hp) : (hidT h H).objs.size = h.objs.size := PySem.W.hideAll_size _ _
theorem hidT_get {h : Heap} {H : Hp} {b : Addr} {o : Obj} (e : h.get? b = some o) (n : H b = none) : (hidT h H).get? b = some o :=
  PySem.W.hideAll_get _ e fun hm => by
    have q : (H b).isSome = true := (List.mem_filter.mp hm).2
    rw [n] at q; simp at q
theorem of_hidT {h : Heap} {H : Hp} {b : Addr} {o : Obj} (e : (hidT h H).get? b = some o) : h.get? b = some o ∧ H b = none := by
  have e' : h.get? b = some o := PySem.W.of_hideAll (trk h H) e
  refine ⟨e', ?_⟩
  cases q : H b with
  | none => rfl
  | some x =>
    have hm : b ∈ trk h H := List.mem_filter.mpr ⟨List.mem_range.mpr (Heap.lt_size e'), by simp [q]⟩
    have z : (hidT h H).get? b = none := PySem.W.hideAll_none (trk h H) hm
    rw [z] at e; cases e

/-! ### OpenK's ledger, filled with every new object but one -/
def allNews (g h : Heap) (L : Addr) : List (Addr × Obj) := (List.range h.objs.size).filterMap fun a => if a = L ∨ (g.get? a).isSome = true then none else (h.get? a).map fun o => (a, o)
def rest (g h : Heap) (L d : Addr) : List (Addr × Obj) := (allNews g h L).filter fun p => decide (p.1 ≠ d)
/-  behind a rule that changed d alone: all else but the frame is kept -/
end L2

namespace L2
open PySem PySem.Spec PyProof.Rows

/-  the module's facts, over the base: the heap at the law's entry without what is tracked there -/
structure Mod (K : PySem.W.Frag) (mg : Str → Option Value) (base : Heap) : Prop where
  kin : K.In base
  glob : base.Ns mainGlobals mg
  blt : ∃ mb, base.Ns builtinsNs mb ∧ ∀ x : Str, x ≠ "__name__" → mb x = bootBuiltins x
  nolimit : base.NoLimit
  bm : ∃ b o, mg "__builtins__" = some (.ref b) ∧ b ≠ builtinsNs ∧ base.get? b = some o ∧ o.cls = .type "module" ∧ o.dict = some builtinsNs ∧ o.data = .plain

/-  the context: a def's body (or a comprehension's block) running. base: fixed through the whole law; s₀, H₀: the entry; outer: the frames whose slots others may change (a def's callers); stack: all frames that run;
   ex: iterators that were made ahead of the entry and are walked here (a comprehension's); fn: the names whose cells were made at the entry (a def: all; a comprehension's block: its own); calm: not within an except suite; pn: pins that every state bears; xe: what is wanted of an exception that leaves the code -/
structure Cx where
  prog : Program
  w : World
  K : PySem.W.Frag
  mg : Str → Option Value
  base : Heap
  A : Around
  N : List Str
  s₀ : Shared
  H₀ : Hp
  env : Env
  outer : List Env
  stack : List Env
  ex : List Addr
  fn : Str → Bool
  calm : Bool
  pn : List (Addr × Obj)
  xe : Value → Shared → Prop
  cp : Str → Bool
/-  the callers' frames -/
def frs (l : List Env) : List Addr := l.filterMap (·.frame)
abbrev Cx.fs (X : Cx) : List Addr := frs X.outer

def Vis (sc : Scope) (x : Str) : Prop := sc.names.lookup x = some .local ∨ sc.names.lookup x = some .cell ∨ sc.names.lookup x = some .free
def Loc (sc : Scope) (x : Str) : Prop := sc.names.lookup x = some .local ∨ sc.names.lookup x = some .cell
def Look (env : Env) (h : Heap) (m : Str → Option Value) (x : Str) (u : Value) : Prop :=
  (env.kindOf x = some .local ∧ m x = some u) ∨ ((env.kindOf x = some .cell ∨ env.kindOf x = some .free) ∧ ∃ c, env.cells.lookup x = some c ∧ h.IsCell c (some u))

structure Cx.Ok (X : Cx) : Prop where
  mod : Mod X.K X.mg X.base
  kind : X.env.scope.kind = .function
  glob : X.env.globals = mainGlobals
  blt : X.env.builtins = builtinsNs
  above : X.s₀.heap.objs.size ≤ X.env.locals
  inj : ∀ x y c, X.env.cells.lookup x = some c → X.env.cells.lookup y = some c → x = y
  has : ∀ x, (X.env.kindOf x = some .cell ∨ X.env.kindOf x = some .free) → ∃ c, X.env.cells.lookup x = some c
  cab : ∀ x c, X.fn x = true → X.env.cells.lookup x = some c → X.s₀.heap.objs.size ≤ c
  hd : X.calm = true → X.A.handled = none
  frames : X.A.frames = some X.stack
  stk : X.stack = X.outer ∨ (X.stack = X.env :: X.outer ∧ X.env.frame = some X.env.locals)
  exf : ∀ b ∈ X.ex, b ≠ X.env.locals ∧ ∀ x c, X.env.cells.lookup x = some c → c ≠ b
  bs : ∀ b o, X.base.get? b = some o → X.s₀.heap.get? b = some o ∧ X.H₀ b = none
  bsz : X.base.objs.size ≤ X.s₀.heap.objs.size
  noex : ∀ b o, X.base.get? b = some o → b ∉ X.ex
  exfs : ∀ b ∈ X.ex, b ∉ X.fs
  funs : X.s₀.heap.FunFrames X.base X.outer
  frf : ∀ b ∈ X.fs, X.H₀ b = none
  cab2 : ∀ x c, X.cp x = true → X.env.cells.lookup x = some c → X.s₀.heap.objs.size ≤ c
  hz : ∀ b, X.s₀.heap.objs.size ≤ b → X.H₀ b = none

structure Inv (X : Cx) (pins : List (Addr × Obj)) (σ : List (Option V)) (H : Hp) (s : Shared) : Prop where
  ok : X.Ok
  os : s.os = X.s₀.os
  bare : AllBare s.gens
  base : Un X.fs X.ex X.H₀ H X.s₀.heap s.heap
  loc : ∃ m, s.heap.Ns X.env.locals m ∧ ∀ (i : Nat) (x : Str) (v : V), X.N[i]? = some x → σ[i]? = some (some v) → Vis X.env.scope x → ∃ u, RelV v u ∧ Look X.env s.heap m x u
  cell : ∀ x c, X.env.cells.lookup x = some c → ∃ v, s.heap.IsCell c v
  free : H X.env.locals = none
  freeC : ∀ x c, X.env.cells.lookup x = some c → H c = none ∨ (X.fn x = false ∧ ∃ o, H c = some (.cel o) ∧ (o = none → ∀ (i : Nat) v, X.N[i]? = some x → (X.env.kindOf x = some .cell ∨ X.env.kindOf x = some .free) → σ[i]? ≠ some (some v)))
  pin : ∀ p ∈ X.pn ++ pins, s.heap.get? p.1 = some p.2 ∧ H p.1 = none ∧ p.1 ≠ X.env.locals ∧ p.1 ∉ X.fs ∧ ∀ v, p.2.data ≠ .cell v
  hok : HOk X.prog X.w H s.heap
  len : σ.length = X.N.length

section
variable {X : Cx} {pins : List (Addr × Obj)} {σ : List (Option V)} {H H' : Hp} {s : Shared} {h' : Heap}

theorem Cx.Ok.nofr (ok : X.Ok) {b : Addr} {o : Obj} (e : X.base.get? b = some o) : b ∉ X.fs := fun hb => by
  have := (ok.funs.mem hb).1
  rw [e] at this; cases this
theorem Inv.bs (I : Inv X pins σ H s) : ∀ b o, X.base.get? b = some o → s.heap.get? b = some o ∧ H b = none := fun b o e =>
  ⟨I.base.keep b o (I.ok.bs b o e).1 (I.ok.bs b o e).2 (I.ok.nofr e) (I.ok.noex b o e), I.base.free b o (I.ok.bs b o e).1 (I.ok.bs b o e).2 (I.ok.noex b o e)⟩
theorem Inv.bk (I : Inv X pins σ H s) : ∀ b o, X.base.get? b = some o → s.heap.get? b = some o := fun b o e => (I.bs b o e).1
theorem Inv.mod (I : Inv X pins σ H s) : Mod X.K X.mg X.base := I.ok.mod
theorem Inv.kIn (I : Inv X pins σ H s) : X.K.In s.heap := I.ok.mod.kin.keeps I.bk
/-  the frame over the base: for OpenK's rules (K.In X.base is I.mod.kin) -/
theorem Inv.lt (I : Inv X pins σ H s) : X.env.locals < s.heap.objs.size := let ⟨_, hn, _⟩ := I.loc; hn.lt
theorem Inv.sz (I : Inv X pins σ H s) : X.s₀.heap.objs.size ≤ s.heap.objs.size := Nat.le_trans I.ok.above (Nat.le_of_lt I.lt)
theorem Inv.nofs (I : Inv X pins σ H s) {a : Addr} (h : s.heap.objs.size ≤ a) : a ∉ X.fs := fun hb => by
  obtain ⟨_, o, ho, _⟩ := I.ok.funs.mem hb
  exact absurd (Nat.lt_of_lt_of_le (Heap.lt_size ho) (Nat.le_trans I.sz h)) (Nat.lt_irrefl _)
theorem Inv.cne (I : Inv X pins σ H s) : ∀ x c, X.env.cells.lookup x = some c → c ≠ X.env.locals := fun x c e z => by
  obtain ⟨v, o, ho, hd⟩ := I.cell x c e
  obtain ⟨m, ⟨o', es, ep, ho', hd', _⟩, _⟩ := I.loc
  rw [z, ho'] at ho; cases ho; rw [hd'] at hd; cases hd
theorem Inv.funs (I : Inv X pins σ H s) : s.heap.FunFrames X.base X.outer := by
  have all : ∀ (l : List Env), (∀ b ∈ frs l, b ∈ X.fs) → X.s₀.heap.FunFrames X.base l → s.heap.FunFrames X.base l := by
    intro l
    induction l with
    | nil => intro _ _; trivial
    | cons env r ih =>
      intro hs hl
      obtain ⟨hk, ⟨L, o, hf, hn, ho, hd⟩, hr⟩ := hl
      have hL : L ∈ X.fs := hs L (by unfold frs; rw [List.filterMap_cons, hf]; exact List.mem_cons_self)
      obtain ⟨sl, e⟩ := I.base.slot L o ho (I.ok.frf L hL) hL fun z => I.ok.exfs L z hL
      exact ⟨hk, ⟨L, _, hf, hn, e, hd⟩, ih (fun b hb => hs b (by unfold frs; rw [List.filterMap_cons, hf]; exact List.mem_cons_of_mem _ hb)) hr⟩
  exact all X.outer (fun _ hb => hb) I.ok.funs

/-  the frames that run, for a call -/
theorem Inv.stack (I : Inv X pins σ H s) : s.heap.FunFrames X.base X.stack := by
  rcases I.ok.stk with e | ⟨e, hf⟩
  · rw [e]; exact I.funs
  · rw [e]
    obtain ⟨m, hn, _⟩ := I.loc
    refine .cons (by rw [I.ok.kind]; decide) hf hn ?_ I.funs
    exact Heap.get?_none_of_le (Nat.le_trans I.ok.bsz I.ok.above)
theorem Inv.stkSub (I : Inv X pins σ H s) : ∀ b ∈ frs X.stack, b ∈ X.env.locals :: X.fs := fun b hb => by
  rcases I.ok.stk with e | ⟨e, hf⟩
  · rw [e] at hb; exact List.mem_cons_of_mem _ hb
  · rw [e] at hb
    unfold frs at hb
    rw [List.filterMap_cons, hf] at hb
    exact hb
theorem Inv.stkFree (I : Inv X pins σ H s) : ∀ b ∈ frs X.stack, H b = none := fun b hb => by
  rcases List.mem_cons.mp (I.stkSub b hb) with e | hb
  · rw [e]; exact I.free
  · obtain ⟨_, o, ho, _⟩ := I.ok.funs.mem hb
    exact I.base.free b o ho (I.ok.frf b hb) fun z => I.ok.exfs b z hb

/-  THE STEP: the untracked objects but the frame and the records at ch are kept (the callers' frames up to slots), the frame's map is kept, the new abstract heap is held -/
theorem Inv.step {g' : Array GenState} {t' : Nat} {d' : Drawn} {ch : List Addr} (I : Inv X pins σ H s)
    (hch : ∀ b ∈ ch, (b ∈ X.ex ∨ X.s₀.heap.objs.size ≤ b) ∧ b ≠ X.env.locals ∧ (∀ x c, X.env.cells.lookup x = some c → c ≠ b) ∧ ∀ p ∈ X.pn ++ pins, p.1 ≠ b)
    (keep : ∀ b o, b ≠ X.env.locals → b ∉ X.fs → b ∉ ch → s.heap.get? b = some o → H b = none → h'.get? b = some o)
    (slot : ∀ b o, b ≠ X.env.locals → b ∈ X.fs → b ∉ ch → s.heap.get? b = some o → H b = none → ∃ sl, h'.get? b = some { o with slots := sl }) (free : ∀ b o, b ∉ ch → s.heap.get? b = some o → H b = none → H' b = none)
    (there : ∀ b o, b ∉ ch → s.heap.get? b = some o → ∃ o', h'.get? b = some o')
    (fix : ∀ b u, H b = some u → Fix u → H' b = some u)
    (ns : ∀ m, s.heap.Ns X.env.locals m → h'.Ns X.env.locals m) (hok : HOk X.prog X.w H' h') (hg : AllBare g') :
    Inv X pins σ H' { s with heap := h', gens := g', drawn := d', toks := t' } := by
  have neL : ∀ b o, X.s₀.heap.get? b = some o → b ≠ X.env.locals := fun b o e => Nat.ne_of_lt (Nat.lt_of_lt_of_le (Heap.lt_size e) I.ok.above)
  have neC : ∀ b o, X.s₀.heap.get? b = some o → b ∉ X.ex → b ∉ ch := fun b o e hx hb => by
    rcases (hch b hb).1 with z | z
    · exact hx z
    · exact absurd (Nat.lt_of_lt_of_le (Heap.lt_size e) z) (Nat.lt_irrefl _)
  have cellK : ∀ x c, X.env.cells.lookup x = some c → H c = none → ∀ v, s.heap.IsCell c v → h'.IsCell c v := fun x c e hn v ⟨o, ho, hd⟩ => by
    have nch : c ∉ ch := fun z => (hch c z).2.2.1 x c e rfl
    by_cases hc : c ∈ X.fs
    · obtain ⟨sl, q⟩ := slot c o (I.cne x c e) hc nch ho hn
      exact ⟨_, q, hd⟩
    · exact ⟨o, keep c o (I.cne x c e) hc nch ho hn, hd⟩
  refine ⟨I.ok, I.os, hg, ⟨fun b o e n hb hx => ?_, fun b o e n hb hx => ?_, fun b o e n hx => ?_, fun b o e hx => ?_, fun b u e f => fix b u (I.base.fix b u e f) f⟩, ?_, fun x c e => ?_, ?_, fun x c e => ?_, fun p hp => ?_, hok, I.len⟩
  · exact keep b o (neL b o e) hb (neC b o e hx) (I.base.keep b o e n hb hx) (I.base.free b o e n hx)
  · obtain ⟨sl, e1⟩ := I.base.slot b o e n hb hx
    obtain ⟨sl', e2⟩ := slot b _ (neL b o e) hb (neC b o e hx) e1 (I.base.free b o e n hx)
    exact ⟨sl', e2⟩
  · obtain ⟨o', e1⟩ := I.base.there b o e hx
    exact free b o' (neC b o e hx) e1 (I.base.free b o e n hx)
  · obtain ⟨o', e1⟩ := I.base.there b o e hx
    exact there b o' (neC b o e hx) e1
  · obtain ⟨m, hn, hl⟩ := I.loc
    refine ⟨m, ns m hn, fun i x v e1 e2 e3 => ?_⟩
    obtain ⟨u, r, l⟩ := hl i x v e1 e2 e3
    rcases l with l | ⟨k, c, e, z⟩
    · exact ⟨u, r, .inl l⟩
    · rcases I.freeC x c e with hn' | ⟨_, o, ho, hno⟩
      · exact ⟨u, r, .inr ⟨k, c, e, cellK x c e hn' _ z⟩⟩
      · cases o with
        | none => exact absurd e2 (hno rfl i v e1 k)
        | some v' =>
          obtain ⟨y, hy, hr⟩ := I.hok c _ ho
          obtain ⟨y', hy', hr'⟩ := hok c _ (fix c _ ho trivial)
          obtain ⟨y2, rfl, r2⟩ := hr v' rfl
          obtain ⟨y3, rfl, r3⟩ := hr' v' rfl
          have : v = v' := RelV.fn r (by
            obtain ⟨o1, q1, q2⟩ := z
            obtain ⟨o2, q3, q4⟩ := hy
            rw [q1] at q3; cases q3
            rw [q2] at q4; cases q4
            exact r2)
          subst this
          exact ⟨y3, r3, .inr ⟨k, c, e, hy'⟩⟩
  · rcases I.freeC x c e with hn' | ⟨_, o, ho, _⟩
    · obtain ⟨v, z⟩ := I.cell x c e
      exact ⟨v, cellK x c e hn' v z⟩
    · obtain ⟨y', hy', _⟩ := hok c _ (fix c _ ho trivial)
      exact ⟨y', hy'⟩
  · obtain ⟨m, ⟨o, _, _, ho, _⟩, _⟩ := I.loc
    exact free _ o (fun z => (hch _ z).2.1 rfl) ho I.free
  · rcases I.freeC x c e with hn' | ⟨hf, o, ho, hno⟩
    · obtain ⟨v, o, ho, hd⟩ := I.cell x c e
      exact .inl (free c o (fun z => (hch c z).2.2.1 x c e rfl) ho hn')
    · exact .inr ⟨hf, o, fix c _ ho trivial, hno⟩
  · obtain ⟨e, n, ne, nf, d⟩ := I.pin p hp
    have nch : p.1 ∉ ch := fun z => (hch p.1 z).2.2.2 p hp rfl
    exact ⟨keep p.1 p.2 ne nf nch e n, free p.1 p.2 nch e n, ne, nf, d⟩
/-  .. where the frame's own object is kept too -/
theorem Inv.un {t' : Nat} (I : Inv X pins σ H s) (u : Un X.fs [] H H' s.heap h') (hok : HOk X.prog X.w H' h') : Inv X pins σ H' { s with heap := h', toks := t' } := by
  obtain ⟨m, ⟨o, es, ep, ho, r⟩, _⟩ := id I.loc
  obtain ⟨sl, hL⟩ := u.any ho I.free (by simp)
  exact I.step (g' := s.gens) (d' := s.drawn) (ch := []) (fun _ z => nomatch z) (fun b o _ hb _ e n => u.keep b o e n hb (by simp)) (fun b o _ hb _ e n => u.slot b o e n hb (by simp)) (fun b o _ e n => u.free b o e n (by simp)) (fun b o _ e => u.there b o e (by simp)) u.fix (fun m' hm => by
    obtain ⟨o', es', ep', ho', r'⟩ := hm
    rw [ho] at ho'; cases ho'
    exact ⟨_, es', ep', hL, r'⟩) hok I.bare
/-  behind a call (or a comprehension's block): the slots of this frame may have changed too, the records at ch may have turned -/
theorem Inv.call {g' : Array GenState} {t' : Nat} {d' : Drawn} {ch : List Addr} (I : Inv X pins σ H s) (u : Un (frs X.stack) ch H H' s.heap h') (hok : HOk X.prog X.w H' h') (hg : AllBare g')
    (hch : ∀ b ∈ ch, (b ∈ X.ex ∨ X.s₀.heap.objs.size ≤ b) ∧ b ≠ X.env.locals ∧ (∀ x c, X.env.cells.lookup x = some c → c ≠ b) ∧ ∀ p ∈ X.pn ++ pins, p.1 ≠ b) :
    Inv X pins σ H' { s with heap := h', gens := g', drawn := d', toks := t' } := by
  obtain ⟨m, ⟨o, es, ep, ho, r⟩, _⟩ := id I.loc
  obtain ⟨sl, hL⟩ := u.any ho I.free fun z => (hch _ z).2.1 rfl
  exact I.step (ch := ch) hch (fun b o hL hb hc e n => u.keep b o e n (fun z => (List.mem_cons.mp (I.stkSub b z)).elim hL hb) hc) (fun b o _ _ hc e n => u.any e n hc) (fun b o hc e n => u.free b o e n hc) (fun b o hc e => u.there b o e hc) u.fix (fun m' hm => by
    obtain ⟨o', es', ep', ho', r'⟩ := hm
    rw [ho] at ho'; cases ho'
    exact ⟨_, es', ep', hL, r'⟩) hok hg
/-  an untracked record of ours (an iterator) has turned -/
theorem Inv.turned {t' : Nat} {it : Addr} (I : Inv X pins σ H s) (k : ∀ b o, b ≠ it → s.heap.get? b = some o → h'.get? b = some o) (hn : H it = none) (hL : it ≠ X.env.locals)
    (h1 : it ∈ X.ex ∨ X.s₀.heap.objs.size ≤ it) (h2 : ∀ x c, X.env.cells.lookup x = some c → c ≠ it) (h3 : ∀ p ∈ X.pn ++ pins, p.1 ≠ it) : Inv X pins σ H { s with heap := h', toks := t' } := by
  have nit : ∀ b u, H b = some u → b ≠ it := fun b u e z => by rw [z, hn] at e; cases e
  refine I.step (g' := s.gens) (d' := s.drawn) (ch := [it]) (fun b hb => ?_) (fun b o _ _ hc e _ => k b o (fun z => hc (by simp [z])) e) (fun b o _ _ hc e _ => ⟨o.slots, k b o (fun z => hc (by simp [z])) e⟩) (fun _ _ _ _ n => n)
    (fun b o hc e => ⟨o, k b o (fun z => hc (by simp [z])) e⟩) (fun _ _ e _ => e) (fun m hm => ?_) (fun b u e => ?_) I.bare
  · have e : b = it := by simpa using hb
    subst e
    exact ⟨h1, hL, h2, h3⟩
  · obtain ⟨o, es, ep, ho, r⟩ := hm
    exact ⟨o, es, ep, k _ o (Ne.symm hL) ho, r⟩
  · refine (I.hok b u e).stay (fun c v hc q => k c v ?_ q) (fun _ q => q) fun _ _ q _ => q
    rcases hc with z | z
    · rw [z]; exact nit b u e
    · exact nit c _ z
theorem Inv.tok (I : Inv X pins σ H s) (t : Nat) : Inv X pins σ H { s with toks := t } := I.un (h' := s.heap) (t' := t) Un.refl I.hok
/-  all objects kept -/
theorem Inv.kept {t' : Nat} (I : Inv X pins σ H s) (k : ∀ b u, s.heap.get? b = some u → h'.get? b = some u) : Inv X pins σ H { s with heap := h', toks := t' } := I.un (Un.kept k) (I.hok.kept k)
/-  a new object laid and tracked -/
theorem Inv.laid {a : Addr} {o : HO} {t' : Nat} (I : Inv X pins σ H s) (k : ∀ b u, s.heap.get? b = some u → h'.get? b = some u) (hp : s.heap.objs.size ≤ a) (new : ObjOk X.prog X.w (upd H a o) h' a o) :
    Inv X pins σ (upd H a o) { s with heap := h', toks := t' } := I.un (Un.laid k hp (I.hok.fresh hp)) (I.hok.laid k hp new)
/-  an object written -/
theorem Inv.write {x e : Addr} {o : HO} {t' : Nat} (I : Inv X pins σ H s) (mu : Mut (H x)) (he : e = x ∨ H e = some (.own x)) (k : ∀ b u, b ≠ e → s.heap.get? b = some u → h'.get? b = some u) (heo : ∃ u, h'.get? e = some u)
    (new : ObjOk X.prog X.w (upd H x o) h' x o) : Inv X pins σ (upd H x o) { s with heap := h', toks := t' } := I.un (Un.write mu he k heo) (I.hok.write mu he k heo new)
/-  forgetting slots, pins -/
theorem Inv.weak {σ' : List (Option V)} (I : Inv X pins σ H s) (hl : σ'.length = σ.length) (w : ∀ (i : Nat) v, σ'[i]? = some (some v) → σ[i]? = some (some v)) : Inv X pins σ' H s :=
  ⟨I.ok, I.os, I.bare, I.base, let ⟨m, hn, hl'⟩ := I.loc; ⟨m, hn, fun i x v e1 e2 e3 => hl' i x v e1 (w i v e2) e3⟩, I.cell, I.free, fun x c e => (I.freeC x c e).imp id fun ⟨hf, o, ho, hno⟩ => ⟨hf, o, ho, fun z i v e1 k e2 => hno z i v e1 k (w i v e2)⟩, I.pin, I.hok, hl.trans I.len⟩
theorem Inv.pins_of {pins' : List (Addr × Obj)} (I : Inv X pins σ H s) (h : ∀ p ∈ pins', s.heap.get? p.1 = some p.2 ∧ H p.1 = none ∧ p.1 ≠ X.env.locals ∧ p.1 ∉ X.fs ∧ ∀ v, p.2.data ≠ .cell v) : Inv X pins' σ H s :=
  ⟨I.ok, I.os, I.bare, I.base, I.loc, I.cell, I.free, I.freeC, fun p hp => (List.mem_append.mp hp).elim (fun z => I.pin p (List.mem_append_left _ z)) (h p), I.hok, I.len⟩

theorem nodup_ix {N : List Str} (hN : N.Nodup) {i j : Nat} {x : Str} (a : N[i]? = some x) (b : N[j]? = some x) : i = j := by
  obtain ⟨h1, e1⟩ := List.getElem?_eq_some_iff.mp a
  obtain ⟨h2, e2⟩ := List.getElem?_eq_some_iff.mp b
  exact (List.getElem_inj hN).mp (e1.trans e2.symm)

/-  a name is stored; what changed -/
theorem store_ok2 {M : Model} {A : Around} {E : Value → Shared → Prop} {i : Nat} {x : Str} {v : V} {u : Value} {Q : Unit → Shared → Prop} (I : Inv X pins σ H s) (hN : X.N.Nodup) (hi : X.N[i]? = some x) (hx : Loc X.env.scope x) (r : RelV v u)
    (h : ∀ s', Inv X pins (σ.set i (some v)) H s' → (∃ a, Heap.SameBut a s.heap s'.heap ∧ (a = X.env.locals ∨ X.env.cells.lookup x = some a)) → Q () s') (hf : X.fn x = true ∨ X.env.scope.names.lookup x = some .local := by first | exact .inl rfl | exact .inr rfl | assumption) : wpAny M A (storeName X.env x u) Q E s := by
  obtain ⟨m, hn, hl⟩ := id I.loc
  have hcls : (X.env.scope.kind == .class || (X.env.scope.kind == .module && X.env.locals != X.env.globals)) = false := by rw [I.ok.kind]; rfl
  have hiσ : i < σ.length := by rw [I.len]; exact (List.getElem?_eq_some_iff.mp hi).1
  have cne := I.cne
  have tracked : ∀ {a : Addr} {h' : Heap}, (∃ o, s.heap.get? a = some o ∧ H a = none) → Heap.SameBut a s.heap h' → HOk X.prog X.w H h' := fun {a h'} ha hs b ob e => by
    obtain ⟨_, _, hfree⟩ := ha
    refine (I.hok b ob e).stay (fun c w' hc q => (hs.2 c ?_).trans q) (fun _ q => q) fun _ _ q _ => q
    rintro rfl
    rcases hc with rfl | hc
    · rw [hfree] at e; cases e
    · rw [hfree] at hc; cases hc
  rcases hx with hk | hk
  · refine wpAny_storeName_local hk hn (fun h' hn' hs => ?_) hcls
    obtain ⟨oL, _, _, hoL, _⟩ := id hn
    refine h _ ⟨I.ok, I.os, I.bare, ⟨fun b o e n hb hx => ?_, fun b o e n hb hx => ?_, I.base.free, fun b o e hx => ?_, I.base.fix⟩, ⟨_, hn', fun j y v' e1 e2 e3 => ?_⟩, fun y c e => ?_, I.free, fun y c e => ?_, fun p hp => ?_, tracked ⟨oL, hoL, I.free⟩ hs, by simpa using I.len⟩ ⟨_, hs, .inl rfl⟩
    · exact (hs.2 b (Nat.ne_of_lt (Nat.lt_of_lt_of_le (Heap.lt_size e) I.ok.above))).trans (I.base.keep b o e n hb hx)
    · obtain ⟨sl, e1⟩ := I.base.slot b o e n hb hx
      exact ⟨sl, (hs.2 b (Nat.ne_of_lt (Nat.lt_of_lt_of_le (Heap.lt_size e) I.ok.above))).trans e1⟩
    · obtain ⟨o', e1⟩ := I.base.there b o e hx
      exact ⟨o', (hs.2 b (Nat.ne_of_lt (Nat.lt_of_lt_of_le (Heap.lt_size e) I.ok.above))).trans e1⟩
    · by_cases hj : j = i
      · subst hj
        rw [hi] at e1; cases e1
        rw [List.getElem?_set_self hiσ] at e2
        cases e2
        exact ⟨u, r, .inl ⟨hk, by simp⟩⟩
      · rw [List.getElem?_set_ne (Ne.symm hj)] at e2
        obtain ⟨u', r', q⟩ := hl j y v' e1 e2 e3
        refine ⟨u', r', ?_⟩
        rcases q with ⟨k, e⟩ | ⟨k, c, e, z⟩
        · refine .inl ⟨k, ?_⟩
          have : y ≠ x := fun e => hj (nodup_ix hN e1 (e ▸ hi))
          simp [this, e]
        · exact .inr ⟨k, c, e, z.sameBut hs (cne y c e)⟩
    · obtain ⟨w', z⟩ := I.cell y c e
      exact ⟨w', z.sameBut hs (cne y c e)⟩
    · refine (I.freeC y c e).imp id fun ⟨hf', o', ho', hno⟩ => ⟨hf', o', ho', fun z j v' e1 k e2 => ?_⟩
      by_cases hj : j = i
      · subst hj
        rw [hi] at e1; cases e1
        have hk' : X.env.kindOf x = some .local := hk
        rw [hk'] at k
        rcases k with k | k <;> cases k
      · rw [List.getElem?_set_ne (Ne.symm hj)] at e2
        exact hno z j v' e1 k e2
    · obtain ⟨e, n, ne, nf, d⟩ := I.pin p hp
      exact ⟨(hs.2 p.1 ne).trans e, n, ne, nf, d⟩
  · have hfn : X.fn x = true := by
      rcases hf with z | z
      · exact z
      · rw [z] at hk; cases hk
    obtain ⟨c, hc⟩ := I.ok.has x (.inl hk)
    have hHc : H c = none := by
      rcases I.freeC x c hc with z | ⟨z, _⟩
      · exact z
      · rw [hfn] at z; cases z
    obtain ⟨w', z⟩ := I.cell x c hc
    refine wpAny_storeName_cell I.ok.kind hk hc z (fun h' hc' hs => ?_)
    obtain ⟨oc, hoc, hocd⟩ := id z
    refine h { s with heap := h' } ⟨I.ok, I.os, I.bare, ⟨fun b o e n hb hx => ?_, fun b o e n hb hx => ?_, I.base.free, fun b o e hx => ?_, I.base.fix⟩, ⟨m, hn.sameBut hs (Ne.symm (cne x c hc)), fun j y v' e1 e2 e3 => ?_⟩, fun y c' e => ?_, I.free, fun y c' e => ?_, fun p hp => ?_, tracked ⟨oc, hoc, hHc⟩ hs, by simpa using I.len⟩ ⟨c, hs, .inr hc⟩
    · exact (hs.2 b (Nat.ne_of_lt (Nat.lt_of_lt_of_le (Heap.lt_size e) (I.ok.cab x c hfn hc)))).trans (I.base.keep b o e n hb hx)
    · obtain ⟨sl, e1⟩ := I.base.slot b o e n hb hx
      exact ⟨sl, (hs.2 b (Nat.ne_of_lt (Nat.lt_of_lt_of_le (Heap.lt_size e) (I.ok.cab x c hfn hc)))).trans e1⟩
    · obtain ⟨o', e1⟩ := I.base.there b o e hx
      exact ⟨o', (hs.2 b (Nat.ne_of_lt (Nat.lt_of_lt_of_le (Heap.lt_size e) (I.ok.cab x c hfn hc)))).trans e1⟩
    · by_cases hj : j = i
      · subst hj
        rw [hi] at e1; cases e1
        rw [List.getElem?_set_self hiσ] at e2
        cases e2
        exact ⟨u, r, .inr ⟨.inl hk, c, hc, hc'⟩⟩
      · rw [List.getElem?_set_ne (Ne.symm hj)] at e2
        obtain ⟨u', r', q⟩ := hl j y v' e1 e2 e3
        refine ⟨u', r', ?_⟩
        rcases q with q | ⟨k, c', e, z'⟩
        · exact .inl q
        · refine .inr ⟨k, c', e, z'.sameBut hs ?_⟩
          rintro rfl
          exact hj (nodup_ix hN e1 (I.ok.inj _ _ _ e hc ▸ hi))
    · by_cases hcc : c' = c
      · subst hcc; exact ⟨_, hc'⟩
      · obtain ⟨w2, z2⟩ := I.cell y c' e
        exact ⟨w2, z2.sameBut hs hcc⟩
    · refine (I.freeC y c' e).imp id fun ⟨hf', o', ho', hno⟩ => ⟨hf', o', ho', fun z j v' e1 k e2 => ?_⟩
      by_cases hj : j = i
      · subst hj
        rw [hi] at e1; cases e1
        rw [hfn] at hf'; cases hf'
      · rw [List.getElem?_set_ne (Ne.symm hj)] at e2
        exact hno z j v' e1 k e2
    · obtain ⟨e, n, ne, nf, d⟩ := I.pin p hp
      refine ⟨(hs.2 p.1 ?_).trans e, n, ne, nf, d⟩
      intro q
      rw [q, hoc] at e
      have q' : oc = p.2 := Option.some.inj e
      exact d w' (by rw [← q']; exact hocd)
theorem store_ok {M : Model} {A : Around} {E : Value → Shared → Prop} {i : Nat} {x : Str} {v : V} {u : Value} {Q : Unit → Shared → Prop} (I : Inv X pins σ H s) (hN : X.N.Nodup) (hi : X.N[i]? = some x) (hx : Loc X.env.scope x) (r : RelV v u)
    (h : ∀ s', Inv X pins (σ.set i (some v)) H s' → Q () s') (hf : X.fn x = true ∨ X.env.scope.names.lookup x = some .local := by first | exact .inl rfl | exact .inr rfl | assumption) : wpAny M A (storeName X.env x u) Q E s :=
  store_ok2 I hN hi hx r (fun s' I' _ => h s' I') hf
/-  behind a call or a block, the state as it is -/
theorem Inv.call' {s' : Shared} {ch : List Addr} (I : Inv X pins σ H s) (ho : s'.os = s.os) (u : Un (frs X.stack) ch H H' s.heap s'.heap) (hok : HOk X.prog X.w H' s'.heap) (hg : AllBare s'.gens)
    (hch : ∀ b ∈ ch, (b ∈ X.ex ∨ X.s₀.heap.objs.size ≤ b) ∧ b ≠ X.env.locals ∧ (∀ x c, X.env.cells.lookup x = some c → c ≠ b) ∧ ∀ p ∈ X.pn ++ pins, p.1 ≠ b) : Inv X pins σ H' s' := by
  obtain ⟨h', g', d', t', o'⟩ := s'
  have e : o' = s.os := ho
  subst e
  exact I.call (g' := g') (t' := t') (d' := d') u hok hg hch
end

/-! ### the judgements -/
/-  an exception: its class, its own dict's address (where it has one), the abstract heap behind it -/
abbrev XK := Value → Option Addr → Hp → Prop
abbrev St := List (Option V)
abbrev VK := V → Hp → Prop
/-  an expression's reading; a test's; an argument list's -/
abbrev TE := St → Hp → VK → Prop
abbrev TT := St → Hp → (Bool → Hp → Prop) → Prop
abbrev TA := St → Hp → (List V → Hp → Prop) → Prop
/-  what is wanted behind a statement -/
structure Ends where
  nx : St → Hp → Prop
  rt : VK
  bk : St → Hp → Prop := fun _ _ => False
  ct : St → Hp → Prop := fun _ _ => False
abbrev TS := Ends → St → Hp → Prop

def EP (X : Cx) (pins : List (Addr × Obj)) (σ : St) (Q : VK) (u : Value) (s' : Shared) : Prop := ∃ v H', Inv X pins σ H' s' ∧ RelV v u ∧ Q v H'
def TP (X : Cx) (pins : List (Addr × Obj)) (σ : St) (Q : Bool → Hp → Prop) (b : Bool) (s' : Shared) : Prop := ∃ H', Inv X pins σ H' s' ∧ Q b H'
def AP (X : Cx) (pins : List (Addr × Obj)) (σ : St) (Q : List V → Hp → Prop) (us : List Value) (s' : Shared) : Prop := ∃ vs H', Inv X pins σ H' s' ∧ Vals vs us ∧ Q vs H'
def SP (X : Cx) (pins : List (Addr × Obj)) (D : Ends) (f : Flow) (s' : Shared) : Prop :=
  match f with
  | .next => ∃ σ' H', Inv X pins σ' H' s' ∧ D.nx σ' H'
  | .brk => ∃ σ' H', Inv X pins σ' H' s' ∧ D.bk σ' H'
  | .cont => ∃ σ' H', Inv X pins σ' H' s' ∧ D.ct σ' H'
  | .ret u => ∃ v σ' H', Inv X pins σ' H' s' ∧ RelV v u ∧ D.rt v H'

def PE (X : Cx) (e : Expr) (t : TE) : Prop :=
  ∀ (pins : List (Addr × Obj)) (s : Shared) (σ : St) (H : Hp) (Q : VK), Inv X pins σ H s → t σ H Q → wpAny (model X.prog X.w) X.A (eval e X.env) (EP X pins σ Q) X.xe s
def PT (X : Cx) (e : Expr) (t : TT) : Prop :=
  ∀ (pins : List (Addr × Obj)) (s : Shared) (σ : St) (H : Hp) (Q : Bool → Hp → Prop), Inv X pins σ H s → t σ H Q → wpAny (model X.prog X.w) X.A (isTrue e X.env (eval e X.env)) (TP X pins σ Q) X.xe s
/-  a test whatever its 'whole' is (and, or) -/
def PW (X : Cx) (e : Expr) (t : TT) : Prop :=
  ∀ (whole : Sem Value) (pins : List (Addr × Obj)) (s : Shared) (σ : St) (H : Hp) (Q : Bool → Hp → Prop), Inv X pins σ H s → t σ H Q → wpAny (model X.prog X.w) X.A (isTrue e X.env whole) (TP X pins σ Q) X.xe s
theorem PW.pt {X : Cx} {e : Expr} {t : TT} (h : PW X e t) : PT X e t := h _
/-  an argument list (no star), from the left -/
def PA (X : Cx) (es : List Expr) (t : TA) : Prop :=
  ∀ (pos : Pos) (pins : List (Addr × Obj)) (s : Shared) (σ : St) (H : Hp) (Q : List V → Hp → Prop), Inv X pins σ H s → t σ H Q → wpAny (model X.prog X.w) X.A (spliced (backTo pos (starEach es X.env))) (AP X pins σ Q) X.xe s
def PS (X : Cx) (st : Stmt) (t : TS) : Prop :=
  ∀ (pins : List (Addr × Obj)) (s : Shared) (σ : St) (H : Hp) (D : Ends), Inv X pins σ H s → t D σ H → wpAny (model X.prog X.w) X.A (exec st X.env) (SP X pins D) X.xe s
def PSs (X : Cx) (st : List Stmt) (t : TS) : Prop :=
  ∀ (pins : List (Addr × Obj)) (s : Shared) (σ : St) (H : Hp) (D : Ends), Inv X pins σ H s → t D σ H → wpAny (model X.prog X.w) X.A (execs st X.env) (SP X pins D) X.xe s
/-  weaken the end -/
theorem thn {α : Type} {t : Sem α} {Q Q' : α → Shared → Prop} {M : Model} {A : Around} {E : Value → Shared → Prop} {s : Shared} (h : wpAny M A t Q E s) (hQ : ∀ a s, Q a s → Q' a s) : wpAny M A t Q' E s := wpAny_mono h hQ fun _ _ x => x
end L2

namespace L2
open PySem PySem.Spec PyProof.Rows
section
variable {X : Cx}

/-  two expressions in a row -/
/-! ### names and constants -/
def tVar (i : Nat) : TE := fun σ H Q => ∃ v, σ[i]? = some (some v) ∧ Q v H
def tC (v : V) : TE := fun _ H Q => Q v H
theorem pe_var {i : Nat} {x : Str} {pos : Pos} (hN : X.N[i]? = some x) (hv : Vis X.env.scope x) (hd : (x == ("__debug__" : Str)) = false := by decide) (hcd : (x == ("__classdict__" : Str)) = false := by decide) : PE X (.Name x pos) (tVar i) := by
  intro pins s σ H Q I h
  obtain ⟨v, e, h⟩ := h
  obtain ⟨m, hn, hl⟩ := I.loc
  obtain ⟨u, r, l⟩ := hl i x v hN e hv
  have fin : EP X pins σ Q u s := ⟨v, H, I, r, h⟩
  rcases l with ⟨hk, hm⟩ | ⟨hk, c, hc, hcell⟩
  · exact wpAny_Name (wpAny_loadName_local I.ok.kind hk hn hm fin) hd
  · rcases hk with hk | hk
    · exact wpAny_Name (wpAny_loadName_cell I.ok.kind hk hc hcell fin) hd
    · exact wpAny_Name (wpAny_loadName_free I.ok.kind hk hc hcell fin hcd) hd
theorem pe_int {i j pos} : PE X (.Constant (.int i) j pos) (tC (.int i)) := fun _ _ _ H _ I h => wpAny_Constant_int ⟨.int i, H, I.tok _, ⟨_, rfl⟩, h⟩
theorem pe_bl {b j pos} : PE X (.Constant (.bool b) j pos) (tC (.bl b)) := fun _ _ _ H _ I h => Constant_bool ⟨.bl b, H, I, rfl, h⟩
theorem pe_str {x j pos} : PE X (.Constant (.str x) j pos) (tC (.str x)) := fun _ _ _ H _ I h => Calls.Constant_str ⟨.str x, H, I.tok _, ⟨_, rfl⟩, h⟩

/-  a global name of the def -/
def Gl (X : Cx) (x : Str) : Prop := X.env.kindOf x = some .globalImplicit
theorem ld_glob {E : Value → Shared → Prop} {pins : List (Addr × Obj)} {s : Shared} {σ : St} {H : Hp} {x : Str} {u : Value} {pos : Pos} {Q : Value → Shared → Prop} (I : Inv X pins σ H s) (hg : Gl X x) (hm : X.mg x = some u) (h : Q u s)
    (hd : (x == ("__debug__" : Str)) = false := by decide) : wpAny (model X.prog X.w) X.A (eval (.Name x pos) X.env) Q E s :=
  Calls.Name_function_global I.ok.kind hg (Calls.loadGlobal_global (by rw [I.ok.glob]; exact I.mod.glob.keeps I.bk) hm h) hd
theorem ld_blt {E : Value → Shared → Prop} {pins : List (Addr × Obj)} {s : Shared} {σ : St} {H : Hp} {x : Str} {u : Value} {pos : Pos} {Q : Value → Shared → Prop} (I : Inv X pins σ H s) (hg : Gl X x) (hm : X.mg x = none) (hv : bootBuiltins x = some u) (h : Q u s)
    (hn : x ≠ "__name__" := by decide) (hd : (x == ("__debug__" : Str)) = false := by decide) : wpAny (model X.prog X.w) X.A (eval (.Name x pos) X.env) Q E s := by
  obtain ⟨mb, h1, h2⟩ := I.mod.blt
  exact Calls.Name_function_global I.ok.kind hg (Calls.loadGlobal_builtin (by rw [I.ok.glob]; exact I.mod.glob.keeps I.bk) hm (by rw [I.ok.blt]; exact h1.keeps I.bk) ((h2 x hn).trans hv) h) hd
/-  a module's constant, a class, a function, as a value -/
theorem pe_bltn {x : Str} {v : V} {u : Value} {pos : Pos} (hg : Gl X x) (hm : X.mg x = none) (hv : bootBuiltins x = some u) (r : RelV v u) (hn : x ≠ "__name__" := by decide) (hd : (x == ("__debug__" : Str)) = false := by decide) : PE X (.Name x pos) (tC v) :=
  fun _ _ _ H _ I h => ld_blt I hg hm hv ⟨v, H, I, r, h⟩ hn hd

/-! ### arithmetic -/
/-  two ints -/
def t2I (ta tb : TE) (k : Int → Int → Hp → Prop) : St → Hp → Prop := fun σ H => ta σ H fun x H1 => tb σ H1 fun y H2 => ∃ i j, x = .int i ∧ y = .int j ∧ k i j H2
def tAdd (ta tb : TE) : TE := fun σ H Q => t2I ta tb (fun i j H2 => Q (.int (i + j)) H2) σ H
def tSub (ta tb : TE) : TE := fun σ H Q => t2I ta tb (fun i j H2 => Q (.int (i - j)) H2) σ H
/-  the left factor below 2^64 -/
def tMul (ta tb : TE) : TE := fun σ H Q => t2I ta tb (fun i j H2 => (-(2 ^ 64) < i ∧ i < 2 ^ 64) ∧ Q (.int (i * j)) H2) σ H
variable {a b : Expr} {ta tb : TE} {pos : Pos}
/-! ### comparisons -/
def PC (X : Cx) (op : CmpOp) (a b : Expr) (t : TE) : Prop :=
  ∀ (pins : List (Addr × Obj)) (s : Shared) (σ : St) (H : Hp) (Q : VK), Inv X pins σ H s → t σ H Q →
    wpAny (model X.prog X.w) X.A (eval a X.env) (fun v s₁ => wpAny (model X.prog X.w) X.A (eval b X.env) (fun u s₂ => wpAny (model X.prog X.w) X.A (compareOp op v u) (EP X pins σ Q) X.xe s₂) X.xe s₁) X.xe s
def tCmp (p : Int → Int → Bool) (ta tb : TE) : TE := fun σ H Q => t2I ta tb (fun i j H2 => Q (.bl (p i j)) H2) σ H
abbrev tLt : TE → TE → TE := tCmp fun i j => decide (i < j)
abbrev tLe : TE → TE → TE := tCmp fun i j => decide (i ≤ j)
abbrev tGt : TE → TE → TE := tCmp fun i j => decide (j < i)
abbrev tGe : TE → TE → TE := tCmp fun i j => decide (j ≤ i)
abbrev tEqI : TE → TE → TE := tCmp fun i j => decide (i = j)
abbrev tNeI : TE → TE → TE := tCmp fun i j => !decide (i = j)
/-  a comparison of two ints, by its rule -/
/-  is None -/
def tIsN (ta : TE) : TE := fun σ H Q => ta σ H fun x H1 => Q (.bl (decide (x = .non))) H1
def tNotN (ta : TE) : TE := fun σ H Q => ta σ H fun x H1 => Q (.bl (!decide (x = .non))) H1
/-  a comparison as a value, as a test -/
def tB (t : TE) : TT := fun σ H Q => t σ H fun x H1 => ∃ c, x = .bl c ∧ Q c H1
/-  an expression whose value is a bool, as a test -/
/-! ### and, or, not -/
variable {tA tB' : TT} {rest : List Expr}
def tAnd (t u : TT) : TT := fun σ H Q => t σ H fun c H1 => if c = true then u σ H1 Q else Q false H1
def tOr (t u : TT) : TT := fun σ H Q => t σ H fun c H1 => if c = true then Q true H1 else u σ H1 Q
def tNot (t : TT) : TT := fun σ H Q => t σ H fun c H1 => Q (!c) H1
theorem pw_and1 (ha : PT X a tA) : PW X (.BoolOp .And [a] pos) tA := by
  intro wh pins s σ H Q I h
  refine isTrue_and (thn (ha pins s σ H Q I h) fun c s1 e => ?_)
  cases c with
  | true => exact isTrue_and_nil e
  | false => exact e
theorem pw_or1 (ha : PT X a tA) : PW X (.BoolOp .Or [a] pos) tA := by
  intro wh pins s σ H Q I h
  refine isTrue_or (thn (ha pins s σ H Q I h) fun c s1 e => ?_)
  cases c with
  | false => exact isTrue_or_nil e
  | true => exact e
theorem pt_not (ha : PT X a tA) : PT X (.UnaryOp .Not a pos) (tNot tA) := by
  intro pins s σ H Q I h
  exact isTrue_not (ha pins s σ H (fun c H1 => Q (!c) H1) I h)
/-  .. as values (bools) -/
def tAndV (ta tb : TE) : TE := fun σ H Q => ta σ H fun x H1 => ∃ c, x = .bl c ∧ if c = true then tb σ H1 Q else Q (.bl false) H1
def tOrV (ta tb : TE) : TE := fun σ H Q => ta σ H fun x H1 => ∃ c, x = .bl c ∧ if c = true then Q (.bl true) H1 else tb σ H1 Q
def tNotV (ta : TE) : TE := fun σ H Q => ta σ H fun x H1 => ∃ c, x = .bl c ∧ Q (.bl (!c)) H1
theorem pe_one {op} {t : TE} (h : PE X a t) : PE X (.BoolOp op [a] pos) t := fun pins s σ H Q I hw => BoolOp_one (h pins s σ H Q I hw)
/-  a if t else b -/
def tIf (t : TT) (ta tb : TE) : TE := fun σ H Q => t σ H fun c H1 => if c = true then ta σ H1 Q else tb σ H1 Q
end
end L2

namespace L2
open PySem PySem.Spec PyProof.Rows

/-! ### a list, a tuple that is read: tracked, frozen, or an object of the module -/
def SqL (K : PySem.W.Frag) (H : Hp) (a : Addr) (xs : List V) : Prop :=
  Rd H a (.lst xs) ∨
    ∃ (o : Obj) (its : Array Value) (n : Nat), K.lookup a = some o ∧ o.cls = .type "list" ∧ o.dict = none ∧ o.data = .seq its n ∧ its.size ≤ sizeLine ∧ Vals xs its.toList
def SqT (K : PySem.W.Frag) (H : Hp) (a : Addr) (xs : List V) : Prop :=
  Rd H a (.tup xs) ∨
    ∃ (o : Obj) (its : Array Value) (n : Nat), K.lookup a = some o ∧ o.cls = .type "tuple" ∧ o.data = .seq its n ∧ its.size ≤ sizeLine ∧ Vals xs its.toList
def absV : Value → Option V
  | .none => some .non
  | .bool b => some (.bl b)
  | .int i _ => some (.int i)
  | .str x _ => some (.str x)
  | .bytes b _ => some (.byt b)
  | .float b _ => some (.flt b)
  | .ref a => some (.ref a)
  | .type n => some (.ty n)
  | _ => none
theorem RelV.abs {x : V} {u : Value} (r : RelV x u) : absV u = some x := by
  cases x with
  | non => cases r; rfl
  | bl _ => cases r; rfl
  | int _ => obtain ⟨t, rfl⟩ := r; rfl
  | str _ => obtain ⟨t, rfl⟩ := r; rfl
  | byt _ => obtain ⟨t, rfl⟩ := r; rfl
  | flt _ => obtain ⟨t, rfl⟩ := r; rfl
  | ref _ => cases r; rfl
  | ty _ => cases r; rfl
theorem RelV.inj {x y : V} {u : Value} (r : RelV x u) (q : RelV y u) : x = y := Option.some.inj (r.abs.symm.trans q.abs)
theorem Vals.inj : ∀ {xs ys : List V} {us : List Value}, Vals xs us → Vals ys us → xs = ys
  | _, _, _, .nil, .nil => rfl
  | _, _, _, .cons r t, .cons r' t' => by rw [r.inj r', Vals.inj t t']
section
variable {X : Cx} {pins : List (Addr × Obj)} {σ : St} {H : Hp} {s : Shared} {a : Addr} {xs ys : List V}
theorem SqL.of {K : PySem.W.Frag} (h : H a = some (.lst xs)) : SqL K H a xs := .inl (.inl h)
theorem SqT.of {K : PySem.W.Frag} (h : H a = some (.tup xs)) : SqT K H a xs := .inl (.inl h)
theorem Inv.list (I : Inv X pins σ H s) (h : SqL X.K H a xs) : ∃ its : List Value, Vals xs its ∧ PlainL s.heap a its.toArray ∧ xs.length ≤ sizeLine := by
  rcases h with h | ⟨o, its, n, hk, hc, hd, hs, hz, r⟩
  · obtain ⟨z, its, n, r, e⟩ := h.ok I.hok
    exact ⟨its, r, ⟨_, n, e, rfl, rfl, rfl⟩, z⟩
  · refine ⟨its.toList, r, ⟨o, n, I.kIn a o hk, hc, hd, by simpa using hs⟩, ?_⟩
    have e := r.length
    simp only [Array.length_toList] at e
    omega
theorem Inv.tuple (I : Inv X pins σ H s) (h : SqT X.K H a xs) : ∃ its : List Value, Vals xs its ∧ IsTup s.heap a its.toArray ∧ xs.length ≤ sizeLine := by
  rcases h with h | ⟨o, its, n, hk, hc, hs, hz, r⟩
  · obtain ⟨z, its, r, p⟩ := h.ok I.hok
    exact ⟨its, r, p, z⟩
  · refine ⟨its.toList, r, ⟨o, I.kIn a o hk, hc, n, by simpa using hs⟩, ?_⟩
    have e := r.length
    simp only [Array.length_toList] at e
    omega
theorem Inv.list_inj (I : Inv X pins σ H s) (h : SqL X.K H a xs) (h' : SqL X.K H a ys) : xs = ys := by
  obtain ⟨its, r, ⟨o, n, e, _, _, d⟩, _⟩ := I.list h
  obtain ⟨its', r', ⟨o', n', e', _, _, d'⟩, _⟩ := I.list h'
  rw [e] at e'; cases e'
  rw [d] at d'
  injection d' with d1 _
  have : its = its' := by simpa using congrArg Array.toList d1
  subst this
  exact r.inj r'
end

/-! ### another wish about exceptions -/
abbrev Cx.wish (X : Cx) (E : Value → Shared → Prop) : Cx := { X with xe := E }
/-  no exception leaves -/
abbrev Cx.nox (X : Cx) : Cx := X.wish fun _ _ => False
theorem Cx.Ok.wish {X : Cx} (ok : X.Ok) (E : Value → Shared → Prop) : (X.wish E).Ok :=
  ⟨ok.mod, ok.kind, ok.glob, ok.blt, ok.above, ok.inj, ok.has, ok.cab, ok.hd, ok.frames, ok.stk, ok.exf, ok.bs, ok.bsz, ok.noex, ok.exfs, ok.funs, ok.frf, ok.cab2, ok.hz⟩
theorem Cx.Ok.unwish {X : Cx} {E : Value → Shared → Prop} (ok : (X.wish E).Ok) : X.Ok :=
  ⟨ok.mod, ok.kind, ok.glob, ok.blt, ok.above, ok.inj, ok.has, ok.cab, ok.hd, ok.frames, ok.stk, ok.exf, ok.bs, ok.bsz, ok.noex, ok.exfs, ok.funs, ok.frf, ok.cab2, ok.hz⟩
section
variable {X : Cx} {pins : List (Addr × Obj)} {σ : St} {H : Hp} {s : Shared} {E : Value → Shared → Prop}
theorem Inv.wish (I : Inv X pins σ H s) (E : Value → Shared → Prop) : Inv (X.wish E) pins σ H s := ⟨I.ok.wish E, I.os, I.bare, I.base, I.loc, I.cell, I.free, I.freeC, I.pin, I.hok, I.len⟩
theorem Inv.unwish (I : Inv (X.wish E) pins σ H s) : Inv X pins σ H s := ⟨I.ok.unwish, I.os, I.bare, I.base, I.loc, I.cell, I.free, I.freeC, I.pin, I.hok, I.len⟩
theorem SP.unwish {D : Ends} {f : Flow} {s' : Shared} (h : SP (X.wish E) pins D f s') : SP X pins D f s' := by
  cases f with
  | next => obtain ⟨σ', H', I, q⟩ := h; exact ⟨σ', H', I.unwish, q⟩
  | brk => obtain ⟨σ', H', I, q⟩ := h; exact ⟨σ', H', I.unwish, q⟩
  | cont => obtain ⟨σ', H', I, q⟩ := h; exact ⟨σ', H', I.unwish, q⟩
  | ret u => obtain ⟨v, σ', H', I, r, q⟩ := h; exact ⟨v, σ', H', I.unwish, r, q⟩
theorem PSs.nox {st : List Stmt} {t : TS} (h : PSs X.nox st t) : PSs X st t := fun pins s σ H D I hw =>
  wpAny_mono (h pins s σ H D (I.wish _) hw) (fun _ _ q => q.unwish) fun _ _ z => False.elim z
end

/-! ### blocks and small statements -/
section
variable {X : Cx} {st : Stmt} {rest : List Stmt} {t u : TS} {e : Expr} {te : TE} {pos : Pos}
def tNext : TS := fun D σ H => D.nx σ H
def tSeq (t u : TS) : TS := fun D σ H => t { D with nx := u D } σ H
theorem pss_nil : PSs X [] tNext := fun _ _ σ H _ I h => wpAny_execs_nil ⟨σ, H, I, h⟩
theorem pss_cons (h1 : PS X st t) (h2 : PSs X rest u) : PSs X (st :: rest) (tSeq t u) := by
  intro pins s σ H D I h
  refine wpAny_execs_cons (thn (h1 pins s σ H { D with nx := u D } I h) fun f s1 q => ?_)
  cases f with
  | next =>
    obtain ⟨σ', H', I', q⟩ := q
    exact h2 pins s1 σ' H' D I' q
  | ret v => exact q
  | brk => exact q
  | cont => exact q
theorem pss_one (h1 : PS X st t) : PSs X [st] t := by
  intro pins s σ H D I h
  refine wpAny_execs_cons (thn (h1 pins s σ H D I h) fun f s1 q => ?_)
  cases f with
  | next => exact wpAny_execs_nil q
  | ret v => exact q
  | brk => exact q
  | cont => exact q
def tBreak : TS := fun D σ H => D.bk σ H
def tCont : TS := fun D σ H => D.ct σ H
/-  in a def's body nothing is shown -/
theorem Inv.quiet {pins : List (Addr × Obj)} {σ : St} {H : Hp} {s : Shared} (I : Inv X pins σ H s) : interactive X.env = false := by simp [interactive, I.ok.kind]
/-  a docstring -/
/-  an expression whose value is dropped -/
def tDrop (te : TE) : TS := fun D σ H => te σ H fun _ H1 => D.nx σ H1
theorem ps_expr (he : PE X e te) (hs : swapsWith e none pos.line X.env = pure false := by rfl) : PS X (.Expr e pos) (tDrop te) := by
  intro pins s σ H D I h
  exact wpAny_Expr_any (thn (he pins s σ H _ I h) fun v s1 ⟨x, H1, I1, r1, q1⟩ => ⟨σ, H1, I1, q1⟩) I.quiet hs
def tRet (te : TE) : TS := fun D σ H => te σ H D.rt
theorem ps_ret (he : PE X e te) : PS X (.Return (some e) pos) (tRet te) := by
  intro pins s σ H D I h
  exact wpAny_Return_some (thn (he pins s σ H _ I h) fun v s1 ⟨x, H1, I1, r1, q1⟩ => ⟨x, σ, H1, I1, r1, q1⟩)
def tRetN : TS := fun D _ H => D.rt .non H
def tIfS (c : TT) (t u : TS) : TS := fun D σ H => c σ H fun b H1 => if b = true then t D σ H1 else u D σ H1
/-  code that the proof never comes to -/
def tNever : TS := fun _ _ _ => False
end

/-! ### targets -/
abbrev TG := V → St → Hp → (St → Hp → Prop) → Prop
abbrev TGs := List V → St → Hp → (St → Hp → Prop) → Prop
def PG (X : Cx) (target : Expr) (t : TG) : Prop :=
  ∀ (pins : List (Addr × Obj)) (s : Shared) (σ : St) (H : Hp) (v : V) (u : Value) (Q : St → Hp → Prop), Inv X pins σ H s → RelV v u → t v σ H Q →
    wpAny (model X.prog X.w) X.A (assign target X.env u) (fun _ s' => ∃ σ' H', Inv X pins σ' H' s' ∧ Q σ' H') X.xe s
/-  several targets, one after another -/
def PGs (X : Cx) (ts : List Expr) (t : TGs) : Prop :=
  ∀ (pins : List (Addr × Obj)) (s : Shared) (σ : St) (H : Hp) (vs : List V) (us : List Value) (Q : St → Hp → Prop), Inv X pins σ H s → Vals vs us → t vs σ H Q →
    wpAny (model X.prog X.w) X.A (assignInOrder ((assignEach ts X.env).map (·.2)) us) (fun _ s' => ∃ σ' H', Inv X pins σ' H' s' ∧ Q σ' H') X.xe s
/-  o[i] = v, by values -/
abbrev TSet := V → V → V → Hp → (Hp → Prop) → Prop
def PSet (X : Cx) (t : TSet) : Prop :=
  ∀ (pins : List (Addr × Obj)) (s : Shared) (σ : St) (H : Hp) (o i v : V) (ov iv u : Value) (Q : Hp → Prop), Inv X pins σ H s → RelV o ov → RelV i iv → RelV v u → t o i v H Q →
    wpAny (model X.prog X.w) X.A (setItem ov iv u) (fun _ s' => ∃ H', Inv X pins σ H' s' ∧ Q H') X.xe s
/-  a op= b, by values -/
abbrev TIp := V → V → Hp → VK → Prop
def PIp (X : Cx) (op : Operator) (t : TIp) : Prop :=
  ∀ (pins : List (Addr × Obj)) (s : Shared) (σ : St) (H : Hp) (x y : V) (v u : Value) (Q : VK), Inv X pins σ H s → RelV x v → RelV y u → t x y H Q →
    wpAny (model X.prog X.w) X.A (inplaceOp op v u) (EP X pins σ Q) X.xe s
section
variable {X : Cx} {pos : Pos}
def gName (i : Nat) : TG := fun v σ H Q => Q (σ.set i (some v)) H
theorem pg_name {i : Nat} {x : Str} (hN : X.N.Nodup) (hi : X.N[i]? = some x) (hx : Loc X.env.scope x) (hf : X.fn x = true ∨ X.env.scope.names.lookup x = some .local := by first | exact .inl rfl | exact .inr rfl | assumption) : PG X (.Name x pos) (gName i) := by
  intro pins s σ H v u Q I r h
  exact wpAny_assign_Name (store_ok I hN hi hx r (fun s' I' => ⟨_, H, I', h⟩) hf)
def gNil : TGs := fun vs σ H Q => vs = [] ∧ Q σ H
def gCons (t : TG) (u : TGs) : TGs := fun vs σ H Q => ∃ v r, vs = v :: r ∧ t v σ H fun σ' H' => u r σ' H' Q
/-  (a, b, ..) = a tuple of that length -/
def gTup (K : PySem.W.Frag) (n : Nat) (t : TGs) : TG := fun v σ H Q => ∃ a xs, v = .ref a ∧ SqT K H a xs ∧ xs.length = n ∧ t xs σ H Q
/-  o[i] = .. -/
def gSub (to ti : TE) (t : TSet) : TG := fun v σ H Q => to σ H fun o H1 => ti σ H1 fun i H2 => t o i v H2 fun H3 => Q σ H3
/-  target = value -/
def tAsg (te : TE) (g : TG) : TS := fun D σ H => te σ H fun x H1 => g x σ H1 D.nx
/-  name = value -/
theorem ps_set {i : Nat} {x : Str} {e : Expr} {te : TE} {pos' : Pos} (hN : X.N.Nodup) (hi : X.N[i]? = some x) (hx : Loc X.env.scope x) (he : PE X e te) (hs : swapsWith e (some (.Name x pos')) pos.line X.env = pure false := by rfl) (hf : X.fn x = true ∨ X.env.scope.names.lookup x = some .local := by first | exact .inl rfl | exact .inr rfl | assumption) :
    PS X (.Assign [.Name x pos'] e pos) (tAsg te (gName i)) := by
  intro pins s σ H D I h
  refine wpAny_Assign_Name (thn (he pins s σ H _ I h) fun v s1 ⟨y, H1, I1, r1, q1⟩ => ?_) hs
  exact store_ok I1 hN hi hx r1 (fun s2 I2 => ⟨_, H1, I2, q1⟩) hf
/-  a, b = x, y with plain local names: stored from the right; the pair itself is not tracked (the opening rows as in PyProof/Rows/TupAssign.lean:23) -/
def tPar (i j : Nat) (ta : TA) : TS := fun D σ H => ta σ H fun vs H1 => ∃ v w, vs = [v, w] ∧ D.nx ((σ.set i (some v)).set j (some w)) H1
/-  name op= e -/
def tAug (i : Nat) (te : TE) (ti : TIp) : TS := fun D σ H => ∃ x, σ[i]? = some (some x) ∧ te σ H fun y H1 => ti x y H1 fun z H2 => D.nx (σ.set i (some z)) H2
/-  o[i] op= e -/
def tAugS (to ti te : TE) (tget : V → V → Hp → VK → Prop) (tip : TIp) (tset : TSet) : TS := fun D σ H => to σ H fun o H1 => ti σ H1 fun i H2 => tget o i H2 fun x H3 => te σ H3 fun y H4 => tip x y H4 fun z H5 => tset o i z H5 fun H6 => D.nx σ H6
/-  o[i], by values -/
def PGet (X : Cx) (t : V → V → Hp → VK → Prop) : Prop :=
  ∀ (pins : List (Addr × Obj)) (s : Shared) (σ : St) (H : Hp) (o i : V) (ov iv : Value) (Q : VK), Inv X pins σ H s → RelV o ov → RelV i iv → t o i H Q →
    wpAny (model X.prog X.w) X.A (getItem ov iv) (EP X pins σ Q) X.xe s
/-  ints -/
def ipI (f : Int → Int → Int) : TIp := fun x y H Q => ∃ i j, x = .int i ∧ y = .int j ∧ Q (.int (f i j)) H
end

/-! ### while -/
section
variable {X : Cx} {pos : Pos}
/-  the invariant W with its measure -/
def tWhile (c : TT) (tb : TS) : TS := fun D σ H => ∃ W : Nat → St → Hp → Prop, (∃ m, W m σ H) ∧ ∀ m σ H, W m σ H →
  c σ H fun b H1 => if b = true then ∃ N : St → Hp → Prop, (∀ σ' H', N σ' H' → ∃ m', m' < m ∧ W m' σ' H') ∧ tb { D with nx := N, ct := N, bk := D.nx } σ H1 else D.nx σ H1
end

/-! ### what a loop or a comprehension walks -/
/-  at turn i: it yields x (the heap may grow), or it stops -/
structure It where
  go : Nat → Hp → Prop
  yld : Nat → Hp → V → Hp → Prop
  stop : Nat → Hp → Prop
/-  the iterator's own objects may turn: they are not the frame's, not pinned, younger than the entry (or a comprehension's own) -/
def FpOk (X : Cx) (pins : List (Addr × Obj)) (H : Hp) (b : Addr) : Prop :=
  H b = none ∧ b ≠ X.env.locals ∧ b ∉ X.fs ∧ (b ∈ X.ex ∨ X.s₀.heap.objs.size ≤ b) ∧ (∀ x c, X.env.cells.lookup x = some c → c ≠ b) ∧ ∀ p ∈ X.pn ++ pins, p.1 ≠ b
theorem Inv.fpOk {X : Cx} {pins : List (Addr × Obj)} {σ : St} {H H' : Hp} {s : Shared} {b : Addr} (I : Inv X pins σ H s) (hb : s.heap.objs.size ≤ b) (hn : H' b = none) : FpOk X pins H' b := by
  refine ⟨hn, Nat.ne_of_gt (Nat.lt_of_lt_of_le I.lt hb), I.nofs hb, .inr (Nat.le_trans I.sz hb), fun x c e z => ?_, fun p hp z => ?_⟩
  · obtain ⟨v, q⟩ := I.cell x c e
    exact absurd (Nat.lt_of_lt_of_le q.lt (by rw [z]; exact hb)) (Nat.lt_irrefl _)
  · exact absurd (Nat.lt_of_lt_of_le (Heap.lt_size (I.pin p hp).1) (by rw [z]; exact hb)) (Nat.lt_irrefl _)
structure Turn (P : Program) (w : World) (K : PySem.W.Frag) (tg : Expr) (J : It) (fp : List Addr) (it : Addr) (tn : Nat → Heap → Prop) : Prop where
  mem : it ∈ fp
  obj : ∀ i h, tn i h → ∀ b ∈ fp, ∃ o, h.get? b = some o ∧ ∀ v, o.data ≠ .cell v
  keep : ∀ i h h', tn i h → (∀ b ∈ fp, ∀ o, h.get? b = some o → h'.get? b = some o) → tn i h'
  item : ∀ (X : Cx), X.prog = P → X.w = w → X.K = K → X.calm = true → ∀ (i : Nat) (pins : List (Addr × Obj)) (s : Shared) (σ : St) (H : Hp) (E : Value → Shared → Prop), Inv X pins σ H s → (∀ b ∈ fp, FpOk X pins H b) → tn i s.heap → J.go i H →
    wpAny (model P w) X.A (pyNext (.ref it)) (fun r s1 => ∃ u, r = some u ∧
      wpAny (model P w) X.A (letOwnedTupleGo tg (.ref it) u) (fun _ s2 => ∃ x H', Inv X pins σ H' s2 ∧ RelV x u ∧ J.yld i H x H' ∧ tn (i + 1) s2.heap ∧ ∀ b ∈ fp, H' b = none) E s1) E s
  done : ∀ (X : Cx), X.prog = P → X.w = w → X.K = K → X.calm = true → ∀ (i : Nat) (pins : List (Addr × Obj)) (s : Shared) (σ : St) (H : Hp) (E : Value → Shared → Prop), Inv X pins σ H s → (∀ b ∈ fp, FpOk X pins H b) → tn i s.heap → J.stop i H →
    wpAny (model P w) X.A (pyNext (.ref it)) (fun r s1 => r = none ∧ Inv X pins σ H s1) E s
  self : ∀ (A : Around) (i : Nat) (s : Shared) (Q : Value → Shared → Prop) (E : Value → Shared → Prop), tn i s.heap → Q (.ref it) s → wpAny (model P w) A (pyIter (.ref it)) Q E s
abbrev TI := St → Hp → (It → Hp → Prop) → Prop
/-  an iterator has come -/
def PIE (X : Cx) (pins : List (Addr × Obj)) (σ : St) (tg : Expr) (R : It → Hp → Prop) (itv : Value) (s2 : Shared) : Prop :=
  ∃ (it : Addr) (fp : List Addr) (tn : Nat → Heap → Prop) (J : It) (H' : Hp), itv = .ref it ∧ Inv X pins σ H' s2 ∧ Turn X.prog X.w X.K tg J fp it tn ∧ tn 0 s2.heap ∧ (∀ b ∈ fp, FpOk X pins H' b) ∧ R J H'
def PI (X : Cx) (tg iter : Expr) (wi : TI) : Prop :=
  ∀ (pins : List (Addr × Obj)) (s : Shared) (σ : St) (H : Hp) (R : It → Hp → Prop), Inv X pins σ H s → wi σ H R →
    wpAny (model X.prog X.w) X.A (eval iter X.env) (fun v s1 => wpAny (model X.prog X.w) X.A (pyIter v) (PIE X pins σ tg R) X.xe s1) X.xe s

/-  the step ahead of the store is nothing for an iterator that keeps no tuple -/
theorem go_of {M : Model} {A : Around} {E : Value → Shared → Prop} {s : Shared} {tg : Expr} {it : Addr} {u : Value} {o : Obj} {n : String} {vs : Array Value} {Q : Unit → Shared → Prop} (ho : s.heap.get? it = some o) (hc : o.cls = .type n) (hd : o.data = .fields vs)
    (hn : ["enumerate", "zip", "dict_itemiterator", "dict_reverseitemiterator", "odict_iterator", "itertools.zip_longest", "itertools.pairwise"].contains n = false) (hQ : Q () s) : wpAny M A (letOwnedTupleGo tg (.ref it) u) Q E s := by
  unfold letOwnedTupleGo
  cases tg <;> first
    | exact wpAny_pure hQ
    | (cases u <;> first
        | exact wpAny_pure hQ
        | (refine wpAny_bind (wpAny_load ho ?_)
           rw [hc, hd]
           show wpAny M A (if (["enumerate", "zip", "dict_itemiterator", "dict_reverseitemiterator", "odict_iterator", "itertools.zip_longest", "itertools.pairwise"].contains n && vs[0]? == some (rawInt _)) = true then _ else _) Q E s
           rw [if_neg (by intro h; rw [hn, Bool.false_and] at h; cases h)]
           exact wpAny_pure hQ))

/-  the list at a, as it stands at each turn (a loop may append to it) -/
def Itl (K : PySem.W.Frag) (a : Addr) : It :=
  ⟨fun i H => ∃ xs x, SqL K H a xs ∧ xs[i]? = some x, fun i H x H' => H' = H ∧ ∀ xs, SqL K H a xs → xs[i]? = some x, fun i H => ∃ xs, SqL K H a xs ∧ xs.length ≤ i⟩
def Itt (K : PySem.W.Frag) (a : Addr) : It :=
  ⟨fun i H => ∃ xs x, SqT K H a xs ∧ xs[i]? = some x, fun i H x H' => H' = H ∧ ∀ xs, SqT K H a xs → xs[i]? = some x, fun i H => ∃ xs, SqT K H a xs ∧ xs.length ≤ i⟩
/-  lo, lo + 1, .. (n of them) -/
def Itr (lo : Int) (n : Nat) : It := ⟨fun i _ => i < n, fun i H x H' => H' = H ∧ x = .int (lo + i), fun i _ => n ≤ i⟩
theorem turn_list {P : Program} {w : World} {K : PySem.W.Frag} {tg : Expr} (a it : Addr) : Turn P w K tg (Itl K a) [it] it (fun i h => h.IsListIter it a i) where
  mem := by simp
  obj := fun i h st b hb => by
    have e : b = it := by simpa using hb
    subst e
    obtain ⟨o, e, c, d⟩ := st
    exact ⟨o, e, fun v z => by rw [d] at z; cases z⟩
  keep := fun i h h' st k => st.at fun o e => k it (by simp) o e
  item := by
    intro X hP hw hK hc i pins s σ H E I hf st hg
    subst hP hw hK
    obtain ⟨xs, x, hq, hx⟩ := hg
    obtain ⟨its, rv, p, hz⟩ := I.list hq
    obtain ⟨u, hu, ru⟩ := rv.get hx
    obtain ⟨f0, f1, f2, f3, f4, f5⟩ := hf it (by simp)
    refine wpAny_pyNext_list_item st p.isList (x := u) (by simpa using hu) fun h' st' sb => ?_
    have I1 : Inv X pins σ H { s with heap := h' } := I.turned (t' := s.toks) (fun b o hb e => (sb.2 b hb).trans e) f0 f1 f3 f4 f5
    obtain ⟨o, e, c, d⟩ := id st'
    exact ⟨u, rfl, go_of (s := { s with heap := h' }) e c d (by decide) ⟨x, H, I1, ru, ⟨rfl, fun ys hy => by rw [I.list_inj hy hq]; exact hx⟩, st', fun b hb => (hf b hb).1⟩⟩
  done := by
    intro X hP hw hK hc i pins s σ H E I hf st hg
    subst hP hw hK
    obtain ⟨xs, hq, hx⟩ := hg
    obtain ⟨its, rv, p, hz⟩ := I.list hq
    obtain ⟨f0, f1, f2, f3, f4, f5⟩ := hf it (by simp)
    have hl := rv.length
    exact wpAny_pyNext_list_end (I.ok.hd hc) st p.isList (by simp; omega) fun h' eb => ⟨rfl, I.turned (t' := s.toks) (fun b o hb e => eb b o hb e) f0 f1 f3 f4 f5⟩
  self := fun _ _ _ _ _ st h => wpAny_pyIter_listiter st h
end L2

namespace L2
open PySem PySem.Spec PyProof.Rows
section
variable {X : Cx} {tg : Expr}
def iList (K : PySem.W.Frag) (tl : TE) : TI := fun σ H R => tl σ H fun x H1 => ∃ a, x = .ref a ∧ (∃ xs, SqL K H1 a xs) ∧ R (Itl K a) H1
def iTup (K : PySem.W.Frag) (tl : TE) : TI := fun σ H R => tl σ H fun x H1 => ∃ a, x = .ref a ∧ (∃ xs, SqT K H1 a xs) ∧ R (Itt K a) H1
theorem pi_list {l : Expr} {tl : TE} (hl : PE X l tl) : PI X tg l (iList X.K tl) := by
  intro pins s σ H R I h
  refine thn (hl pins s σ H _ I h) fun v s1 ⟨x, H1, I1, r1, q1⟩ => ?_
  obtain ⟨a, e, ⟨xs, hq⟩, q⟩ := q1
  subst e
  cases r1
  obtain ⟨its, rv, p, hz⟩ := I1.list hq
  refine wpAny_pyIter_list p.isList ?_
  refine ⟨s1.heap.objs.size, [s1.heap.objs.size], _, _, H1, rfl, I1.kept (t' := s1.toks) fun b o e => Heap.get?_push_of_some _ e, turn_list a _, ⟨_, Heap.get?_push_size _ rfl, rfl, rfl⟩, fun b hb => ?_, q⟩
  have e : b = s1.heap.objs.size := by simpa using hb
  subst e
  exact I1.fpOk (Nat.le_refl _) (I1.hok.fresh (Nat.le_refl _))
/-  a range object just made, walked -/
def iRng1 (ta : TA) : TI := fun σ H R => ta σ H fun vs H1 => ∃ j : Int, vs = [.int j] ∧ -(2 ^ 62) ≤ j ∧ j < 2 ^ 62 ∧ R (Itr 0 j.toNat) H1
def iRng2 (ta : TA) : TI := fun σ H R => ta σ H fun vs H1 => ∃ i j : Int, vs = [.int i, .int j] ∧ (-(2 ^ 62) ≤ i ∧ i < 2 ^ 62 ∧ -(2 ^ 62) ≤ j ∧ j < 2 ^ 62) ∧ R (Itr i (j - i).toNat) H1
/-! ### for -/
/-  W: the invariant by the turn and a measure; N: what the body is to reach -/
def tFor (wi : TI) (g : TG) (tb : TS) : TS := fun D σ H => wi σ H fun J H1 => ∃ W : Nat → Nat → St → Hp → Prop, (∃ m, W 0 m σ H1) ∧ ∀ i m σ H, W i m σ H →
  (J.stop i H ∧ D.nx σ H) ∨ (J.go i H ∧ ∃ N : St → Hp → Prop, (∀ σ' H', N σ' H' → ∃ m', m' < m ∧ W (i + 1) m' σ' H') ∧ ∀ x H', J.yld i H x H' → g x σ H' fun σ2 H2 => tb { D with nx := N, ct := N, bk := D.nx } σ2 H2)
/-  the records at fp as they stand -/
def pinsAt (fp : List Addr) (h : Heap) : List (Addr × Obj) := fp.filterMap fun b => (h.get? b).map fun o => (b, o)
theorem mem_pinsAt {fp : List Addr} {h : Heap} {b : Addr} {o : Obj} (hb : b ∈ fp) (e : h.get? b = some o) : (b, o) ∈ pinsAt fp h := List.mem_filterMap.mpr ⟨b, hb, by rw [e]; rfl⟩
theorem of_pinsAt {fp : List Addr} {h : Heap} {p : Addr × Obj} (hp : p ∈ pinsAt fp h) : p.1 ∈ fp ∧ h.get? p.1 = some p.2 := by
  obtain ⟨b, hb, e⟩ := List.mem_filterMap.mp hp
  cases q : h.get? b with
  | none => rw [q] at e; cases e
  | some o =>
    rw [q] at e
    have e' : (b, o) = p := Option.some.inj e
    subst e'
    exact ⟨hb, q⟩
theorem Inv.pinned {pins : List (Addr × Obj)} {σ : St} {H : Hp} {s : Shared} {fp : List Addr} (I : Inv X pins σ H s) (hf : ∀ b ∈ fp, FpOk X pins H b) (ho : ∀ b ∈ fp, ∃ o, s.heap.get? b = some o ∧ ∀ v, o.data ≠ .cell v) : Inv X (pins ++ pinsAt fp s.heap) σ H s :=
  I.pins_of fun p hp => (List.mem_append.mp hp).elim (fun z => I.pin p (List.mem_append_right _ z)) fun z => by
    obtain ⟨hb, e⟩ := of_pinsAt z
    obtain ⟨f0, f1, f2, _⟩ := hf p.1 hb
    obtain ⟨o, e', d⟩ := ho p.1 hb
    rw [e] at e'; cases e'
    exact ⟨e, f0, f1, f2, d⟩
theorem Inv.unpinned {pins pl : List (Addr × Obj)} {σ : St} {H : Hp} {s : Shared} (I : Inv X (pins ++ pl) σ H s) : Inv X pins σ H s := I.pins_of fun p hp => I.pin p (List.mem_append_right _ (List.mem_append_left _ hp))
theorem ps_for {iter : Expr} {body : List Stmt} {wi : TI} {g : TG} {tb : TS} {pos : Pos} (hp : PassesOwn (model X.prog X.w) X.A X.env X.xe) (hc : X.calm = true) (hi : PI X tg iter wi) (hg : PG X tg g) (hb : PSs X body tb)
    (hs : ∀ x, foldedSetIterable iter X.env x = pure x := by intro _; rfl) : PS X (.For tg iter body [] pos) (tFor wi g tb) := by
  intro pins s σ H D I h
  refine wpAny_For (thn (hi pins s σ H _ I h) fun v s1 h1 => thn h1 fun itv s2 h2 => ?_) hs
  obtain ⟨it, fp, tn, J, H2, e, I2, T, st2, f2, W, ⟨m0, w0⟩, turn⟩ := h2
  subst e
  -- what stays true of the iterator's objects through the loop
  have stat : ∀ {H' : Hp}, (∀ b ∈ fp, H' b = none) → ∀ b ∈ fp, FpOk X pins H' b := fun hn b hb => ⟨hn b hb, (f2 b hb).2⟩
  refine codeAny_forLoop_any (fun n s' => ∃ i σ' H', Inv X pins σ' H' s' ∧ tn i s'.heap ∧ (∀ b ∈ fp, H' b = none) ∧ W i n σ' H') ?_ m0 ⟨0, σ, H2, I2, st2, fun b hb => (f2 b hb).1, w0⟩
  rintro n s3 ⟨i, σ3, H3, I3, st3, fr3, w3⟩
  rcases turn i n σ3 H3 w3 with ⟨stop, qn⟩ | ⟨go, N, hN, step⟩
  · refine wpAny_passesOwn hp (thn (T.done X rfl rfl rfl hc i pins s3 σ3 H3 X.xe I3 (stat fr3) st3 stop) fun r s4 ⟨hr, I4⟩ => ?_)
    subst hr
    exact wpAny_execs_nil ⟨σ3, H3, I4, qn⟩
  · refine wpAny_passesOwn hp (thn (T.item X rfl rfl rfl hc i pins s3 σ3 H3 X.xe I3 (stat fr3) st3 go) fun r s4 ⟨u, hr, h4⟩ => ?_)
    subst hr
    refine wpAny_passesOwn hp (thn h4 fun _ s5 ⟨x, H5, I5, r5, y5, st5, fr5⟩ => ?_)
    have I5' := I5.pinned (stat fr5) (T.obj _ _ st5)
    refine wpAny_passesOwn hp (thn (hg _ s5 σ3 H5 x u _ I5' r5 (step x H5 y5)) fun _ s6 ⟨σ6, H6, I6, q6⟩ => ?_)
    refine wpAny_passesOwn hp (thn (hb _ s6 σ6 H6 _ I6 q6) fun f s7 q7 => ?_)
    have again : ∀ {σ7 : St} {H7 : Hp}, Inv X (pins ++ pinsAt fp s5.heap) σ7 H7 s7 → N σ7 H7 → ∃ m, m < n ∧ ∃ i σ' H', Inv X pins σ' H' s7 ∧ tn i s7.heap ∧ (∀ b ∈ fp, H' b = none) ∧ W i m σ' H' := fun {σ7 H7} I7 n7 => by
      obtain ⟨m', hm, w7⟩ := hN σ7 H7 n7
      refine ⟨m', hm, i + 1, σ7, H7, I7.unpinned, T.keep _ _ _ st5 fun b hb o e => (I7.pin (b, o) (List.mem_append_right _ (List.mem_append_right _ (mem_pinsAt hb e)))).1, fun b hb => ?_, w7⟩
      obtain ⟨o, e, d⟩ := T.obj _ _ st5 b hb
      exact (I7.pin (b, o) (List.mem_append_right _ (List.mem_append_right _ (mem_pinsAt hb e)))).2.1
    cases f with
    | next => obtain ⟨σ7, H7, I7, n7⟩ := q7; exact again I7 n7
    | cont => obtain ⟨σ7, H7, I7, n7⟩ := q7; exact again I7 n7
    | brk => obtain ⟨σ7, H7, I7, q7⟩ := q7; exact ⟨σ7, H7, I7.unpinned, q7⟩
    | ret v => obtain ⟨x7, σ7, H7, I7, r7, q7⟩ := q7; exact ⟨x7, σ7, H7, I7.unpinned, r7, q7⟩
end

/-! ### the forms one uses -/
/-  over a list that the body leaves as it is -/
theorem for_list {K : PySem.W.Frag} {a : Addr} {xs : List V} {g : TG} {tb : TS} {D : Ends} {σ : St} {H : Hp} (Pv : Nat → St → Hp → Prop) (h0 : Pv 0 σ H) (hl : ∀ i σ H, i ≤ xs.length → Pv i σ H → SqL K H a xs)
    (hs : ∀ i x σ H, xs[i]? = some x → Pv i σ H → g x σ H fun σ2 H2 => tb { D with nx := Pv (i + 1), ct := Pv (i + 1), bk := D.nx } σ2 H2) (hd : ∀ σ H, Pv xs.length σ H → D.nx σ H) :
    ∃ W : Nat → Nat → St → Hp → Prop, (∃ m, W 0 m σ H) ∧ ∀ i m σ H, W i m σ H →
      ((Itl K a).stop i H ∧ D.nx σ H) ∨ ((Itl K a).go i H ∧ ∃ N : St → Hp → Prop, (∀ σ' H', N σ' H' → ∃ m', m' < m ∧ W (i + 1) m' σ' H') ∧ ∀ x H', (Itl K a).yld i H x H' → g x σ H' fun σ2 H2 => tb { D with nx := N, ct := N, bk := D.nx } σ2 H2) := by
  refine ⟨fun i m σ H => m = xs.length - i ∧ i ≤ xs.length ∧ Pv i σ H, ⟨xs.length, by simp, Nat.zero_le _, h0⟩, ?_⟩
  rintro i m σ H ⟨rfl, hi, p⟩
  have q := hl i σ H hi p
  by_cases hlt : i < xs.length
  · refine .inr ⟨⟨xs, xs[i], q, by simp [hlt]⟩, Pv (i + 1), fun σ' H' p' => ⟨xs.length - (i + 1), by omega, rfl, hlt, p'⟩, fun x H' y => ?_⟩
    obtain ⟨e, y⟩ := y
    subst e
    exact hs i x σ _ (y xs q) p
  · have e : i = xs.length := by omega
    subst e
    exact .inl ⟨⟨xs, q, Nat.le_refl _⟩, hd σ H p⟩
/-  while, by a word and a measure of the state -/
end L2

namespace L2
open PySem PySem.Spec PyProof.Rows

abbrev R2 := V → V → Hp → VK → Prop
/-  a two-place operation on values: f is binaryOp op, inplaceOp op or compareOp op -/
def OpR (X : Cx) (f : Value → Value → Sem Value) (r : R2) : Prop :=
  ∀ (pins : List (Addr × Obj)) (s : Shared) (σ : St) (H : Hp) (x y : V) (v u : Value) (Q : VK), Inv X pins σ H s → RelV x v → RelV y u → r x y H Q →
    wpAny (model X.prog X.w) X.A (f v u) (EP X pins σ Q) X.xe s
/-  a one-place operation -/
def UnR (X : Cx) (f : Value → Sem Value) (r : V → Hp → VK → Prop) : Prop :=
  ∀ (pins : List (Addr × Obj)) (s : Shared) (σ : St) (H : Hp) (x : V) (v : Value) (Q : VK), Inv X pins σ H s → RelV x v → r x H Q →
    wpAny (model X.prog X.w) X.A (f v) (EP X pins σ Q) X.xe s
/-  a call of a value that is known (a builtin, a type) with values -/
def CallR (X : Cx) (f : Value) (r : List V → Hp → VK → Prop) : Prop :=
  ∀ (pins : List (Addr × Obj)) (s : Shared) (σ : St) (H : Hp) (xs : List V) (us : List Value) (Q : VK), Inv X pins σ H s → Vals xs us → r xs H Q →
    wpAny (model X.prog X.w) X.A (call f us) (EP X pins σ Q) X.xe s
/-  a value's truth -/
def TruR (X : Cx) (r : V → Hp → (Bool → Hp → Prop) → Prop) : Prop :=
  ∀ (pins : List (Addr × Obj)) (s : Shared) (σ : St) (H : Hp) (x : V) (v : Value) (Q : Bool → Hp → Prop), Inv X pins σ H s → RelV x v → r x H Q →
    wpAny (model X.prog X.w) X.A (truthy v) (TP X pins σ Q) X.xe s

def tOp (r : R2) (ta tb : TE) : TE := fun σ H Q => ta σ H fun x H1 => tb σ H1 fun y H2 => r x y H2 Q
def tUn (r : V → Hp → VK → Prop) (ta : TE) : TE := fun σ H Q => ta σ H fun x H1 => r x H1 Q
/-  ints in, under C, and a value out -/
def rI (C : Int → Int → Prop) (g : Int → Int → V) : R2 := fun x y H Q => ∃ i j, x = .int i ∧ y = .int j ∧ C i j ∧ Q (g i j) H
def rI0 (g : Int → Int → V) : R2 := fun x y H Q => ∃ i j, x = .int i ∧ y = .int j ∧ Q (g i j) H
def rU (g : Int → V) : V → Hp → VK → Prop := fun x H Q => ∃ i, x = .int i ∧ Q (g i) H

section
variable {X : Cx} {a b c : Expr} {ta tb tc : TE} {pos : Pos}

theorem binT (ha : PE X a ta) (hb : PE X b tb) {pins : List (Addr × Obj)} {s : Shared} {σ : St} {H : Hp} {R : V → V → Hp → Prop} (I : Inv X pins σ H s)
    (h : ta σ H fun x H1 => tb σ H1 fun y H2 => R x y H2) {Q : Value → Shared → Prop} {f : Value → Value → Sem Value}
    (hf : ∀ v u s2 x y H2, Inv X pins σ H2 s2 → RelV x v → RelV y u → R x y H2 → wpAny (model X.prog X.w) X.A (f v u) Q X.xe s2) :
    wpAny (model X.prog X.w) X.A (eval a X.env) (fun v s₁ => wpAny (model X.prog X.w) X.A (eval b X.env) (fun u s₂ => wpAny (model X.prog X.w) X.A (f v u) Q X.xe s₂) X.xe s₁) X.xe s := by
  refine thn (ha pins s σ H _ I h) fun v s1 ⟨x, H1, I1, r1, q1⟩ => ?_
  refine thn (hb pins s1 σ H1 _ I1 q1) fun u s2 ⟨y, H2, I2, r2, q2⟩ => ?_
  exact hf v u s2 x y H2 I2 r1 r2 q2

theorem pe_op {op : Operator} {r : R2} (ho : OpR X (binaryOp op) r) (ha : PE X a ta) (hb : PE X b tb) : PE X (.BinOp a op b pos) (tOp r ta tb) := by
  intro pins s σ H Q I h
  exact wpAny_BinOp (binT ha hb I h fun v u s2 x y H2 I2 rx ry q => ho pins s2 σ H2 x y v u Q I2 rx ry q)
theorem pe_un {op : UnaryOp} {r : V → Hp → VK → Prop} (ho : UnR X (unaryOp op) r) (ha : PE X a ta) : PE X (.UnaryOp op a pos) (tUn r ta) := by
  intro pins s σ H Q I h
  exact UnaryOp_ (thn (ha pins s σ H _ I h) fun v s1 ⟨x, H1, I1, r1, q1⟩ => ho pins s1 σ H1 x v Q I1 r1 q1)
/-  a op= e at a name: the name's slot i -/
/-! ### ints -/
theorem opI {f : Value → Value → Sem Value} {C : Int → Int → Prop} {g : Int → Int → Int}
    (rule : ∀ (i j : Int) (t u : Tok) (s : Shared) (Q : Value → Shared → Prop) (E : Value → Shared → Prop), C i j → Q (.int (g i j) s.toks) { s with toks := s.toks + 1 } → wpAny (model X.prog X.w) X.A (f (.int i t) (.int j u)) Q E s) :
    OpR X f (rI C fun i j => .int (g i j)) := by
  intro pins s σ H x y v u Q I rx ry h
  obtain ⟨i, j, rfl, rfl, hc, q⟩ := h
  obtain ⟨t, rfl⟩ := rx
  obtain ⟨t', rfl⟩ := ry
  exact rule i j t t' s _ _ hc ⟨.int (g i j), H, I.tok _, ⟨_, rfl⟩, q⟩
theorem opI0 {f : Value → Value → Sem Value} {g : Int → Int → Int}
    (rule : ∀ (i j : Int) (t u : Tok) (s : Shared) (Q : Value → Shared → Prop) (E : Value → Shared → Prop), Q (.int (g i j) s.toks) { s with toks := s.toks + 1 } → wpAny (model X.prog X.w) X.A (f (.int i t) (.int j u)) Q E s) :
    OpR X f (rI0 fun i j => .int (g i j)) := by
  intro pins s σ H x y v u Q I rx ry h
  obtain ⟨i, j, rfl, rfl, q⟩ := h
  obtain ⟨t, rfl⟩ := rx
  obtain ⟨t', rfl⟩ := ry
  exact rule i j t t' s _ _ ⟨.int (g i j), H, I.tok _, ⟨_, rfl⟩, q⟩
theorem opB0 {f : Value → Value → Sem Value} {g : Int → Int → Bool}
    (rule : ∀ (i j : Int) (t u : Tok) (s : Shared) (Q : Value → Shared → Prop) (E : Value → Shared → Prop), Q (.bool (g i j)) s → wpAny (model X.prog X.w) X.A (f (.int i t) (.int j u)) Q E s) :
    OpR X f (rI0 fun i j => .bl (g i j)) := by
  intro pins s σ H x y v u Q I rx ry h
  obtain ⟨i, j, rfl, rfl, q⟩ := h
  obtain ⟨t, rfl⟩ := rx
  obtain ⟨t', rfl⟩ := ry
  exact rule i j t t' s _ _ ⟨.bl (g i j), H, I, rfl, q⟩

def CDiv (i j : Int) : Prop := 0 < j ∧ j < 1073741824
def CDivN (i j : Int) : Prop := j ≠ 0 ∧ j.natAbs < 1073741824
def CPow (i j : Int) : Prop := 0 ≤ j ∧ j ≤ 1000000 ∧ i.natAbs < 2 ^ 64
def CMul (i j : Int) : Prop := (-(2 ^ 64) < i ∧ i < 2 ^ 64) ∨ (-(2 ^ 64) < j ∧ j < 2 ^ 64)
theorem CMul.ok {i j : Int} (h : CMul i j) : IntMulOk i j := by
  rcases h with ⟨h1, h2⟩ | ⟨h1, h2⟩
  · exact .of_left (intBits_le_64 h1 h2)
  · exact .of_right (intBits_le_64 h1 h2)
theorem op_add : OpR X (binaryOp .Add) (rI0 fun i j => .int (i + j)) := opI0 fun _ _ _ _ _ _ _ q => add_int q
theorem op_sub : OpR X (binaryOp .Sub) (rI0 fun i j => .int (i - j)) := opI0 fun _ _ _ _ _ _ _ q => sub_int q
theorem op_mul : OpR X (binaryOp .Mult) (rI CMul fun i j => .int (i * j)) := opI fun _ _ _ _ _ _ _ hc q => mul_int q hc.ok
/-  // by a positive divisor -/
/-  % by a positive divisor of any size -/
theorem op_mod : OpR X (binaryOp .Mod) (rI (fun _ j => 0 < j) fun i j => .int (i % j)) := opI fun i j _ _ _ _ _ hc q => by
  have h1 : (0 : Int) < j := hc
  exact mod_int' (by omega) (by rw [Int.fmod_eq_emod_of_nonneg i (by omega)]; exact q)
theorem op_pow : OpR X (binaryOp .Pow) (rI CPow fun i j => .int (i ^ j.toNat)) := opI fun _ _ _ _ _ _ _ hc q => pow_int_small hc.1 hc.2.1 hc.2.2 q
theorem unI {f : Value → Sem Value} {g : Int → Int}
    (rule : ∀ (i : Int) (t : Tok) (s : Shared) (Q : Value → Shared → Prop) (E : Value → Shared → Prop), Q (.int (g i) s.toks) { s with toks := s.toks + 1 } → wpAny (model X.prog X.w) X.A (f (.int i t)) Q E s) :
    UnR X f (rU fun i => .int (g i)) := by
  intro pins s σ H x v Q I rx h
  obtain ⟨i, rfl, q⟩ := h
  obtain ⟨t, rfl⟩ := rx
  exact rule i t s _ _ ⟨.int (g i), H, I.tok _, ⟨_, rfl⟩, q⟩
theorem un_neg : UnR X (unaryOp .USub) (rU fun i => .int (-i)) := unI fun _ _ _ _ _ q => neg_int q
/-! ### bools among ints: n += (a < b) -/
end

/-! ### comparisons -/
/-  the scalars that == tells apart as data does -/
def scal : V → V → Bool
  | .non, .non => true | .non, .int _ => true | .int _, .non => true | .non, .bl _ => true | .bl _, .non => true | .non, .str _ => true | .str _, .non => true
  | .int _, .int _ => true | .bl _, .bl _ => true | .str _, .str _ => true | .byt _, .byt _ => true
  | .int _, .str _ => true | .str _, .int _ => true | .bl _, .str _ => true | .str _, .bl _ => true
  | _, _ => false
def rEq : R2 := fun x y H Q => scal x y = true ∧ Q (.bl (decide (x = y))) H
def rNe : R2 := fun x y H Q => scal x y = true ∧ Q (.bl (!decide (x = y))) H

theorem dec_int {i j : Int} : decide (V.int i = V.int j) = (i == j) := by
  rw [Bool.eq_iff_iff]
  simp
theorem dec_bl {i j : Bool} : decide (V.bl i = V.bl j) = (i == j) := by
  rw [Bool.eq_iff_iff]
  simp
theorem dec_str {i j : Str} : decide (V.str i = V.str j) = (i == j) := by
  rw [Bool.eq_iff_iff]
  simp
theorem dec_byt {i j : Array UInt8} : decide (V.byt i = V.byt j) = (i.toList == j.toList) := by
  rw [Bool.eq_iff_iff]
  cases i
  cases j
  simp

section
variable {X : Cx} {a b c : Expr} {ta tb tc : TE} {pos : Pos}
theorem fin_bl {pins : List (Addr × Obj)} {σ : St} {H : Hp} {s : Shared} {Q : VK} {k k' : Bool} (I : Inv X pins σ H s) (q : Q (.bl k) H) (e : k = k') : EP X pins σ Q (.bool k') s := by
  subst e
  exact ⟨.bl k, H, I, rfl, q⟩
theorem op_eq : OpR X (compareOp .Eq) rEq := by
  intro pins s σ H x y v u Q I rx ry h
  obtain ⟨hs, q⟩ := h
  cases x with
  | non =>
    cases rx
    cases y with
    | non => cases ry; exact PySem.EqNone.eq_none_none (fin_bl I q (by simp))
    | bl j => cases ry; exact PySem.EqNone.eq_none_bool (fin_bl I q (by simp))
    | int j => obtain ⟨t', rfl⟩ := ry; exact PySem.EqNone.eq_none_int (fin_bl I q (by simp))
    | str j => obtain ⟨t', rfl⟩ := ry; exact PySem.EqNone.eq_none_str (fin_bl I q (by simp))
    | _ => exact absurd (show false = true from hs) Bool.false_ne_true
  | bl i =>
    cases rx
    cases y with
    | non => cases ry; exact PySem.EqNone.eq_bool_none (fin_bl I q (by simp))
    | bl j => cases ry; exact eq_bool (fin_bl I q dec_bl)
    | str j => obtain ⟨t', rfl⟩ := ry; exact PySem.EqMixed.eq_bool_str (fin_bl I q (by simp))
    | _ => exact absurd (show false = true from hs) Bool.false_ne_true
  | int i =>
    obtain ⟨t, rfl⟩ := rx
    cases y with
    | non => cases ry; exact PySem.EqNone.eq_int_none (fin_bl I q (by simp))
    | int j => obtain ⟨t', rfl⟩ := ry; exact eq_int (fin_bl I q dec_int)
    | str j => obtain ⟨t', rfl⟩ := ry; exact PySem.EqMixed.eq_int_str (fin_bl I q (by simp))
    | _ => exact absurd (show false = true from hs) Bool.false_ne_true
  | str i =>
    obtain ⟨t, rfl⟩ := rx
    cases y with
    | non => cases ry; exact PySem.EqNone.eq_str_none (fin_bl I q (by simp))
    | bl j => cases ry; exact PySem.EqMixed.eq_str_bool (fin_bl I q (by simp))
    | int j => obtain ⟨t', rfl⟩ := ry; exact PySem.EqMixed.eq_str_int (fin_bl I q (by simp))
    | str j => obtain ⟨t', rfl⟩ := ry; exact eq_str (fin_bl I q dec_str)
    | _ => exact absurd (show false = true from hs) Bool.false_ne_true
  | byt i =>
    obtain ⟨t, rfl⟩ := rx
    cases y with
    | byt j => obtain ⟨t', rfl⟩ := ry; exact PySem.W.eq_bytes (fin_bl I q dec_byt)
    | _ => exact absurd (show false = true from hs) Bool.false_ne_true
  | _ => cases y <;> exact absurd (show false = true from hs) Bool.false_ne_true
theorem op_ne : OpR X (compareOp .NotEq) rNe := by
  intro pins s σ H x y v u Q I rx ry h
  obtain ⟨hs, q⟩ := h
  cases x with
  | non =>
    cases rx
    cases y with
    | non => cases ry; exact PySem.EqNone.ne_none_none (fin_bl I q (by simp))
    | bl j => cases ry; exact PySem.EqNone.ne_none_bool (fin_bl I q (by simp))
    | int j => obtain ⟨t', rfl⟩ := ry; exact PySem.EqNone.ne_none_int (fin_bl I q (by simp))
    | str j => obtain ⟨t', rfl⟩ := ry; exact PySem.EqNone.ne_none_str (fin_bl I q (by simp))
    | _ => exact absurd (show false = true from hs) Bool.false_ne_true
  | bl i =>
    cases rx
    cases y with
    | non => cases ry; exact PySem.EqNone.ne_bool_none (fin_bl I q (by simp))
    | bl j => cases ry; exact ne_bool (fin_bl I q (congrArg not dec_bl))
    | str j => obtain ⟨t', rfl⟩ := ry; exact PySem.EqMixed.ne_bool_str (fin_bl I q (by simp))
    | _ => exact absurd (show false = true from hs) Bool.false_ne_true
  | int i =>
    obtain ⟨t, rfl⟩ := rx
    cases y with
    | non => cases ry; exact PySem.EqNone.ne_int_none (fin_bl I q (by simp))
    | int j => obtain ⟨t', rfl⟩ := ry; exact ne_int (fin_bl I q (congrArg not dec_int))
    | str j => obtain ⟨t', rfl⟩ := ry; exact PySem.EqMixed.ne_int_str (fin_bl I q (by simp))
    | _ => exact absurd (show false = true from hs) Bool.false_ne_true
  | str i =>
    obtain ⟨t, rfl⟩ := rx
    cases y with
    | non => cases ry; exact PySem.EqNone.ne_str_none (fin_bl I q (by simp))
    | bl j => cases ry; exact PySem.EqMixed.ne_str_bool (fin_bl I q (by simp))
    | int j => obtain ⟨t', rfl⟩ := ry; exact PySem.EqMixed.ne_str_int (fin_bl I q (by simp))
    | str j => obtain ⟨t', rfl⟩ := ry; exact ne_str (fin_bl I q (congrArg not dec_str))
    | _ => exact absurd (show false = true from hs) Bool.false_ne_true
  | byt i =>
    obtain ⟨t, rfl⟩ := rx
    cases y with
    | byt j => obtain ⟨t', rfl⟩ := ry; exact PySem.W.ne_bytes (fin_bl I q (congrArg not dec_byt))
    | _ => exact absurd (show false = true from hs) Bool.false_ne_true
  | _ => cases y <;> exact absurd (show false = true from hs) Bool.false_ne_true

theorem op_lt : OpR X (compareOp .Lt) (rI0 fun i j => .bl (decide (i < j))) := opB0 fun _ _ _ _ _ _ _ q => lt_int q
theorem op_gt : OpR X (compareOp .Gt) (rI0 fun i j => .bl (decide (j < i))) := opB0 fun _ _ _ _ _ _ _ q => gt_int q
theorem op_ge : OpR X (compareOp .GtE) (rI0 fun i j => .bl (decide (j ≤ i))) := opB0 fun _ _ _ _ _ _ _ q => ge_int q
/-  the one string within the other -/
/-  is None, is not None: the right side a value none -/
/-  is, is not of two objects that are tracked lists or instances -/
def isObj : HO → Bool
  | .lst _ => true
  | .ins _ _ _ => true
  | _ => false
/-  two rules for one operation: by cases -/
theorem nomark (b : Expr) {op : CmpOp} (h : op ≠ .In := by decide) (h2 : op ≠ .NotIn := by decide) : behindInMarks op b = false := by
  have e1 : (op == CmpOp.In) = false := by cases op <;> first | rfl | exact absurd rfl h
  have e2 : (op == CmpOp.NotIn) = false := by cases op <;> first | rfl | exact absurd rfl h2
  cases b <;> simp [behindInMarks, e1, e2]
/-  a comparison as a value; hm: nomark b, or (for in, not in) by with_unfolding_all rfl -/
theorem pe_cmpR {op : CmpOp} {r : R2} (ho : OpR X (compareOp op) r) (ha : PE X a ta) (hb : PE X b tb) (hm : behindInMarks op b = false) : PE X (.Compare a [op] [b] pos) (tOp r ta tb) := by
  intro pins s σ H Q I h
  exact wpAny_Compare1 (binT ha hb I h fun v u s2 x y H2 I2 rx ry q => ho pins s2 σ H2 x y v u Q I2 rx ry q) hm
/-  a reading of a value as a test -/
def tTest (t : TE) : TT := fun σ H Q => t σ H fun x H' => ∃ k, x = .bl k ∧ Q k H'
/-  a op1 b op2 c -/
def tChain (r r' : R2) (ta tb tc : TE) : TE := fun σ H Q => ta σ H fun x H1 => tb σ H1 fun y H2 => r x y H2 fun z H3 => ∃ k, z = .bl k ∧
  (if k = true then tc σ H3 fun w' H4 => r' y w' H4 Q else Q (.bl false) H3)
/-! ### truth -/
/-  a value's truth by the abstract heap -/
def TruV (K : PySem.W.Frag) (x : V) (H : Hp) (k : Bool) : Prop :=
  match x with
  | .non => k = false
  | .bl b => k = b
  | .int i => k = (i != 0)
  | .str y => y.length ≤ sizeLine ∧ k = ((y.length : Int) != 0)
  | .byt y => y.size ≤ sizeLine ∧ k = ((y.size : Int) != 0)
  | .ref p => (∃ xs, SqL K H p xs ∧ k = !xs.isEmpty) ∨ (∃ xs, SqT K H p xs ∧ k = !xs.isEmpty) ∨ ∃ kvs, H p = some (.dK kvs) ∧ k = !kvs.isEmpty
  | _ => False
theorem line63 : (sizeLine : Nat) < 2 ^ 63 := by rw [sizeLine_eq]; decide
/-  any expression whose test is its value's truth (a name, a call, a subscript, a field ..: he by fun _ => rfl) -/
/-! ### strs and bytes -/
def PlainIxT (b : Expr) : Prop := ∀ o i, subscripted b false o i = operate [o, i] (getItem o i)
/-  s[i], 0 ≤ i < len -/
/-  b[i], 0 ≤ i < len -/
/-! ### scalar builtins, by CallR -/
theorem vals1 {x : V} {us : List Value} (r : Vals [x] us) : ∃ u, us = [u] ∧ RelV x u := by
  cases r with
  | cons r1 r2 => cases r2; exact ⟨_, rfl, r1⟩
theorem vals2 {x y : V} {us : List Value} (r : Vals [x, y] us) : ∃ u w', us = [u, w'] ∧ RelV x u ∧ RelV y w' := by
  cases r with
  | cons r1 r2 =>
    cases r2 with
    | cons r3 r4 => cases r4; exact ⟨_, _, rfl, r1, r3⟩
theorem call_max2 (hc : X.calm = true) : CallR X (.builtin "max") (fun xs H Q => ∃ i j, xs = [.int i, .int j] ∧ Q (.int (if j > i then j else i)) H) := by
  intro pins s σ H xs us Q I r h
  obtain ⟨i, j, rfl, q⟩ := h
  obtain ⟨u, w', rfl, ⟨t, rfl⟩, ⟨t', rfl⟩⟩ := vals2 r
  refine max_two_ints (I.ok.hd hc) fun h' tk k => ⟨_, H, I.kept k, ?_, q⟩
  by_cases hj : j > i
  · rw [if_pos hj, if_pos hj]; exact ⟨_, rfl⟩
  · rw [if_neg hj, if_neg hj]; exact ⟨_, rfl⟩
theorem call_min2 (hc : X.calm = true) : CallR X (.builtin "min") (fun xs H Q => ∃ i j, xs = [.int i, .int j] ∧ Q (.int (if j < i then j else i)) H) := by
  intro pins s σ H xs us Q I r h
  obtain ⟨i, j, rfl, q⟩ := h
  obtain ⟨u, w', rfl, ⟨t, rfl⟩, ⟨t', rfl⟩⟩ := vals2 r
  refine min_two_ints (I.ok.hd hc) fun h' tk k => ⟨_, H, I.kept k, ?_, q⟩
  by_cases hj : j < i
  · rw [if_pos hj, if_pos hj]; exact ⟨_, rfl⟩
  · rw [if_neg hj, if_neg hj]; exact ⟨_, rfl⟩
/-  len of a str, a bytes, a list, a tuple -/
def LenV (K : PySem.W.Frag) (x : V) (H : Hp) (n : Nat) : Prop :=
  match x with
  | .str y => y.length ≤ sizeLine ∧ n = y.length
  | .byt y => y.size ≤ sizeLine ∧ n = y.size
  | .ref p => (∃ xs, SqL K H p xs ∧ n = xs.length) ∨ ∃ xs, SqT K H p xs ∧ n = xs.length
  | _ => False
/-  divmod: a new tuple -/
end
end L2

namespace L2
open PySem PySem.Spec PyProof.Rows

/-! ### an instance, its attributes a map -/
structure ObjM (h : Heap) (x dx C : Addr) (mA : Str → Option Value) : Prop where
  obj : h.get? x = some (PySem.W.instObj C dx)
  ns : h.Ns1 dx mA
  ne : dx ≠ x

theorem lookIn_ns {h : Heap} {dx : Addr} {mA : Str → Option Value} (n : h.Ns1 dx mA) : ∃ od, h.get? dx = some od ∧ ∀ name, PySem.W.lookIn name od = some (mA name) := by
  obtain ⟨o, es, ep, ho, hd, hk, _, hm⟩ := n
  refine ⟨o, ho, fun name => ?_⟩
  have e := hm name
  unfold nsFind findBy at e
  rw [← Array.find?_toList] at e
  unfold PySem.W.lookIn
  rw [hd]
  dsimp only
  split
  · rename_i y q
    rw [q] at e
    exact congrArg some e
  · rename_i q
    rw [q] at e
    have a : es.toList.any (·.refKey) = false := by
      rw [List.any_eq_false]
      intro y hy
      obtain ⟨z, t, hkey⟩ := hk y (Array.mem_toList_iff.mp hy)
      simp [DictEntry.refKey, hkey]
    have a' : ¬ es.toList.any (·.refKey) = true := by rw [a]; exact Bool.false_ne_true
    rw [if_neg a']
    exact congrArg some e

theorem ObjM.look {h : Heap} {x dx C : Addr} {mA : Str → Option Value} (I : ObjM h x dx C mA) : ∃ od, PySem.W.InstAt h x (PySem.W.instObj C dx) C (some od) ∧ ∀ name, PySem.W.lookIn name od = some (mA name) :=
  let ⟨od, ho, hl⟩ := lookIn_ns I.ns
  ⟨od, ⟨I.obj, rfl, rfl, ho⟩, hl⟩

section
variable {prog : Program} {w : World} {A : Around} {E : Value → Shared → Prop} {s : Shared} {K : PySem.W.Frag} {x dx C f : Addr} {mA : Str → Option Value} {name : Str} {v : Value}

theorem get_map {expr : Bool} {Q : Value → Shared → Prop} (X : K.In s.heap) (I : ObjM s.heap x dx C mA) (hg : PySem.W.plainGet K C name = true) (hh : PySem.W.hasDictIn K C = true)
    (ha : PySem.W.findIn K (.ref C) name = some none) (hv : mA name = some v) (hv' : PySem.W.handedIn v = true) (h : Q v { s with toks := s.toks + 1 }) :
    wpAny (model prog w) A (getAttr (.ref x) name expr) Q E s := by
  obtain ⟨od, J, hl⟩ := I.look
  exact PySem.W.get_value X J (PySem.W.plainGet_of hg).1 (PySem.W.findObj_own hh ha rfl (by rw [hl, hv])) hv' h

theorem get_meth {pl : Sem Bool} {Q : Value × List Value → Shared → Prop} (X : K.In s.heap) (I : ObjM s.heap x dx C mA) (hg : PySem.W.plainGet K C name = true)
    (hf : PySem.W.findIn K (.ref C) name = some (some (.ref f))) (ht : PySem.W.isFn K (.ref f) = true) (hv : mA name = none) (h : Q (.ref f, [.ref x]) s) :
    wpAny (model prog w) A (getMethod (.ref x) name pl) Q E s := by
  obtain ⟨od, J, hl⟩ := I.look
  exact PySem.W.method_fn X J (PySem.W.plainGet_of hg).1 (PySem.W.plainGet_of hg).2 hf (beq_iff_eq.mp ht) (by show (PySem.W.lookIn name od).map (·.isSome) = some false; rw [hl, hv]; rfl) h

theorem set_map {ns : List Str} {Q : Unit → Shared → Prop} (X : K.In s.heap) (I : ObjM s.heap x dx C mA)
    (hs : PySem.W.findIn K (.ref C) "__setattr__" = some (some (.builtin "object.__setattr__"))) (hp : PySem.W.plainOver K C = true) (ht : PySem.W.takerIn K C name = some none) (hh : PySem.W.hasDictIn K C = true)
    (hw : PySem.Within mA ns) (hsz : ns.length ≤ sizeLine)
    (h : ∀ h', ObjM h' x dx C (fun y => if y = name then some v else mA y) → Heap.SameBut dx s.heap h' → Q () { s with heap := h', toks := s.toks + 2 }) :
    wpAny (model prog w) A (setAttr (.ref x) name v) Q E s := by
  obtain ⟨od, J, hl⟩ := I.look
  refine PySem.W.set_plain X J hs (PySem.W.osa_open (s := { s with toks := s.toks + 1 }) (r := none) X J hp ht fun b => ?_)
  obtain ⟨cd, hc, hd'⟩ := PySem.W.any_some hh
  have hx : s.heap.get? x = some ⟨.ref C, some dx, .plain, #[]⟩ := I.obj
  refine wpAny_bind (wpAny_pure (wpAny_bind (wpAny_bind (wpAny_loadPart hx (wpAny_bind (PySem.W.Looks.here (s := { s with toks := s.toks + 1 }) (PySem.W.looks_clsIn X hc) ?_))))))
  rw [hd']
  refine wpAny_pure (a := some dx) (wpAny_bind (wpAny_pure (wpAny_bind ?_)))
  refine wpAny_nsSet1 (s := { s with toks := s.toks + 1 }) I.ns fun h' hn2 hs2 => ?_
  obtain ⟨oD, esD, epD, hoD, hdD, hcD⟩ := hn2.count (PySem.Within.cons name v hw)
  refine wpAny_bind (wpAny_lookBehind hoD (by rw [hdD]; exact pastItsLine_dict (Nat.le_trans hcD (by rw [List.length_cons]; omega))) ?_)
  exact wpAny_pure (h _ ⟨(hs2.2 _ (Ne.symm I.ne)).trans I.obj, hn2, I.ne⟩ hs2)

/-  C(..): the dict at the heap's end, the instance behind it; then its __init__ -/
theorem make_map {R : Result → Shared → Prop} {vs : List Value} {kw : List (Str × Value)} (X : K.In s.heap) (hm : PySem.W.makesIn K C = true)
    (hi : PySem.W.findIn K (.ref C) "__init__" = some (some (.ref f))) (hf : PySem.W.typeIn K (.ref f) = some (.type "function"))
    (h : codeAny (model prog w) (A.under (.builtin "type.__call__" ⟨.ref C :: vs, kw⟩)) (.call (.ref f) ⟨.ref (s.heap.objs.size + 1) :: vs, kw⟩) (PySem.W.InitBack (s.heap.objs.size + 1) R)
      { s with heap := (s.heap.push PySem.W.emptyDict).push (PySem.W.instObj C s.heap.objs.size) }) :
    codeAny (model prog w) A (.call (.ref C) ⟨vs, kw⟩) R s := by
  obtain ⟨hh, g, d, t, os⟩ := s
  exact PySem.W.make_core (PySem.W.makes_of X hm) (PySem.W.looks_findIn X hi) (fun self => PySem.W.bind_fn X self hf) (.inl rfl) h
/-  C() where there is no __init__ but object's -/
end

/-! ### the attributes as a list of pairs -/
def putF (f : Str) (v : V) : List (Str × V) → List (Str × V)
  | [] => [(f, v)]
  | (g, x) :: r => if g = f then (g, v) :: r else (g, x) :: putF f v r
theorem lookup_putF (f g : Str) (v : V) : ∀ fs : List (Str × V), (putF f v fs).lookup g = if g = f then some v else fs.lookup g
  | [] => by
    show List.lookup g [(f, v)] = _
    by_cases h : g = f
    · have hb : (g == f) = true := beq_iff_eq.mpr h
      simp only [List.lookup, hb, if_pos h]
    · have hb : (g == f) = false := beq_eq_false_iff_ne.mpr h
      simp only [List.lookup, hb, if_neg h]
  | (k, x) :: r => by
    have ih := lookup_putF f g v r
    rw [show putF f v ((k, x) :: r) = (if k = f then (k, v) :: r else (k, x) :: putF f v r) from rfl]
    by_cases hk : k = f
    · rw [if_pos hk]
      by_cases h : g = k
      · have hb : (g == k) = true := beq_iff_eq.mpr h
        simp only [List.lookup, hb, if_pos (h.trans hk)]
      · have hb : (g == k) = false := beq_eq_false_iff_ne.mpr h
        simp only [List.lookup, hb, if_neg (fun e : g = f => h (e.trans hk.symm))]
    · rw [if_neg hk]
      by_cases h : g = k
      · have hb : (g == k) = true := beq_iff_eq.mpr h
        simp only [List.lookup, hb, if_neg (fun e : g = f => hk (h.symm.trans e))]
      · have hb : (g == k) = false := beq_eq_false_iff_ne.mpr h
        simp only [List.lookup, hb]
        exact ih
theorem keys_putF (f : Str) (v : V) : ∀ fs : List (Str × V), f ∈ (putF f v fs).map (·.1) ∧ ∀ g, g ∈ fs.map (·.1) → g ∈ (putF f v fs).map (·.1)
  | [] => ⟨by simp [putF], fun g h => by simp at h⟩
  | (k, x) :: r => by
    obtain ⟨i1, i2⟩ := keys_putF f v r
    rw [show putF f v ((k, x) :: r) = (if k = f then (k, v) :: r else (k, x) :: putF f v r) from rfl]
    by_cases hk : k = f
    · rw [if_pos hk]
      subst hk
      exact ⟨by simp, fun g h => by simpa using h⟩
    · rw [if_neg hk]
      refine ⟨?_, fun g h => ?_⟩
      · rw [List.map_cons]
        exact List.mem_cons_of_mem _ i1
      · rw [List.map_cons] at h ⊢
        rcases List.mem_cons.mp h with e | e
        · exact List.mem_cons.mpr (.inl e)
        · exact List.mem_cons_of_mem _ (i2 g e)
theorem length_putF (f : Str) (v : V) : ∀ fs : List (Str × V), (putF f v fs).length ≤ fs.length + 1
  | [] => by simp [putF]
  | (k, x) :: r => by
    have ih := length_putF f v r
    rw [show putF f v ((k, x) :: r) = (if k = f then (k, v) :: r else (k, x) :: putF f v r) from rfl]
    by_cases hk : k = f
    · rw [if_pos hk, List.length_cons, List.length_cons]; omega
    · rw [if_neg hk, List.length_cons, List.length_cons]; omega

theorem RelO.some_of {v : V} {o : Option Value} (r : RelO (some v) o) : ∃ u, o = some u ∧ RelV v u := by
  cases o with
  | none => exact (show False from r).elim
  | some u => exact ⟨u, rfl, r⟩
theorem RelO.none_of {o : Option Value} (r : RelO none o) : o = none := by
  cases o with
  | none => rfl
  | some u => exact (show False from r).elim
theorem handed_of {v : V} {u : Value} (r : RelV v u) : PySem.W.handedIn u = true := by
  cases v with
  | non => cases (show u = Value.none from r); rfl
  | bl b => cases (show u = Value.bool b from r); rfl
  | int i => obtain ⟨t, e⟩ := (show ∃ t, u = Value.int i t from r); cases e; rfl
  | str x => obtain ⟨t, e⟩ := (show ∃ t, u = Value.str x t from r); cases e; rfl
  | byt b => obtain ⟨t, e⟩ := (show ∃ t, u = Value.bytes b t from r); cases e; rfl
  | flt b => obtain ⟨t, e⟩ := (show ∃ t, u = Value.float b t from r); cases e; rfl
  | ref a => cases (show u = Value.ref a from r); rfl
  | ty n => cases (show u = Value.type n from r); rfl

section
variable {P : Program} {w : World} {H H' : Hp} {h h' : Heap} {a C dx : Addr} {fs fs' : List (Str × V)}
theorem ins_get (hok : HOk P w H h) (e : H a = some (.ins C dx fs)) : ∃ mA, ObjM h a dx C mA ∧ (∀ f, RelO (fs.lookup f) (mA f)) ∧ PySem.Within mA (fs.map (·.1)) ∧ fs.length ≤ 1000 ∧ H dx = some (.own a) := by
  obtain ⟨d, z, ne, ob, mA, n, r, q⟩ := (show ObjOk P w H h a (.ins C dx fs) from hok a _ e)
  exact ⟨mA, ⟨ob, n, ne⟩, r, q, z, d⟩
end

/-! ### what of the text a class must have -/
structure Cls (K : PySem.W.Frag) (C : Addr) : Prop where
  pg : PySem.W.plainGet K C Str.empty = true
  hd : PySem.W.hasDictIn K C = true
  po : PySem.W.plainOver K C = true
  sa : PySem.W.findIn K (.ref C) "__setattr__" = some (some (.builtin "object.__setattr__"))
theorem Cls.get {K : PySem.W.Frag} {C : Addr} (c : Cls K C) (f : Str) : PySem.W.plainGet K C f = true := c.pg
/-  no class of it has the name -/
def NoAttr (K : PySem.W.Frag) (C : Addr) (f : Str) : Prop := PySem.W.findIn K (.ref C) f = some none
theorem NoAttr.taker {K : PySem.W.Frag} {C : Addr} {f : Str} (n : NoAttr K C f) : PySem.W.takerIn K C f = some none := by
  unfold PySem.W.takerIn
  rw [show PySem.W.findIn K (.ref C) f = some none from n]
  rfl
/-  a constant of the class -/
structure Con (K : PySem.W.Frag) (C : Addr) (f : Str) (v : V) (u : Value) : Prop where
  at_ : PySem.W.findIn K (.ref C) f = some (some u)
  rel : RelV v u
  get : PySem.W.specialIn K u "__get__" = some none
  cp : PySem.W.copiedNames.contains f = false
/-  a method: a plain def of the class or of one above it -/
structure Meth (K : PySem.W.Frag) (C : Addr) (m : Str) (f : Addr) : Prop where
  at_ : PySem.W.findIn K (.ref C) m = some (some (.ref f))
  fn : PySem.W.isFn K (.ref f) = true
  kp : PySem.W.keepIn K (.ref f) = true

section
variable {X : Cx} {pins : List (Addr × Obj)} {σ : St} {H : Hp} {s : Shared} {a C dx : Addr} {fs : List (Str × V)} {f : Str} {v : V} {A : Around} {E : Value → Shared → Prop}

theorem getattr_ok {b : Bool} {Q : Value → Shared → Prop} (I : Inv X pins σ H s) (e : H a = some (.ins C dx fs)) (c : Cls X.K C) (n : NoAttr X.K C f) (l : fs.lookup f = some v)
    (h : ∀ u s', Inv X pins σ H s' → RelV v u → Q u s') : wpAny (model X.prog X.w) A (getAttr (.ref a) f b) Q E s := by
  obtain ⟨mA, O, r, _, _, _⟩ := ins_get I.hok e
  obtain ⟨u, hu, ru⟩ := RelO.some_of (v := v) (o := mA f) (by rw [← l]; exact r f)
  exact get_map I.kIn O (c.get f) c.hd n hu (handed_of ru) (h u _ (I.tok _) ru)

theorem getmeth_ok {m : Str} {g : Addr} {pl : Sem Bool} {Q : Value × List Value → Shared → Prop} (I : Inv X pins σ H s) (e : H a = some (.ins C dx fs)) (c : Cls X.K C) (k : Meth X.K C m g) (l : fs.lookup m = none)
    (h : Q (.ref g, [.ref a]) s) : wpAny (model X.prog X.w) A (getMethod (.ref a) m pl) Q E s := by
  obtain ⟨mA, O, r, _, _, _⟩ := ins_get I.hok e
  have hn : mA m = none := RelO.none_of (by rw [← l]; exact r m)
  exact get_meth I.kIn O (c.get m) k.at_ k.fn hn h

theorem setattr_ok {y : V} {u : Value} {Q : Unit → Shared → Prop} (I : Inv X pins σ H s) (e : H a = some (.ins C dx fs)) (c : Cls X.K C) (n : NoAttr X.K C f) (hl : fs.length < 1000) (ry : RelV y u)
    (h : ∀ s', Inv X pins σ (upd H a (.ins C dx (putF f y fs))) s' → Q () s') : wpAny (model X.prog X.w) A (setAttr (.ref a) f u) Q E s := by
  obtain ⟨mA, O, r, wi, _, ho⟩ := ins_get I.hok e
  have hz : (fs.map (·.1)).length ≤ sizeLine := by rw [List.length_map, sizeLine_eq]; omega
  refine set_map I.kIn O c.sa c.po n.taker c.hd wi hz fun h' O' sb => h _ ?_
  have hd : ∃ o, h'.get? dx = some o := let ⟨o, _, _, e', _⟩ := O'.ns; ⟨o, e'⟩
  refine I.write (x := a) (e := dx) (by rw [e]; exact True.intro) (.inr ho) (fun b q hb z => (sb.2 b hb).trans z) hd ?_
  refine ⟨by rw [upd_ne O.ne]; exact ho, ?_, O.ne, O'.obj, _, O'.ns, fun g => ?_, fun g hg => ?_⟩
  · have := length_putF f y fs; omega
  · show RelO ((putF f y fs).lookup g) (if g = f then some u else mA g)
    rw [lookup_putF]
    by_cases q : g = f
    · rw [if_pos q, if_pos q]; exact ry
    · rw [if_neg q, if_neg q]; exact r g
  · by_cases q : g = f
    · rw [q]; exact (keys_putF f y fs).1
    · refine (keys_putF f y fs).2 g (wi g fun z => hg ?_)
      show (if g = f then some u else mA g) = none
      rw [if_neg q]; exact z

/-  a new instance, tracked, without attributes -/
theorem Inv.made (I : Inv X pins σ H s) : Inv X pins σ (upd (upd H s.heap.objs.size (.own (s.heap.objs.size + 1))) (s.heap.objs.size + 1) (.ins C s.heap.objs.size []))
    { s with heap := (s.heap.push PySem.W.emptyDict).push (PySem.W.instObj C s.heap.objs.size) } := by
  have e1 : (s.heap.push PySem.W.emptyDict).get? s.heap.objs.size = some PySem.W.emptyDict := Heap.get?_push_size s.heap rfl
  have e2 : ((s.heap.push PySem.W.emptyDict).push (PySem.W.instObj C s.heap.objs.size)).get? (s.heap.objs.size + 1) = some (PySem.W.instObj C s.heap.objs.size) := by
    have := Heap.get?_push_size (s.heap.push PySem.W.emptyDict) (o := PySem.W.instObj C s.heap.objs.size) rfl
    rwa [Heap.size_push] at this
  have e3 : (s.heap.push PySem.W.emptyDict).Ns s.heap.objs.size (fun _ => none) := ⟨PySem.W.emptyDict, #[], _, e1, rfl, (fun e he => absurd he (by simp)), fun _ => rfl⟩
  have I1 := I.laid (a := s.heap.objs.size) (o := .own (s.heap.objs.size + 1)) (h' := s.heap.push PySem.W.emptyDict) (t' := s.toks) (fun b u q => Heap.get?_push_of_some _ q) (Nat.le_refl _) ⟨_, e1⟩
  refine I1.laid (a := s.heap.objs.size + 1) (o := .ins C s.heap.objs.size []) (t' := s.toks) (fun b u q => Heap.get?_push_of_some _ q) (Nat.le_of_eq (Heap.size_push _ _)) ?_
  have ne : s.heap.objs.size ≠ s.heap.objs.size + 1 := Nat.ne_of_lt (Nat.lt_succ_self _)
  refine ⟨by rw [upd_ne ne, upd_same], Nat.zero_le _, ne, e2, fun _ => none, (Heap.Ns1.of_empty e3).at fun o q => Heap.get?_push_of_some _ q, fun _ => True.intro, fun y hy => absurd rfl hy⟩

/-  e.f where nothing but the object is asked: through attributeBase (super) and the last hold -/
theorem attr_of {prog : Program} {w : World} {env : Env} {e : Expr} {f : Str} {pos : Pos} {s : Shared} {Q : Value → Shared → Prop} (hb : attributeBase e f env (eval e env) = eval e env)
    (h : wpAny (model prog w) A (eval e env) (fun o s₁ => wpAny (model prog w) A (getAttr o f true) Q E s₁) E s) : wpAny (model prog w) A (eval (.Attribute e f pos) env) Q E s :=
  Attribute_any_ h (by rw [arm_eval_Attribute, hb])
end

/-! ### readings and rules -/
/-  e.f, an attribute of the instance -/
def tFld (K : PySem.W.Frag) (ta : TE) (f : Str) : TE := fun σ H Q => ta σ H fun x H1 => ∃ a C dx fs v, x = .ref a ∧ H1 a = some (.ins C dx fs) ∧ Cls K C ∧ NoAttr K C f ∧ fs.lookup f = some v ∧ Q v H1
/-  e.f, a constant of the class -/
def tCon (K : PySem.W.Frag) (ta : TE) (f : Str) : TE := fun σ H Q => ta σ H fun x H1 => ∃ a C dx fs v u, x = .ref a ∧ H1 a = some (.ins C dx fs) ∧ Cls K C ∧ Con K C f v u ∧ fs.lookup f = none ∧ Q v H1
/-  e.f = value -/
def sFld (K : PySem.W.Frag) (ta tv : TE) (f : Str) : TS := fun D σ H => tv σ H fun y H1 => ta σ H1 fun x H2 => ∃ a C dx fs, x = .ref a ∧ H2 a = some (.ins C dx fs) ∧ Cls K C ∧ NoAttr K C f ∧ fs.length < 1000 ∧
  D.nx σ (upd H2 a (.ins C dx (putF f y fs)))
/-  an augmented operator on two values -/
def InOp (X : Cx) (op : Operator) (rd : V → V → Hp → VK → Prop) : Prop :=
  ∀ (pins : List (Addr × Obj)) (s : Shared) (σ : St) (H : Hp) (x y : V) (u v : Value) (Q : VK), Inv X pins σ H s → RelV x u → RelV y v → rd x y H Q → wpAny (model X.prog X.w) X.A (inplaceOp op u v) (EP X pins σ Q) X.xe s
/-  e.f op= value -/
def sFldAug (K : PySem.W.Frag) (ta tv : TE) (rd : V → V → Hp → VK → Prop) (f : Str) : TS := fun D σ H => ta σ H fun x H1 => ∃ a C dx fs v, x = .ref a ∧ H1 a = some (.ins C dx fs) ∧ Cls K C ∧ NoAttr K C f ∧ fs.lookup f = some v ∧
  tv σ H1 fun y H2 => rd v y H2 fun z H3 => ∃ dx' fs', H3 a = some (.ins C dx' fs') ∧ fs'.length < 1000 ∧ D.nx σ (upd H3 a (.ins C dx' (putF f z fs')))

section
variable {X : Cx} {o e value : Expr} {f : Str} {pos pos' tpos : Pos} {ta tv : TE}
theorem pe_fld (he : PE X e ta) (hb : attributeBase e f X.env (eval e X.env) = eval e X.env) : PE X (.Attribute e f pos) (tFld X.K ta f) := by
  intro pins s σ H Q I h
  refine attr_of hb (thn (he pins s σ H _ I h) fun u s1 ⟨x, H1, I1, rx, a, C, dx, fs, v, ex, ea, c, n, l, q⟩ => ?_)
  subst ex
  obtain rfl : u = Value.ref a := rx
  exact getattr_ok I1 ea c n l fun u' s2 I2 ru => ⟨v, H1, I2, ru, q⟩
theorem ps_fld (ha : PE X o ta) (hv : PE X value tv) (hs : swapsWith value (some (.Attribute o f pos')) pos.line X.env = pure false) : PS X (.Assign [.Attribute o f pos'] value pos) (sFld X.K ta tv f) := by
  intro pins s σ H D I h
  refine plainObj_wpAny_Assign_Attribute (thn (hv pins s σ H _ I h) fun u s1 ⟨y, H1, I1, ry, q⟩ => thn (ha pins s1 σ H1 _ I1 q) fun ov s2 ⟨x, H2, I2, rx, a, C, dx, fs, ex, ea, c, n, l, q2⟩ => ?_) hs
  subst ex
  obtain rfl : ov = Value.ref a := rx
  exact setattr_ok I2 ea c n l ry fun s3 I3 => ⟨σ, _, I3, q2⟩
def rAdd : V → V → Hp → VK → Prop := fun x y H Q => ∃ i j, x = .int i ∧ y = .int j ∧ Q (.int (i + j)) H
def rSub : V → V → Hp → VK → Prop := fun x y H Q => ∃ i j, x = .int i ∧ y = .int j ∧ Q (.int (i - j)) H
/-  what is between an instance and its method: the tree of a method call -/
end

/-! ### isinstance -/
section
variable {X : Cx} {pins : List (Addr × Obj)} {σ : St} {H : Hp} {s : Shared} {A : Around} {E : Value → Shared → Prop} {Q : Value → Shared → Prop} {c : Value} {b : Bool}
/-  the type of a value, as the fragment's deciders take it; for an instance its class -/
inductive TyOf (K : PySem.W.Frag) (H : Hp) : V → Value → Prop where
  | non : TyOf K H .non (.type "NoneType")
  | bl (x : Bool) : TyOf K H (.bl x) (.type "bool")
  | int (i : Int) : TyOf K H (.int i) (.type "int")
  | str (x : Str) : TyOf K H (.str x) (.type "str")
  | flt (x : UInt64) : TyOf K H (.flt x) (.type "float")
  | lst {a : Addr} {xs : List V} (e : H a = some (.lst xs)) : TyOf K H (.ref a) (.type "list")
  | frz {a : Addr} {o : Obj} {xs : List V} (e : H a = some (.frz o (.lst xs))) : TyOf K H (.ref a) (.type "list")
  | tup {a : Addr} {xs : List V} (e : H a = some (.tup xs)) : TyOf K H (.ref a) (.type "tuple")
  | dK {a : Addr} {kvs : List (Key × V)} (e : H a = some (.dK kvs)) : TyOf K H (.ref a) (.type "dict")
  | dT {a : Addr} {kvs : List (List Key × V)} (e : H a = some (.dT kvs)) : TyOf K H (.ref a) (.type "dict")
  | ins {a C dx : Addr} {fs : List (Str × V)} (e : H a = some (.ins C dx fs)) (cl : Cls K C) (ha : PySem.W.findIn K (.ref C) "__class__" = some (some (.builtin "object.__class__")))
      (hn : PySem.W.specialIn K (.builtin "object.__class__") "__get__" = some (some (.builtin "getset_descriptor.__get__"))) (htk : PySem.W.takesIn K (.builtin "object.__class__") = some true)
      (hm : PySem.W.mroIn K C (.type "object") = some true) : TyOf K H (.ref a) (.ref C)
/-  isinstance(x, c) for one class c, a built-in or an own one: kitOne's answer -/
theorem isinst_ok {x : V} {u t : Value} (I : Inv X pins σ H s) (rx : RelV x u) (ty : TyOf X.K H x t) (e : PySem.W.kitOne X.K t c = some b) (h : ∀ tk, Q (.bool b) { s with toks := tk }) :
    wpAny (model X.prog X.w) A (call (.builtin "isinstance") [u, c]) Q E s := by
  cases ty with
  | non => cases (show u = Value.none from rx); exact PySem.W.kia_one PySem.W.kitx_none I.kIn True.intro e (fun z => nomatch z) h
  | bl y => cases (show u = Value.bool y from rx); exact PySem.W.kia_one PySem.W.kitx_bool I.kIn True.intro e (fun z => nomatch z) h
  | int i => obtain ⟨t, q⟩ := (show ∃ t, u = Value.int i t from rx); cases q; exact PySem.W.kia_one PySem.W.kitx_int I.kIn True.intro e (fun z => nomatch z) h
  | str y => obtain ⟨t, q⟩ := (show ∃ t, u = Value.str y t from rx); cases q; exact PySem.W.kia_one PySem.W.kitx_str I.kIn True.intro e (fun z => nomatch z) h
  | flt y => obtain ⟨t, q⟩ := (show ∃ t, u = Value.float y t from rx); cases q; exact PySem.W.kia_one PySem.W.kitx_float I.kIn True.intro e (fun z => nomatch z) h
  | @lst a xs ea =>
    cases (show u = Value.ref a from rx)
    obtain ⟨_, _, n, _, h1⟩ := (show ObjOk X.prog X.w H s.heap a (.lst xs) from I.hok a _ ea)
    exact PySem.W.kia_one PySem.W.kitx_list I.kIn ⟨_, h1, rfl⟩ e (fun z => nomatch z) h
  | @frz a ob xs ea =>
    cases (show u = Value.ref a from rx)
    obtain ⟨_, _, _, n, _, h1⟩ := (show ObjOk X.prog X.w H s.heap a (.frz ob (.lst xs)) from I.hok a _ ea)
    exact PySem.W.kia_one PySem.W.kitx_list I.kIn ⟨_, h1, rfl⟩ e (fun z => nomatch z) h
  | @tup a xs ea =>
    cases (show u = Value.ref a from rx)
    obtain ⟨_, _, _, p⟩ := (show ObjOk X.prog X.w H s.heap a (.tup xs) from I.hok a _ ea)
    obtain ⟨o, h1, h2, _⟩ := p
    exact PySem.W.kia_one PySem.W.kitx_tuple I.kIn ⟨o, h1, h2⟩ e (fun z => nomatch z) h
  | @dK a kvs ea =>
    cases (show u = Value.ref a from rx)
    obtain ⟨_, _, vs, _, p⟩ := (show ObjOk X.prog X.w H s.heap a (.dK kvs) from I.hok a _ ea)
    obtain ⟨o, es, ep, h1, h2, _⟩ := p
    exact PySem.W.kia_one PySem.W.kitx_dict I.kIn ⟨o, h1, h2.1⟩ e (fun z => nomatch z) h
  | @dT a kvs ea =>
    cases (show u = Value.ref a from rx)
    obtain ⟨_, _, xs, _, o, es, ep, h1, h2, _⟩ := (show ObjOk X.prog X.w H s.heap a (.dT kvs) from I.hok a _ ea)
    exact PySem.W.kia_one PySem.W.kitx_dict I.kIn ⟨o, h1, h2.1⟩ e (fun z => nomatch z) h
  | @ins a C dx fs ea cl ha hn htk hm =>
    cases (show u = Value.ref a from rx)
    obtain ⟨mA, O, _⟩ := ins_get I.hok ea
    obtain ⟨od, J, _⟩ := O.look
    exact PySem.W.kia_one (PySem.W.kitx_own (cl.get _) cl.hd ha hn htk hm) I.kIn J e (fun z => nomatch z) h
end
end L2

namespace L2
open PySem PySem.Spec PyProof.Rows

/-! ### room -/
structure Room (k : Nat) (A : Around) : Prop where
  hd : A.handled = none
  dp : A.depth + 3 * k + 5 < recursionLimit
  un : A.units + 16 * k + 200 < cLine
theorem Room.mono {j k : Nat} {A : Around} (r : Room k A) (h : j ≤ k) : Room j A := ⟨r.hd, by have := r.dp; omega, by have := r.un; omega⟩
theorem Room.deeper {k : Nat} {A : Around} (r : Room (k + 1) A) (env : Env) : Room k (A.deeper env) :=
  ⟨r.hd, by have := r.dp; show A.depth + 1 + 3 * k + 5 < _; omega, by have := r.un; show A.units + 3 + 16 * k + 200 < _; omega⟩
theorem Room.in1 {k : Nat} {A : Around} (r : Room (k + 1) A) : Room k A.in1 :=
  ⟨r.hd, by have := r.dp; show A.depth + 3 * k + 5 < _; omega, by have := r.un; show A.units + 1 + 16 * k + 200 < _; omega⟩
theorem make_depth {A : Around} {C : Addr} {us : List Value} {kw : List (Str × Value)} : (A.under (.builtin "type.__call__" ⟨.ref C :: us, kw⟩)).depth = A.depth + 1 := by
  first | rfl | simp [Around.under, Code.weight, Code.isCreation, Code.isGuard, Code.isCaller, Code.frames, Code.isFrame, guardIds]
theorem make_units {A : Around} {C : Addr} {us : List Value} {kw : List (Str × Value)} : (A.under (.builtin "type.__call__" ⟨.ref C :: us, kw⟩)).units = A.units + 1 := by
  first | rfl | simp [Around.under, Code.cUnits, Code.frames, Code.isFrame]
theorem Room.make {k : Nat} {A : Around} (r : Room (k + 1) A) (C : Addr) (us : List Value) (kw : List (Str × Value)) : Room k (A.under (.builtin "type.__call__" ⟨.ref C :: us, kw⟩)) :=
  ⟨r.hd, by have := r.dp; rw [make_depth]; omega, by have := r.un; rw [make_units]; omega⟩
theorem Room.depth {k : Nat} {A : Around} (r : Room k A) : A.depth < recursionLimit := by have := r.dp; omega
theorem Room.units {k : Nat} {A : Around} (r : Room k A) : A.units + 64 < cLine := by have := r.un; omega
theorem Room.units0 {k : Nat} {A : Around} (r : Room k A) : A.units < cLine := by have := r.un; omega

/-! ### argument lists and displays -/
def tNil : TA := fun _ H Q => Q [] H
def tCons (ta : TE) (tr : TA) : TA := fun σ H Q => ta σ H fun x H1 => tr σ H1 fun xs H2 => Q (x :: xs) H2
section
variable {X : Cx} {e : Expr} {es : List Expr} {te : TE} {t : TA} {pos : Pos}
theorem pa_nil : PA X [] tNil := fun _ _ _ _ H Q I h => Calls.spliced_nil ⟨[], H, I, .nil, h⟩
theorem pa_cons (ha : PE X e te) (hr : PA X es t) (hs : starEach (e :: es) X.env = (false, eval e X.env) :: starEach es X.env := by rfl) : PA X (e :: es) (tCons te t) := by
  intro pos pins s σ H Q I h
  rw [hs]
  show wpAny _ _ (spliced ((false, eval e X.env) :: backTo pos (starEach es X.env))) _ _ s
  refine Calls.spliced_cons (thn (ha pins s σ H _ I h) fun u s1 ⟨x, H1, I1, r1, q1⟩ => ?_)
  exact thn (hr pos pins s1 σ H1 _ I1 q1) fun us s2 ⟨xs, H2, I2, r2, q2⟩ => ⟨x :: xs, H2, I2, .cons r1 r2, q2⟩

/-  a tuple, a list of written items -/
def tTup (t : TA) : TE := fun σ H Q => t σ H fun xs H1 => xs.length ≤ sizeLine ∧ ∀ p, H1 p = none → Q (.ref p) (upd H1 p (.tup xs))
def tLst (t : TA) : TE := fun σ H Q => t σ H fun xs H1 => xs.length ≤ sizeLine ∧ ∀ p, H1 p = none → Q (.ref p) (upd H1 p (.lst xs))
theorem pe_tup {x1} (h : PA X es t) : PE X (.Tuple es x1 pos) (tTup t) := by
  intro pins s σ H Q I hq
  refine wpAny_Tuple_spliced (thn (h pos pins s σ H _ I hq) fun us s1 ⟨xs, H1, I1, r, z, q⟩ => ⟨by rw [← r.length]; exact z, ?_⟩)
  have hf : H1 s1.heap.objs.size = none := I1.hok.fresh (Nat.le_refl _)
  refine ⟨.ref s1.heap.objs.size, upd H1 s1.heap.objs.size (.tup xs), I1.laid (t' := s1.toks) (fun b u e => Heap.get?_push_of_some _ e) (Nat.le_refl _) ?_, rfl, q _ hf⟩
  exact ⟨z, us, r, ⟨_, Heap.get?_push_size _ rfl, rfl, _, rfl⟩⟩
theorem pe_lst (h : PA X es t) : PE X (.List es pos) (tLst t) := by
  intro pins s σ H Q I hq
  refine wpAny_List_spliced (thn (h pos pins s σ H _ I hq) fun us s1 ⟨xs, H1, I1, r, z, q⟩ => ⟨by rw [← r.length]; exact z, ?_⟩)
  have hf : H1 s1.heap.objs.size = none := I1.hok.fresh (Nat.le_refl _)
  refine ⟨.ref s1.heap.objs.size, upd H1 s1.heap.objs.size (.lst xs), I1.laid (t' := s1.toks) (fun b u e => Heap.get?_push_of_some _ e) (Nat.le_refl _) ?_, rfl, q _ hf⟩
  exact ⟨z, us, 0, r, Heap.get?_push_size _ rfl⟩
end

/-! ### what a def promises -/
/-  a def's promise: the bound arguments in the parameters' order, the heap, the wanted end, the wanted exception -/
abbrev Sp := List V → Hp → VK → XK → Prop
/-  how an exception lies behind a call (file 08 gives it): the callers' frames, abstract heap and state ahead of the call, the wish, the exception, the state -/
abbrev CXT := List Env → Hp → Shared → XK → Value → Shared → Prop

/-  the state at a call -/
structure Env0 (P : Program) (w : World) (K : PySem.W.Frag) (mg : Str → Option Value) (base : Heap) (A : Around) (outer : List Env) (s : Shared) (H : Hp) : Prop where
  frames : A.frames = some outer
  mod : Mod K mg base
  bs : ∀ b o, base.get? b = some o → s.heap.get? b = some o ∧ H b = none
  bsz : base.objs.size ≤ s.heap.objs.size
  funs : s.heap.FunFrames base outer
  frf : ∀ b ∈ frs outer, H b = none
  hok : HOk P w H s.heap
  bare : AllBare s.gens
/-  a call's end -/
def CE (outer : List Env) (P : Program) (w : World) (H : Hp) (s : Shared) (Q : VK) (u : Value) (s' : Shared) : Prop :=
  ∃ v H', s'.os = s.os ∧ AllBare s'.gens ∧ Un (frs outer) [] H H' s.heap s'.heap ∧ HOk P w H' s'.heap ∧ RelV v u ∧ Q v H'
def CR (CX : CXT) (outer : List Env) (P : Program) (w : World) (H : Hp) (s : Shared) (Q : VK) (E : XK) (r : Result) (s' : Shared) : Prop :=
  match r with
  | .ok (.ret u) => CE outer P w H s Q u s'
  | .ok _ => False
  | .error e => CX outer H s E e s'
structure FnOk (P : Program) (w : World) (K : PySem.W.Frag) (mg : Str → Option Value) (base : Heap) (CX : CXT) (k : Nat) (f : Addr) (fd : FuncData) (ps : List Str) (sp : Sp) : Prop where
  len : ∀ vs H Q E, sp vs H Q E → vs.length = ps.length
  run : ∀ (A : Around) (outer : List Env) (s : Shared) (H : Hp) (args : Args) (us : List Value) (vs : List V) (Q : VK) (E : XK), Room k A → Env0 P w K mg base A outer s H → BindsTo s fd args (ps.zip us) → Vals vs us → sp vs H Q E →
    codeAny (model P w) A (.call (.ref f) args) (CR CX outer P w H s Q E) s
/-  a weaker promise -/
theorem Env0.make {P : Program} {w : World} {K : PySem.W.Frag} {mg : Str → Option Value} {base : Heap} {A : Around} {outer : List Env} {s : Shared} {H : Hp} (e : Env0 P w K mg base A outer s H) (C : Addr) (us : List Value) (kw : List (Str × Value)) :
    Env0 P w K mg base (A.under (.builtin "type.__call__" ⟨.ref C :: us, kw⟩)) outer s H := ⟨by first | exact e.frames | (simpa [Around.under, Code.envs, Code.isFrame, pushEnvs] using e.frames), e.mod, e.bs, e.bsz, e.funs, e.frf, e.hok, e.bare⟩
section
variable {X : Cx} {pins : List (Addr × Obj)} {σ : St} {H : Hp} {s s' : Shared}
/-  from a body: what a callee wants -/
theorem Inv.env0 (I : Inv X pins σ H s) : Env0 X.prog X.w X.K X.mg X.base X.A X.stack s H :=
  ⟨I.ok.frames, I.ok.mod, I.bs, Nat.le_trans I.ok.bsz I.sz, I.stack, I.stkFree, I.hok, I.bare⟩
/-  behind a call -/
theorem Inv.after {Q : VK} {u : Value} (I : Inv X pins σ H s) (h : CE X.stack X.prog X.w H s Q u s') : EP X pins σ Q u s' := by
  obtain ⟨v, H', os, bare, un, hok, r, q⟩ := h
  obtain ⟨hh, g, d, t, os'⟩ := s'
  obtain rfl : os' = s.os := os
  exact ⟨v, H', I.call (h' := hh) (g' := g) (d' := d) (t' := t) (ch := []) un hok bare (fun b z => absurd z (by simp)), r, q⟩
end

/-! ### calls -/
/-  f(..): the written arguments, then the defaults dvs; E: what is wanted of an exception -/
def tCall (sp : Sp) (dvs : List V) (E : XK) (t : TA) : TE := fun σ H Q => t σ H fun vs H1 => sp (vs ++ dvs) H1 Q E
/-  o.m(..) of an instance of the class at C -/
def tMeth (C : Addr) (m : Str) (sp : Sp) (dvs : List V) (E : XK) (ta : TE) (t : TA) : TE := fun σ H Q => ta σ H fun x H1 => ∃ a dx fs, x = .ref a ∧ H1 a = some (.ins C dx fs) ∧ fs.lookup m = none ∧
  t σ H1 fun vs H2 => sp (x :: (vs ++ dvs)) H2 Q E
/-  C(..): a new instance and its dict, then __init__ -/
def tMake (C : Addr) (sp : Sp) (dvs : List V) (E : XK) (t : TA) : TE := fun σ H Q => t σ H fun vs H1 => ∀ x dx, H1 x = none → H1 dx = none → dx ≠ x →
  sp (.ref x :: (vs ++ dvs)) (upd (upd H1 dx (.own x)) x (.ins C dx [])) (fun v H2 => v = .non ∧ Q (.ref x) H2) E

/-  how the parameters are bound: us the positional arguments, kw the keywords' values by name, ds the defaults that fill up -/
def Binds (K : PySem.W.Frag) (fd : FuncData) (ps : List Str) (ds : List Value) : Prop :=
  ∀ (s : Shared) (us : List Value), K.In s.heap → (us ++ ds).length = ps.length → BindsTo s fd ⟨us, []⟩ (ps.zip (us ++ ds))
/-  every parameter is given -/
theorem Binds.all {K : PySem.W.Frag} {fd : FuncData} {ps : List Str} (h : ∀ us : List Value, us.length = ps.length → bindArgs fd ⟨us, []⟩ = pure (ps.zip us)) : Binds K fd ps [] := fun s us _ hl => by
  rw [List.append_nil] at hl ⊢
  exact .of_eq (h us hl)

/-  an exception of a callee reaches what this body wants of exceptions -/
def Passes (CX : CXT) (X : Cx) (E : XK) : Prop := ∀ (pins : List (Addr × Obj)) (σ : St) (H : Hp) (s : Shared) (e : Value) (s' : Shared), Inv X pins σ H s → CX X.stack H s E e s' → X.xe e s'

section
variable {X : Cx} {CX : CXT} {k : Nat} {f C : Addr} {fd : FuncData} {ps : List Str} {sp : Sp} {dvs : List V} {ds : List Value} {E : XK} {x m : Str} {p pos apos : Pos} {e o : Expr} {es : List Expr} {ta : TE} {t : TA}

/-  the callee runs -/
theorem run_fn {pins : List (Addr × Obj)} {σ : St} {H : Hp} {s : Shared} {Q : VK} {us : List Value} {vs : List V} (F : FnOk X.prog X.w X.K X.mg X.base CX k f fd ps sp) (hr : Room k X.A) (hb : Binds X.K fd ps ds) (hd : Vals dvs ds) (hx : Passes CX X E)
    (I : Inv X pins σ H s) (r : Vals vs us) (h : sp (vs ++ dvs) H Q E) : wpAny (model X.prog X.w) X.A (call (.ref f) us) (EP X pins σ Q) X.xe s := by
  have r2 : Vals (vs ++ dvs) (us ++ ds) := r.append hd
  have hl : (us ++ ds).length = ps.length := by rw [← r2.length]; exact F.len _ _ _ _ h
  refine wpAny_call (codeAny_mono (F.run X.A X.stack s H ⟨us, []⟩ (us ++ ds) (vs ++ dvs) Q E hr I.env0 (hb s us I.kIn hl) r2 h) fun r s' hq => ?_)
  cases r with
  | error e => exact hx pins σ H s e s' I hq
  | ok fl =>
    cases fl with
    | ret u => exact I.after hq
    | next => exact False.elim hq
    | brk => exact False.elim hq
    | cont => exact False.elim hq

theorem pe_call (F : FnOk X.prog X.w X.K X.mg X.base CX k f fd ps sp) (hr : Room k X.A) (hg : Gl X x) (hm : X.mg x = some (.ref f)) (hk : PySem.W.keepIn X.K (.ref f) = true) (hb : Binds X.K fd ps ds) (hd : Vals dvs ds) (hx : Passes CX X E)
    (ha : PA X (e :: es) t) (hdb : (x == ("__debug__" : Str)) = false := by decide) (he : starEach (e :: es) X.env = (false, eval e X.env) :: starEach es X.env := by rfl) (hpl : (backTo pos (starEach es X.env)).any (·.1) = false := by rfl) :
    PE X (.Call (.Name x p) (e :: es) [] pos) (tCall sp dvs E t) := by
  intro pins s σ H Q I h
  refine wpAny_Call_Name_kw (ld_glob I hg hm ?_ hdb)
  refine PySem.W.callWith_K (h₀ := X.base) I.ok.mod.kin hk (thn (ha pos pins s σ H _ I h) fun us s1 ⟨vs, H1, I1, r, q⟩ => ⟨I1.kIn, ?_⟩) he hpl
  exact run_fn F hr hb hd hx I1 r q
/-  o.m(e, ..) -/
/-  o.m() -/
theorem pe_meth0 {pl : Sem Bool} (he : PE X o ta) (c : Cls X.K C) (hm : Meth X.K C m f) (F : FnOk X.prog X.w X.K X.mg X.base CX k f fd ps sp) (hr : Room k X.A) (hb : Binds X.K fd ps ds) (hd : Vals dvs ds) (hx : Passes CX X E)
    (ht : eval (.Call (.Attribute o m apos) [] [] pos) X.env = (do
      let ov ← eval o X.env
      standAt apos.atName
      let (f, first) ← holding [ov] (getMethod ov m pl)
      callWith pos f first (backTo pos (starEach [] X.env)) (backToKw pos (keywordEach [] X.env))) := by rfl) :
    PE X (.Call (.Attribute o m apos) [] [] pos) (tMeth C m sp dvs E ta tNil) := by
  intro pins s σ H Q I h
  refine PySem.W.methodCall_KW (pl := pl) (thn (he pins s σ H _ I h) fun u s1 ⟨x, H1, I1, rx, a, dx, fs, ex, ea, l, q⟩ => ?_) ht
  subst ex
  obtain rfl : u = Value.ref a := rx
  refine getmeth_ok I1 ea c hm l ?_
  exact PySem.W.callWith_K0 (first := [.ref a]) I1.kIn hm.kp (run_fn (us := [.ref a]) (vs := [.ref a]) F hr hb hd hx I1 (.cons rfl .nil) q)

/-  what a class must have to be made -/
structure Mk (K : PySem.W.Frag) (C f : Addr) : Prop where
  makes : PySem.W.makesIn K C = true
  init : PySem.W.findIn K (.ref C) "__init__" = some (some (.ref f))
  fn : PySem.W.isFn K (.ref f) = true
  kp : PySem.W.keepIn K (.ref C) = true

theorem run_make {pins : List (Addr × Obj)} {σ : St} {H : Hp} {s : Shared} {Q : VK} {us : List Value} {vs : List V} (M : Mk X.K C f) (F : FnOk X.prog X.w X.K X.mg X.base CX k f fd ps sp) (hr : Room (k + 1) X.A) (hb : Binds X.K fd ps ds) (hd : Vals dvs ds)
    (hx : Passes CX X E) (I : Inv X pins σ H s) (r : Vals vs us)
    (h : ∀ x dx, H x = none → H dx = none → dx ≠ x → sp (.ref x :: (vs ++ dvs)) (upd (upd H dx (.own x)) x (.ins C dx [])) (fun v H2 => v = .non ∧ Q (.ref x) H2) E) :
    wpAny (model X.prog X.w) X.A (call (.ref C) us) (EP X pins σ Q) X.xe s := by
  have hq := h (s.heap.objs.size + 1) s.heap.objs.size (I.hok.fresh (Nat.le_succ _)) (I.hok.fresh (Nat.le_refl _)) (Nat.ne_of_lt (Nat.lt_succ_self _))
  have I2 := Inv.made (C := C) I
  have r2 : Vals (V.ref (s.heap.objs.size + 1) :: (vs ++ dvs)) (Value.ref (s.heap.objs.size + 1) :: (us ++ ds)) := .cons rfl (r.append hd)
  have hl : (Value.ref (s.heap.objs.size + 1) :: us ++ ds).length = ps.length := by
    have e := r2.length
    rw [F.len _ _ _ _ hq] at e
    exact e.symm
  refine wpAny_call (make_map (f := f) I.kIn M.makes M.init (beq_iff_eq.mp M.fn) (codeAny_mono (F.run _ X.stack _ _ ⟨Value.ref (s.heap.objs.size + 1) :: us, []⟩ (Value.ref (s.heap.objs.size + 1) :: (us ++ ds)) _ _ E (hr.make C us [])
    (I2.env0.make C us []) (hb _ (Value.ref (s.heap.objs.size + 1) :: us) I2.kIn hl) r2 hq) fun r s' hq' => ?_))
  cases r with
  | error e => exact hx pins σ _ _ e s' I2 hq'
  | ok fl =>
    cases fl with
    | ret u =>
      obtain ⟨v, H', I3, rv, ev, q3⟩ := I2.after hq'
      subst ev
      exact ⟨rv, ⟨V.ref (s.heap.objs.size + 1), H', I3, rfl, q3⟩⟩
    | next => exact False.elim hq'
    | brk => exact False.elim hq'
    | cont => exact False.elim hq'
theorem pe_make (M : Mk X.K C f) (F : FnOk X.prog X.w X.K X.mg X.base CX k f fd ps sp) (hr : Room (k + 1) X.A) (hg : Gl X x) (hm : X.mg x = some (.ref C)) (hb : Binds X.K fd ps ds) (hd : Vals dvs ds) (hx : Passes CX X E)
    (ha : PA X (e :: es) t) (hdb : (x == ("__debug__" : Str)) = false := by decide) (he : starEach (e :: es) X.env = (false, eval e X.env) :: starEach es X.env := by rfl) (hpl : (backTo pos (starEach es X.env)).any (·.1) = false := by rfl) :
    PE X (.Call (.Name x p) (e :: es) [] pos) (tMake C sp dvs E t) := by
  intro pins s σ H Q I h
  refine wpAny_Call_Name_kw (ld_glob I hg hm ?_ hdb)
  refine PySem.W.callWith_K (h₀ := X.base) I.ok.mod.kin M.kp (thn (ha pos pins s σ H _ I h) fun us s1 ⟨vs, H1, I1, r, q⟩ => ⟨I1.kIn, ?_⟩) he hpl
  exact run_make M F hr hb hd hx I1 r q
end

/-! ### keywords -/
/-  the values of the keywords, from the left -/
def PK (X : Cx) (kws : List Keyword) (t : TA) : Prop :=
  ∀ (pos : Pos) (pins : List (Addr × Obj)) (s : Shared) (σ : St) (H : Hp) (Q : List V → Hp → Prop), Inv X pins σ H s → t σ H Q → wpAny (model X.prog X.w) X.A (evalAll ((backToKw pos (keywordEach kws X.env)).map (·.2))) (AP X pins σ Q) X.xe s
section
variable {X : Cx} {CX : CXT} {k : Nat} {f C : Addr} {fd : FuncData} {ps ks : List Str} {sp : Sp} {E : XK} {x m : Str} {p pos apos kpos : Pos} {e o : Expr} {es : List Expr} {kws : List Keyword} {te ta : TE} {t tk : TA} {nm : Option Str}
/-  how a call with keywords binds: g puts the positional values us and the keywords' values ws (names ks) in the parameters' order, defaults among them -/
structure KBinds (K : PySem.W.Frag) (fd : FuncData) (ps ks : List Str) (g : List Value → List Value → List Value) (gV : List V → List V → List V) : Prop where
  to : ∀ (s : Shared) (us ws : List Value), K.In s.heap → (g us ws).length = ps.length → BindsTo s fd ⟨us, ks.zip ws⟩ (ps.zip (g us ws))
  rel : ∀ {vs : List V} {us : List Value} {zs : List V} {ws : List Value}, Vals vs us → Vals zs ws → Vals (gV vs zs) (g us ws)
def tCallK (sp : Sp) (gV : List V → List V → List V) (E : XK) (t tk : TA) : TE := fun σ H Q => t σ H fun vs H1 => tk σ H1 fun zs H2 => sp (gV vs zs) H2 Q E
variable {g : List Value → List Value → List Value} {gV : List V → List V → List V}
/-  f(e, .., k = v, ..) -/
end

/-! ### a def's body keeps its promise -/
/-  names: the parameters first -/
structure FnScope (N P : List Str) (sc : Scope) : Prop where
  kind : sc.kind = .function
  co : sc.isCoroutine = false
  gen : sc.isGenerator = false
  nd : N.Nodup
  pre : N.take P.length = P
  par : ∀ x ∈ P, sc.names.lookup x = some .local ∨ sc.names.lookup x = some .cell
  nofree : ∀ y ∈ sc.names, y.2 ≠ .free

theorem bindL_out {kindOf : Str → Option NameKind} {x : Str} : ∀ {binds : List (Str × Value)} {m : Str → Option Value}, (∀ v, (x, v) ∉ binds) → bindL kindOf binds m x = m x
  | [], _, _ => rfl
  | (n, v) :: r, m, h => by
    unfold bindL
    rw [bindL_out fun w hw => h w (List.mem_cons_of_mem _ hw)]
    split
    · have : x ≠ n := by rintro rfl; exact h v List.mem_cons_self
      simp [this]
    · rfl
theorem bindC_out {kindOf : Str → Option NameKind} {x : Str} : ∀ {binds : List (Str × Value)} {m : Str → Option Value}, (∀ v, (x, v) ∉ binds) → bindC kindOf binds m x = m x
  | [], _, _ => rfl
  | (n, v) :: r, m, h => by
    unfold bindC
    rw [bindC_out fun w hw => h w (List.mem_cons_of_mem _ hw)]
    split
    · rfl
    · have : x ≠ n := by rintro rfl; exact h v List.mem_cons_self
      simp [this]
theorem bindL_get {kindOf : Str → Option NameKind} {x : Str} {v : Value} : ∀ {P : List Str} {vs : List Value} {i : Nat} {m : Str → Option Value}, P.Nodup → P[i]? = some x → vs[i]? = some v → kindOf x = some .local →
    bindL kindOf (P.zip vs) m x = some v
  | [], _, _, _, _, h, _, _ => by simp at h
  | _ :: _, [], _, _, _, _, h, _ => by simp at h
  | p :: P, w :: vs, 0, m, nd, h1, h2, hk => by
    simp at h1 h2; subst h1; subst h2
    show bindL kindOf ((p, w) :: P.zip vs) m p = _
    unfold bindL
    rw [bindL_out fun v hv => (List.nodup_cons.mp nd).1 (List.of_mem_zip hv).1, if_pos hk]
    simp
  | p :: P, w :: vs, i + 1, m, nd, h1, h2, hk => by
    show bindL kindOf ((p, w) :: P.zip vs) m x = _
    unfold bindL
    exact bindL_get (i := i) (List.nodup_cons.mp nd).2 (by simpa using h1) (by simpa using h2) hk
theorem bindC_get {kindOf : Str → Option NameKind} {x : Str} {v : Value} : ∀ {P : List Str} {vs : List Value} {i : Nat} {m : Str → Option Value}, P.Nodup → P[i]? = some x → vs[i]? = some v → kindOf x ≠ some .local →
    bindC kindOf (P.zip vs) m x = some v
  | [], _, _, _, _, h, _, _ => by simp at h
  | _ :: _, [], _, _, _, _, h, _ => by simp at h
  | p :: P, w :: vs, 0, m, nd, h1, h2, hk => by
    simp at h1 h2; subst h1; subst h2
    show bindC kindOf ((p, w) :: P.zip vs) m p = _
    unfold bindC
    rw [bindC_out fun v hv => (List.nodup_cons.mp nd).1 (List.of_mem_zip hv).1, if_neg hk]
    simp
  | p :: P, w :: vs, i + 1, m, nd, h1, h2, hk => by
    show bindC kindOf ((p, w) :: P.zip vs) m x = _
    unfold bindC
    exact bindC_get (i := i) (List.nodup_cons.mp nd).2 (by simpa using h1) (by simpa using h2) hk

/-  the names' values at the entry -/
def start (N : List Str) (vs : List V) : St := vs.map some ++ List.replicate (N.length - vs.length) none

/-  the context of a def's body, at its entry; an exception leaves the frame, then lies as CX says -/
def cxOf (CX : CXT) (P : Program) (w : World) (K : PySem.W.Frag) (mg : Str → Option Value) (base : Heap) (N : List Str) (qual : Str) (scope : Scope) (f : Addr) (cd : Value) (A : Around) (outer : List Env) (s : Shared) (H : Hp) (E : XK) : Cx where
  prog := P
  w := w
  K := K
  mg := mg
  base := base
  A := A.deeper (envOfC qual scope s.heap.objs.size f cd)
  N := N
  s₀ := s
  H₀ := H
  env := envOfC qual scope s.heap.objs.size f cd
  outer := outer
  stack := envOfC qual scope s.heap.objs.size f cd :: outer
  ex := []
  calm := true
  cp := fun _ => true
  fn := fun _ => true
  pn := []
  xe := fun e s' => wpAny (model P w) (A.deeper (envOfC qual scope s.heap.objs.size f cd)) (leaving (envOfC qual scope s.heap.objs.size f cd) e) (fun _ s'' => CX outer H s E e s'') (fun e' s'' => CX outer H s E e' s'') s'

theorem cell_has {sc : Scope} {n : Nat} {x : Str} (h : sc.names.lookup x = some .cell) : ∃ c, (cellsFrom n sc.names []).lookup x = some c := by
  have q := PySem.W.cellsFrom_some sc.names n [] (.inl h)
  exact Option.isSome_iff_exists.mp q

theorem inv_start {CX : CXT} {P : Program} {w : World} {K : PySem.W.Frag} {mg : Str → Option Value} {base : Heap} {N ps : List Str} {qual : Str} {scope : Scope} {f : Addr} {cd : Value} {A : Around} {outer : List Env} {s s1 : Shared} {H : Hp} {E : XK} {us : List Value} {vs : List V}
    (S : FnScope N ps scope) (hd : A.handled = none) (e0 : Env0 P w K mg base A outer s H) (hl : vs.length = ps.length) (r : Vals vs us)
    (x : InCallC s s.heap.objs.size (bindL (envOfC qual scope s.heap.objs.size f cd).kindOf (ps.zip us) fun _ => none) (cellsFrom (s.heap.objs.size + 1) scope.names []) (bindC (envOfC qual scope s.heap.objs.size f cd).kindOf (ps.zip us) fun _ => none) s1) :
    Inv (cxOf CX P w K mg base N qual scope f cd A outer s H E) [] (start N vs) H s1 := by
  have hpl : ps.length ≤ N.length := by have := congrArg List.length S.pre; rw [List.length_take] at this; omega
  obtain ⟨h1, tk, rfl, hk⟩ := x.done
  have noA : ∀ b : Addr, b ∉ (cxOf CX P w K mg base N qual scope f cd A outer s H E).ex := fun b z => absurd (show b ∈ ([] : List Addr) from z) (by simp)
  refine ⟨⟨e0.mod, S.kind, rfl, rfl, Nat.le_refl _, fun y z c h1 h2 => ?_, fun y hy => ?_, fun y c _ h => ?_, fun _ => hd, Around.frames_deeper e0.frames, .inr ⟨rfl, rfl⟩, fun b z => absurd z (noA b), e0.bs, e0.bsz, fun b _ _ => noA b, fun b z => absurd z (noA b), e0.funs, e0.frf, fun y c _ h => Nat.le_of_lt (x.above y c (PySem.mem_of_lookup h)), fun b hb => e0.hok.fresh hb⟩,
    rfl, e0.bare, Un.kept hk, ⟨_, x.toInCall.ns, fun i y v h1 h2 h3 => ?_⟩, fun y c h => ⟨_, x.cell y c h⟩, e0.hok.fresh (Nat.le_refl _), fun y c h => .inl ?_, fun p hp => absurd (show p ∈ ([] : List (Addr × Obj)) from hp) (by simp), e0.hok.kept hk, ?_⟩
  · exact name_of_addr x.apart (PySem.mem_of_lookup h1) (PySem.mem_of_lookup h2)
  · have hy : scope.names.lookup y = some .cell ∨ scope.names.lookup y = some .free := hy
    rcases hy with hy | hy
    · exact cell_has hy
    · exact absurd rfl (S.nofree _ (PySem.mem_of_lookup hy))
  · exact Nat.le_of_lt (x.above y c (PySem.mem_of_lookup h))
  · have hi : i < vs.length := by
      unfold start at h2
      by_cases hi : i < vs.length
      · exact hi
      · rw [List.getElem?_append_right (by simpa using hi)] at h2
        rw [List.getElem?_replicate] at h2
        split at h2 <;> cases h2
    have ha : vs[i]? = some v := by
      unfold start at h2
      rw [List.getElem?_append_left (by simpa using hi), List.getElem?_map] at h2
      cases e : vs[i]? with
      | none => rw [e] at h2; cases h2
      | some a => rw [e] at h2; cases h2; rfl
    obtain ⟨u, hu, rv⟩ := r.get ha
    have hp : ps[i]? = some y := by
      rw [← S.pre, List.getElem?_take_of_lt (by omega)]; exact h1
    have ndP : ps.Nodup := by rw [← S.pre]; exact S.nd.sublist (List.take_sublist _ _)
    refine ⟨u, rv, ?_⟩
    rcases S.par y (List.mem_of_getElem? hp) with k | k
    · exact .inl ⟨k, bindL_get ndP hp hu k⟩
    · obtain ⟨c, e⟩ := cell_has (n := s.heap.objs.size + 1) k
      refine .inr ⟨.inl k, c, e, ?_⟩
      have q := x.cell y c e
      rw [bindC_get ndP hp hu (by show scope.names.lookup y ≠ _; rw [k]; decide)] at q
      exact q
  · exact e0.hok.fresh (Nat.le_of_lt (x.above y c (PySem.mem_of_lookup h)))
  · unfold start
    show _ = N.length
    rw [List.length_append, List.length_map, List.length_replicate]
    omega

/-  THE RULE: a def (or a method) of the text, by its body. The body's reading t is chosen for each entry; it is run at the parameters' values -/
theorem fn_of {CX : CXT} {P : Program} {w : World} {K : PySem.W.Frag} {mg : Str → Option Value} {base : Heap} {k : Nat} {f : Addr} {name qual : Str} {params : Arguments} {body : List Stmt} {scope : Scope} {dV kV doc pm cdv ct oc : Value} {an od : Option Addr}
    {osl : Array (Option Value)} {N ps : List Str} {sp : Sp} (lk : K.lookup f = some ⟨oc, od, .func (PySem.W.fnOf name qual params body scope dV kV doc pm an cdv ct), osl⟩) (hcd : PySem.W.codeIn K cdv qual = true) (S : FnScope N ps scope)
    (len : ∀ vs H Q E, sp vs H Q E → vs.length = ps.length)
    (hbody : ∀ (A : Around) (outer : List Env) (s : Shared) (H : Hp) (vs : List V) (Q : VK) (E : XK), Room k (A.deeper (envOfC qual scope s.heap.objs.size f cdv)) → sp vs H Q E →
      ∃ t, PSs (cxOf CX P w K mg base N qual scope f cdv A outer s H E) body t ∧ t { nx := fun _ H' => Q .non H', rt := Q } (start N vs) H) :
    FnOk P w K mg base CX (k + 1) f (PySem.W.fnOf name qual params body scope dV kV doc pm an cdv ct) ps sp := by
  refine ⟨len, fun A outer s H args us vs Q E hr e0 hb r hsp => ?_⟩
  have hl := len _ _ _ _ hsp
  have KX : K.In s.heap := e0.mod.kin.keeps fun b o e => (e0.bs b o e).1
  have lim : s.heap.NoLimit := e0.mod.nolimit.keeps fun b o e => (e0.bs b o e).1
  have hkind : ∀ y ∈ ps.zip us, scope.names.lookup y.1 = some .local ∨ (scope.names.lookup y.1 = some .cell ∧ ((cellsFrom (s.heap.objs.size + 1) scope.names []).lookup y.1).isSome = true) := fun ⟨n, v⟩ hy => by
    rcases S.par n (List.of_mem_zip hy).1 with q | q
    · exact .inl q
    · exact .inr ⟨q, PySem.W.cellsFrom_some _ _ _ (.inl q)⟩
  refine codeAny_call_function hr.depth (KX _ _ lk) rfl S.co S.gen rfl (PySem.W.codeRec_of KX hcd) (hb _ _ _ _ ?_)
  refine wpAny_newFunctionEnv_cells S.kind hkind fun env he s1 x => ?_
  subst he
  refine ⟨lim.keeps x.toInCall.keep, codeAny_func ?_⟩
  obtain ⟨t, ht, hq⟩ := hbody A outer s H vs Q E (hr.deeper _) hsp
  have I : Inv (cxOf CX P w K mg base N qual scope f cdv A outer s H E) [] (start N vs) H s1 := inv_start S hr.hd e0 hl r x
  refine wpAny_mono (ht [] s1 (start N vs) H _ I hq) (fun fl s' hs => ?_) fun e s' hs => hs
  have fin : ∀ {σ' : St} {H' : Hp} {v : V} {u : Value}, Inv (cxOf CX P w K mg base N qual scope f cdv A outer s H E) [] σ' H' s' → RelV v u → Q v H' → CE outer P w H s Q u s' :=
    fun {σ' H' v u} J rv q => ⟨v, H', J.os, J.bare, J.base, J.hok, rv, q⟩
  cases fl with
  | ret u =>
    obtain ⟨v, σ', H', J, rv, q⟩ := hs
    exact fin J rv q
  | next =>
    obtain ⟨σ', H', J, q⟩ := hs
    exact fin (v := V.non) (u := Value.none) J rfl q
  | brk =>
    obtain ⟨_, _, _, q⟩ := hs
    exact False.elim q
  | cont =>
    obtain ⟨_, _, _, q⟩ := hs
    exact False.elim q
end L2

namespace L2
open PySem PySem.Spec PyProof.Rows
section
variable {X : Cx} {x : Str} {p pos : Pos} {e : Expr} {es : List Expr} {t : TA} {id T : String} {r : List V → Hp → VK → Prop}

def tCB (r : List V → Hp → VK → Prop) (t : TA) : TE := fun σ H Q => t σ H fun vs H1 => r vs H1 Q
/-  f(e, ..), f a built-in function -/
theorem pe_callB (hc : CallR X (.builtin id) r) (hg : Gl X x) (hm : X.mg x = none) (hv : bootBuiltins x = some (.builtin id)) (ha : PA X (e :: es) t) (hn : x ≠ "__name__" := by decide) (hdb : (x == ("__debug__" : Str)) = false := by decide)
    (he : starEach (e :: es) X.env = (false, eval e X.env) :: starEach es X.env := by rfl) (hpl : (backTo pos (starEach es X.env)).any (·.1) = false := by rfl) : PE X (.Call (.Name x p) (e :: es) [] pos) (tCB r t) := by
  intro pins s σ H Q I h
  refine wpAny_Call_Name_kw (ld_blt I hg hm hv ?_ hn hdb)
  exact PyProof.Rows.callWith_builtin1 (thn (ha pos pins s σ H _ I h) fun us s1 ⟨vs, H1, I1, r1, q1⟩ => hc pins s1 σ H1 vs us Q I1 r1 q1) he hpl
/-  T(e, ..), T a built-in type -/
theorem pe_callTy (hc : CallR X (.type T) r) (hg : Gl X x) (hm : X.mg x = none) (hv : bootBuiltins x = some (.type T)) (ha : PA X (e :: es) t) (hn : x ≠ "__name__" := by decide) (hdb : (x == ("__debug__" : Str)) = false := by decide)
    (he : starEach (e :: es) X.env = (false, eval e X.env) :: starEach es X.env := by rfl) (hpl : (backTo pos (starEach es X.env)).any (·.1) = false := by rfl) : PE X (.Call (.Name x p) (e :: es) [] pos) (tCB r t) := by
  intro pins s σ H Q I h
  refine wpAny_Call_Name_kw (ld_blt I hg hm hv ?_ hn hdb)
  exact PyProof.Rows.callWith_type1 (thn (ha pos pins s σ H _ I h) fun us s1 ⟨vs, H1, I1, r1, q1⟩ => hc pins s1 σ H1 vs us Q I1 r1 q1) he hpl
/-  T() -/
end
end L2

namespace HT
open PySem PyProof.Rows

/-  t < u of tuples of ints -/
def lexLt : List Int → List Int → Bool
  | [], [] => false
  | [], _ :: _ => true
  | _ :: _, [] => false
  | x :: xs, y :: ys => if x = y then lexLt xs ys else decide (x < y)
theorem lexLt_cons (x y : Int) (xs ys : List Int) : lexLt (x :: xs) (y :: ys) = if x = y then lexLt xs ys else decide (x < y) := rfl
theorem eqAt_int (A : Around) (s : Shared) (a : Int) (t : Tok) (c : Int) (u : Tok) : ∃ e, SeqAt.EqAt A s (.int a t) (.int c u) e ∧ (e = true ↔ a = c) :=
  ⟨(a == c), SeqAt.EqAt.int_int a t c u, by simp⟩
theorem rcLt_int (A : Around) (s : Shared) (a : Int) (t : Tok) (c : Int) (u : Tok) (prog : Program) (w : World) (E : Value → Shared → Prop) (Q : Value → Shared → Prop) (h : Q (.bool (decide (a < c))) s) :
    wpAny (model prog w) A (richCompare .Lt (.int a t) (.int c u)) Q E s :=
  (PyProof.Rows.lt_int h : wpAny (model prog w) A (compareOp .Lt (.int a t) (.int c u)) Q E s)

section
open PySem.SeqAt
open PySem.AutoSeq1 (wpAny_loadPart')
open PySem.MeetsSeq PySem.MeetsSeq2 PySem.MeetsSeq3

end

section
variable {prog : Program} {w : World} {A : Around} {E : Value → Shared → Prop} {s : Shared}

/-  t + u, t not empty -/
/-! ### t[a:b], not the whole -/
/-  a slice's bound as a place among n (d where it is left out) -/
def sIx (n d : Nat) : Option Int → Nat
  | none => d
  | some v => if v < 0 then (v + (n : Int)).toNat else min v.toNat n
theorem sIx_none (n d : Nat) : sIx n d none = d := rfl
theorem sIx_le (n d : Nat) (hd : d ≤ n) (o : Option Int) : sIx n d o ≤ n := by
  cases o with
  | none => exact hd
  | some v =>
    show (if v < 0 then (v + (n : Int)).toNat else min v.toNat n) ≤ n
    by_cases hv : v < 0
    · rw [if_pos hv]; omega
    · rw [if_neg hv]; exact Nat.min_le_right _ _
theorem clip_eq (v : Int) (n d : Nat) : (if v < 0 then max (v + (n : Int)) 0 else min v (n : Int)) = ((sIx n d (some v) : Nat) : Int) := by
  show (if v < 0 then max (v + (n : Int)) 0 else min v (n : Int)) = (((if v < 0 then (v + (n : Int)).toNat else min v.toNat n) : Nat) : Int)
  by_cases hv : v < 0
  · simp only [if_pos hv]; omega
  · simp only [if_neg hv]; omega
theorem adjust_gen (lo hi : Option Int) (n : Nat) : Builtin.Slice.sliceAdjust lo hi 1 (n : Int) = (((sIx n 0 lo : Nat) : Int), ((sIx n n hi : Nat) : Int)) := by
  have h1 : ¬ ((1 : Int) < 0) := by omega
  unfold Builtin.Slice.sliceAdjust
  simp only [h1, if_false]
  refine Prod.ext ?_ ?_
  · cases lo with
    | none => rfl
    | some v => exact clip_eq v n 0
  · cases hi with
    | none => rfl
    | some v => exact clip_eq v n n
theorem places_gen (i j : Nat) : Builtin.Slice.slicePlaces (i : Int) (j : Int) 1 = j - i := by
  unfold Builtin.Slice.slicePlaces
  have h1 : (1 : Int) > 0 := by omega
  simp only [h1, if_true, Int.ediv_one]
  split <;> omega
theorem slicePart_ {v : Value} {o : Option Int} {Q : Option Int → Shared → Prop} (p : IsPart v o) (h : Q o s) : wpAny (model prog w) A (Builtin.Slice.slicePartIndex v) Q E s := by
  cases p with
  | none => exact slicePart_none h
  | int i t => exact slicePart_int h
theorem sliceApplied_gen {sl : Addr} {vl vu : Value} {lo hi : Option Int} {n : Nat} {Q : Int × Int × Nat → Shared → Prop} (hs : s.heap.IsSliceOf sl vl vu .none) (pl : IsPart vl lo) (pu : IsPart vu hi)
    (h : Q (((sIx n 0 lo : Nat) : Int), 1, sIx n n hi - sIx n 0 lo) s) : wpAny (model prog w) A (Builtin.Slice.sliceApplied (.ref sl) (pure (n : Int))) Q E s := by
  obtain ⟨os, hos, hcs, hds⟩ := id hs
  unfold Builtin.Slice.sliceApplied Builtin.Slice.sliceFields
  refine wpAny_bind (wpAny_bind (wpAny_field hos hds (x := vl) rfl (wpAny_bind (wpAny_field hos hds (x := vu) rfl (wpAny_bind (wpAny_field hos hds (x := .none) rfl (wpAny_pure ?_)))))))
  refine wpAny_bind (slicePart_none ?_)
  show wpAny _ _ (if ((1 : Int) == 0) = true then _ else _) _ _ s
  rw [if_neg (by decide)]
  refine wpAny_bind (slicePart_ pl (wpAny_bind (slicePart_ pu (wpAny_bind (wpAny_pure ?_)))))
  show wpAny _ _ (match Builtin.Slice.sliceAdjust lo hi 1 (n : Int) with | (lo, hi) => pure (lo, (1 : Int), Builtin.Slice.slicePlaces lo hi 1)) _ _ s
  rw [adjust_gen lo hi n]
  show wpAny _ _ (pure (((sIx n 0 lo : Nat) : Int), (1 : Int), Builtin.Slice.slicePlaces ((sIx n 0 lo : Nat) : Int) ((sIx n n hi : Nat) : Int) 1)) _ _ s
  rw [places_gen]
  exact wpAny_pure h
theorem pick_gen (xs : Array Value) (i k : Nat) : ((List.range k).filterMap fun (m : Nat) => xs[((i : Int) + (m : Int) * 1).toNat]?).toArray = ((xs.toList.drop i).take k).toArray := by
  have e : (fun (m : Nat) => xs[((i : Int) + (m : Int) * 1).toNat]?) = fun m => xs[i + m]? := by
    funext m
    have : ((i : Int) + (m : Int) * 1).toNat = i + m := by omega
    rw [this]
  rw [e]
  have := pick_run xs i k
  rw [List.filterMap_map] at this
  have e2 : ((fun x => xs[x]?) ∘ fun x => i + x) = fun m => xs[i + m]? := rfl
  rw [e2] at this
  rw [this]

theorem getItem_tuple_cut {t sl : Addr} {items : Array Value} {vl vu : Value} {lo hi : Option Int} {Q : Value → Shared → Prop} (ht : IsTup s.heap t items) (hs : s.heap.IsSliceOf sl vl vu .none) (pl : IsPart vl lo) (pu : IsPart vu hi)
    (hw : ¬ (sIx items.size 0 lo = 0 ∧ sIx items.size items.size hi = items.size))
    (h : Q (.ref s.heap.objs.size) { s with heap := s.heap.push { cls := .type "tuple", data := .seq ((items.toList.drop (sIx items.size 0 lo)).take (sIx items.size items.size hi - sIx items.size 0 lo)).toArray } })
    (hsz : items.size ≤ sizeLine) : wpAny (model prog w) A (getItem (.ref t) (.ref sl)) Q E s := by
  have htake : sizeOk (.seq ((items.toList.drop (sIx items.size 0 lo)).take (sIx items.size items.size hi - sIx items.size 0 lo)).toArray) := by
    show ((items.toList.drop (sIx items.size 0 lo)).take (sIx items.size items.size hi - sIx items.size 0 lo)).toArray.size ≤ sizeLine
    rw [List.size_toArray, List.length_take, List.length_drop, Array.length_toList]
    omega
  have hj : sIx items.size items.size hi ≤ items.size := sIx_le _ _ (Nat.le_refl _) hi
  obtain ⟨os, hos, hcs, hds⟩ := id hs
  have hTs : s.TypeIs (.ref sl) "slice" := ⟨os, hos, hcs⟩
  unfold getItem
  try with_reducible refine wpAny_holding ?_
  first | refine wpAny_bind (wpAny_pure ?_) | skip
  refine wpAny_bind (wpAny_sequenceKey ht.typeIs (by decide) ?_)
  refine wpAny_bind (wpAny_callSpecial?_slot (name := Str.ofString "__getitem__") ht.typeIs PyProof.Rows.slot_tuple_getitem
    (wpAny_call_entry PyProof.Rows.slot_tuple_getitem ht.typeIs entry_tuple_getitem ?_ (args_tuple_getitem _ _)))
  show wpAny _ _ (Builtin.Tuple.tupleItemsOf (.ref t) >>= _) _ _ s
  refine wpAny_bind (tupleItemsOf_ ht ?_)
  refine wpAny_bind (wpAny_typeOf hTs ?_)
  rw [if_pos (by decide)]
  refine wpAny_bind (sliceApplied_gen hs pl pu ?_)
  have hno : ¬ ((((sIx items.size 0 lo : Nat) : Int) == 0 && (1 : Int) == 1 && (sIx items.size items.size hi - sIx items.size 0 lo) == items.size) = true) := by
    intro q
    rw [Bool.and_eq_true, Bool.and_eq_true] at q
    have q1 : ((sIx items.size 0 lo : Nat) : Int) = 0 := eq_of_beq q.1.1
    have q2 : sIx items.size items.size hi - sIx items.size 0 lo = items.size := eq_of_beq q.2
    exact hw ⟨by omega, by omega⟩
  show wpAny _ _ (if (((sIx items.size 0 lo : Nat) : Int) == 0 && (1 : Int) == 1 && (sIx items.size items.size hi - sIx items.size 0 lo) == items.size) = true then _ else _) _ _ s
  rw [if_neg hno, pick_gen]
  first
    | exact wpAny_bind (m := Builtin.Tuple.tupleExact _) (wpAny_newObj_type (wpAny_pure ⟨_, rfl, wpAny_pure h⟩) htake)
    | exact wpAny_bind (m := Builtin.Tuple.tupleExact _) (wpAny_newObj_type (wpAny_bind (wpAny_pure (wpAny_pure ⟨_, rfl, wpAny_pure h⟩))) htake)
    | exact wpAny_bind (wpAny_bind (m := Builtin.Tuple.tupleExact _) (wpAny_newObj_type (wpAny_pure (wpAny_pure ⟨_, rfl, wpAny_pure h⟩)) htake))
    | exact wpAny_bind (wpAny_bind (m := Builtin.Tuple.tupleExact _) (wpAny_newObj_type (wpAny_pure ⟨_, rfl, wpAny_pure h⟩) htake))
end
end HT

namespace L2
open PySem PySem.Spec PyProof.Rows

/-! ### the parts of a slice -/
abbrev TO := St → Hp → (Option Int → Hp → Prop) → Prop
/-  a slice's part (left out, or an int) -/
def PO (X : Cx) (e : Option Expr) (t : TO) : Prop :=
  ∀ (pins : List (Addr × Obj)) (s : Shared) (σ : St) (H : Hp) (Q : Option Int → Hp → Prop), Inv X pins σ H s → t σ H Q →
    wpAny (model X.prog X.w) X.A (evalPart e X.env) (fun u s' => ∃ o H', Inv X pins σ H' s' ∧ IsPart u o ∧ Q o H') X.xe s
def tNoPart : TO := fun _ H Q => Q none H
def tPart (t : TE) : TO := fun σ H Q => t σ H fun x H1 => ∃ i, x = .int i ∧ Q (some i) H1

theorem intsAre_of {ns : List Int} : ∀ {us : List Value}, Vals (ns.map V.int) us → IntsAre us ns := by
  induction ns with
  | nil => intro us r; rw [List.map_nil] at r; cases r; exact .nil
  | cons n ns ih =>
    intro us r
    rw [List.map_cons] at r
    cases r with
    | cons r1 r2 =>
      obtain ⟨t, e⟩ := r1
      subst e
      exact .cons n t (ih r2)

section
variable {X : Cx} {e : Expr} {te : TE} {lo hi : Option Expr} {tl th : TO} {pos p2 : Pos}

theorem po_none : PO X none tNoPart := by
  intro pins s σ H Q I h
  rw [evalPart_none]
  exact wpAny_pure ⟨none, H, I, .none, h⟩
theorem po_some (h : PE X e te) : PO X (some e) (tPart te) := by
  intro pins s σ H Q I hw
  rw [evalPart_some]
  refine thn (h pins s σ H _ I hw) fun u s1 ⟨x, H1, I1, r1, q1⟩ => ?_
  obtain ⟨i, rfl, q⟩ := q1
  obtain ⟨t, rfl⟩ := r1
  exact ⟨some i, H1, I1, .int i t, q⟩

/-  what a slice of a value is, by values: the slice object stands at sl -/
def SlR (X : Cx) (r : V → Option Int → Option Int → Hp → VK → Prop) : Prop :=
  ∀ (pins : List (Addr × Obj)) (s : Shared) (σ : St) (H : Hp) (x : V) (v vl vu : Value) (lo hi : Option Int) (sl : Addr) (Q : VK), Inv X pins σ H s → RelV x v → s.heap.IsSliceOf sl vl vu .none → IsPart vl lo → IsPart vu hi → r x lo hi H Q →
    ∃ T id, typeLookup (.type T) "__getitem__" = pure (some (.builtin id)) ∧ s.TypeIs v T ∧ wpAny (model X.prog X.w) X.A (getItem v (.ref sl)) (EP X pins σ Q) X.xe s
def tSl (r : V → Option Int → Option Int → Hp → VK → Prop) (te : TE) (tl th : TO) : TE := fun σ H Q => te σ H fun x H1 => tl σ H1 fun l H2 => th σ H2 fun u H3 => r x l u H3 Q
/-  a[lo:hi], any a -/
theorem pe_slice {r : V → Option Int → Option Int → Hp → VK → Prop} (hr : SlR X r) (he : PE X e te) (hl : PO X lo tl) (hu : PO X hi th) : PE X (.Subscript e (.Slice lo hi none p2) pos) (tSl r te tl th) := by
  intro pins s σ H Q I h
  refine Subscript_ (thn (he pins s σ H _ I h) fun v s1 ⟨x, H1, I1, r1, q1⟩ => ?_)
  refine wpAny_Slice (thn (hl pins s1 σ H1 _ I1 q1) fun vl s2 ⟨l, H2, I2, pl, q2⟩ => thn (hu pins s2 σ H2 _ I2 q2) fun vu s3 ⟨u, H3, I3, pu, q3⟩ => ?_)
  rw [evalPart_none]
  refine wpAny_pure ?_
  have I4 : Inv X pins σ H3 { s3 with heap := s3.heap.push { cls := .type "slice", data := .fields #[vl, vu, .none] } } := I3.kept (t' := s3.toks) fun b ob q => Heap.get?_push_of_some _ q
  obtain ⟨T, id, hT, ht, hg⟩ := hr pins { s3 with heap := s3.heap.push { cls := .type "slice", data := .fields #[vl, vu, .none] } } σ H3 x v vl vu l u s3.heap.objs.size Q I4 r1 (Heap.IsSliceOf.new ..) pl pu q3
  show wpAny (model X.prog X.w) X.A (subscriptTail e (.Slice lo hi none p2) v (.ref s3.heap.objs.size)) (EP X pins σ Q) X.xe { s3 with heap := s3.heap.push { cls := .type "slice", data := .fields #[vl, vu, .none] } }
  exact tail_any (ops := [.ref s3.heap.objs.size, v]) ht hT hg (by with_unfolding_all rfl)

/-  the items of xs[lo:hi] -/
def cutV (xs : List V) (lo hi : Option Int) : List V := (xs.drop (HT.sIx xs.length 0 lo)).take (HT.sIx xs.length xs.length hi - HT.sIx xs.length 0 lo)
theorem cutV_length (xs : List V) (lo hi : Option Int) : (cutV xs lo hi).length ≤ xs.length := by
  unfold cutV
  rw [List.length_take, List.length_drop]
  omega
/-  t[lo:hi], not the whole of it (the whole would be t itself) -/
def rSlT (K : PySem.W.Frag) : V → Option Int → Option Int → Hp → VK → Prop := fun x lo hi H Q => ∃ a xs, x = .ref a ∧ SqT K H a xs ∧
  ¬ (HT.sIx xs.length 0 lo = 0 ∧ HT.sIx xs.length xs.length hi = xs.length) ∧ ∀ p, H p = none → Q (.ref p) (upd H p (.tup (cutV xs lo hi)))
theorem sl_tup : SlR X (rSlT X.K) := by
  intro pins s σ H x v vl vu lo hi sl Q I rx hs pl pu h
  obtain ⟨a, xs, rfl, hx, hw, q⟩ := h
  cases rx
  obtain ⟨its, r, ht, hz⟩ := I.tuple hx
  have hlen : its.toArray.size = xs.length := by rw [List.size_toArray]; exact r.length.symm
  refine ⟨"tuple", _, PyProof.Rows.slot_tuple_getitem.lookup, ht.typeIs, ?_⟩
  refine HT.getItem_tuple_cut ht hs pl pu (by rw [hlen]; exact hw) ?_ (by rw [hlen]; exact hz)
  rw [hlen]
  refine ⟨.ref s.heap.objs.size, _, I.laid (t' := s.toks) (o := .tup (cutV xs lo hi)) (fun b ob q => Heap.get?_push_of_some _ q) (Nat.le_refl _) ?_, rfl, q _ (I.hok.fresh (Nat.le_refl _))⟩
  exact ⟨Nat.le_trans (cutV_length xs lo hi) hz, _, (r.drop (HT.sIx xs.length 0 lo)).take (HT.sIx xs.length xs.length hi - HT.sIx xs.length 0 lo), IsTup.new _ _⟩

/-! ### t < u, t + u -/
def rLtT (K : PySem.W.Frag) : R2 := fun x y H Q => ∃ a b ns ms, x = .ref a ∧ y = .ref b ∧ SqT K H a (ns.map V.int) ∧ SqT K H b (ms.map V.int) ∧ Q (.bl (HT.lexLt ns ms)) H
/-  t + u, t not empty: u empty gives t itself -/
def rCatT (K : PySem.W.Frag) : R2 := fun x y H Q => ∃ a b xs ys, x = .ref a ∧ y = .ref b ∧ SqT K H a xs ∧ SqT K H b ys ∧ xs ≠ [] ∧ xs.length + ys.length ≤ sizeLine ∧
  (ys = [] → Q (.ref a) H) ∧ (ys ≠ [] → ∀ p, H p = none → Q (.ref p) (upd H p (.tup (xs ++ ys))))
/-  tuple(t) -/
end
end L2

namespace L2
open PySem PySem.Spec PyProof.Rows

/-! ### places -/
/-  the place that an index of any sign means -/
def ixN (n : Nat) (i : Int) : Option Nat := if 0 ≤ i then (if i < n then some i.toNat else none) else if -(n : Int) ≤ i then some (i + n).toNat else none
def atI {α : Type} (xs : List α) (i : Int) : Option α := (ixN xs.length i).bind fun j => xs[j]?
theorem ixN_seq {n : Nat} {i : Int} {j : Nat} (h : ixN n i = some j) : seqIndex? i n = some j ∧ j < n ∧ -(n : Int) ≤ i ∧ i < n := by
  unfold ixN at h
  by_cases h0 : 0 ≤ i
  · rw [if_pos h0] at h
    by_cases h1 : i < n
    · rw [if_pos h1] at h
      have e : i.toNat = j := Option.some.inj h
      exact ⟨by rw [seqIndex_of h0 h1, e], by omega, by omega, h1⟩
    · rw [if_neg h1] at h; cases h
  · rw [if_neg h0] at h
    by_cases h1 : -(n : Int) ≤ i
    · rw [if_pos h1] at h
      have e : (i + n).toNat = j := Option.some.inj h
      exact ⟨by rw [seqIndex_neg (by omega) h1, e], by omega, h1, by omega⟩
    · rw [if_neg h1] at h; cases h
theorem atI_get {α : Type} {xs : List α} {i : Int} {v : α} (h : atI xs i = some v) : ∃ j, seqIndex? i xs.length = some j ∧ xs[j]? = some v ∧ j < xs.length ∧ -(xs.length : Int) ≤ i ∧ i < xs.length := by
  unfold atI at h
  cases e : ixN xs.length i with
  | none => rw [e] at h; cases h
  | some j =>
    rw [e] at h
    obtain ⟨h1, h2, h3, h4⟩ := ixN_seq e
    exact ⟨j, h1, h, h2, h3, h4⟩
theorem atI_nat {α : Type} {xs : List α} {j : Nat} {v : α} (h : xs[j]? = some v) : atI xs (j : Int) = some v := by
  have hj : j < xs.length := (List.getElem?_eq_some_iff.mp h).1
  have e : ixN xs.length (j : Int) = some j := by
    unfold ixN
    rw [if_pos (by omega), if_pos (by omega)]; simp
  unfold atI; rw [e]; exact h
/-! ### what may be subscripted -/
/-  what stands as an index of a plain subscript -/
def PlainIx (b : Expr) : Prop := ∀ o i, subscripted b false o i = operate [o, i] (getItem o i)
/-  a subscript by values -/
def IxR (X : Cx) (r : R2) : Prop :=
  ∀ (value slice : Expr) (pins : List (Addr × Obj)) (s : Shared) (σ : St) (H : Hp) (x y : V) (v u : Value) (Q : VK), Inv X pins σ H s → RelV x v → RelV y u → r x y H Q →
    subscripted slice false v u = operate [v, u] (getItem v u) → wpAny (model X.prog X.w) X.A (subscriptTail value slice v u) (EP X pins σ Q) X.xe s
/-  a call of a builtin's method by values: the receiver, the arguments -/
def MtR (X : Cx) (id : String) (r : V → List V → Hp → VK → Prop) : Prop :=
  ∀ (pins : List (Addr × Obj)) (s : Shared) (σ : St) (H : Hp) (x : V) (xs : List V) (v : Value) (us : List Value) (Q : VK), Inv X pins σ H s → RelV x v → Vals xs us → r x xs H Q →
    wpAny (model X.prog X.w) X.A (call (.builtin id) (v :: us)) (EP X pins σ Q) X.xe s
section
variable {X : Cx} {a b : Expr} {ta tb : TE} {pos : Pos}
/-  a[b] -/
theorem pe_ix {r : R2} (hr : IxR X r) (ha : PE X a ta) (hb : PE X b tb) (hs : PlainIx b) : PE X (.Subscript a b pos) (tOp r ta tb) := by
  intro pins s σ H Q I h
  exact Subscript_ (binT ha hb I h fun v u s2 x y H2 I2 rx ry q => hr a b pins s2 σ H2 x y v u Q I2 rx ry q (hs _ _))

def rIxL (K : PySem.W.Frag) : R2 := fun x y H Q => ∃ p xs i v, x = .ref p ∧ y = .int i ∧ SqL K H p xs ∧ atI xs i = some v ∧ Q v H
def rIxT (K : PySem.W.Frag) : R2 := fun x y H Q => ∃ p xs i v, x = .ref p ∧ y = .int i ∧ SqT K H p xs ∧ atI xs i = some v ∧ Q v H
def rIxS : R2 := fun x y H Q => ∃ z i c, x = .str z ∧ y = .int i ∧ z.length ≤ sizeLine ∧ atI z.cps.toList i = some c ∧ Q (.str ⟨#[c]⟩) H
theorem ix_list : IxR X (rIxL X.K) := by
  intro value slice pins s σ H x y v u Q I rx ry h hs
  obtain ⟨p, xs, i, z, rfl, rfl, hq, he, q⟩ := h
  cases rx
  obtain ⟨t, rfl⟩ := ry
  obtain ⟨its, r, pl, hz⟩ := I.list hq
  obtain ⟨j, h1, h2, h3, h4, h5⟩ := atI_get he
  obtain ⟨w, ew, rw'⟩ := r.get h2
  have hl := r.length
  have hn := line63
  have fin : EP X pins σ Q w s := ⟨z, H, I, rw', q⟩
  by_cases h0 : 0 ≤ i
  · have hj : i.toNat = j := by
      rw [seqIndex_of h0 h5] at h1
      exact Option.some.inj h1
    exact item_listR pl.isList h0 (by omega) (by rw [hj]; simpa using ew) fin hs
  · have hj : (i + (its.toArray.size : Int)).toNat = j := by
      rw [seqIndex_neg (by omega) h4] at h1
      rw [List.size_toArray, ← hl]
      exact Option.some.inj h1
    exact subscriptTail_builtinR (x := w) pl.isList.typeIs slot_list_getitem.lookup
      (wpAny_getItem_list_neg (Q := fun r s' => r = w ∧ EP X pins σ Q r s') pl.isList (by omega) (by rw [List.size_toArray] <;> omega) (by omega) (by rw [hj]; simpa using ew) ⟨rfl, fin⟩) hs
theorem ix_tup : IxR X (rIxT X.K) := by
  intro value slice pins s σ H x y v u Q I rx ry h hs
  obtain ⟨p, xs, i, z, rfl, rfl, hq, he, q⟩ := h
  cases rx
  obtain ⟨t, rfl⟩ := ry
  obtain ⟨its, r, pl, hz⟩ := I.tuple hq
  obtain ⟨j, h1, h2, h3, h4, h5⟩ := atI_get he
  obtain ⟨w, ew, rw'⟩ := r.get h2
  have hl := r.length
  have hn := line63
  have fin : EP X pins σ Q w s := ⟨z, H, I, rw', q⟩
  exact subscriptTail_builtinR (x := w) pl.typeIs slot_tuple_getitem.lookup
    (getItem_tuple (j := j) (Q := fun r s' => r = w ∧ EP X pins σ Q r s') pl (by omega) (by omega) (by rw [List.size_toArray, ← hl]; exact h1) (by simpa using ew) ⟨rfl, fin⟩) hs
/-  list, tuple or str -/
def rIx (K : PySem.W.Frag) : R2 := fun x y H Q => rIxL K x y H Q ∨ rIxT K x y H Q ∨ rIxS x y H Q
/-! ### xs[i] = v, any sign -/
/-  the list's object behind a store -/
/-  the list at p is written by an update of its object -/
def rSetL : V → V → V → Hp → (Hp → Prop) → Prop := fun o i v H Q => ∃ p xs k j, o = .ref p ∧ i = .int k ∧ H p = some (.lst xs) ∧ ixN xs.length k = some j ∧ Q (upd H p (.lst (xs.set j v)))
/-! ### slices -/
theorem slice_bounds (lo hi : Option Int) (n : Nat) : (sliceBounds lo hi none n).1 = ((HT.sIx n 0 lo : Nat) : Int) ∧ (sliceBounds lo hi none n).2.1 = ((HT.sIx n n hi : Nat) : Int) ∧ (sliceBounds lo hi none n).2.2 = 1 := by
  refine ⟨?_, ?_, rfl⟩
  · cases lo with
    | none => simp [sliceBounds, HT.sIx]
    | some i =>
      simp only [sliceBounds, HT.sIx, Option.getD_none, show (1 : Int) > 0 by decide, if_true]
      by_cases h : i < 0
      · simp only [h, if_true] <;> omega
      · simp only [h, if_false] <;> omega
  · cases hi with
    | none => simp [sliceBounds, HT.sIx]
    | some i =>
      simp only [sliceBounds, HT.sIx, Option.getD_none, show (1 : Int) > 0 by decide, if_true]
      by_cases h : i < 0
      · simp only [h, if_true] <;> omega
      · simp only [h, if_false] <;> omega
theorem slicePick_cut (its : List Value) (lo hi : Option Int) : slicePick its.toArray lo hi none = ((its.drop (HT.sIx its.length 0 lo)).take (HT.sIx its.length its.length hi - HT.sIx its.length 0 lo)).toArray := by
  obtain ⟨h1, h2, h3⟩ := slice_bounds lo hi its.toArray.size
  unfold slicePick
  rw [h1, h2, h3]
  simp only [sliceRange_one, pick_run, List.size_toArray] <;> rfl
/-  xs[lo:hi] of a list: a new list -/
def rSlL (K : PySem.W.Frag) : V → Option Int → Option Int → Hp → VK → Prop := fun x lo hi H Q => ∃ a xs, x = .ref a ∧ SqL K H a xs ∧ ∀ p, H p = none → Q (.ref p) (upd H p (.lst (cutV xs lo hi)))
theorem sl_list : SlR X (rSlL X.K) := by
  intro pins s σ H x v vl vu lo hi sl Q I rx hs pl pu h
  obtain ⟨a, xs, rfl, hx, q⟩ := h
  cases rx
  obtain ⟨its, r, ht, hz⟩ := I.list hx
  have hlen := r.length
  refine ⟨"list", _, slot_list_getitem.lookup, ht.isList.typeIs, ?_⟩
  refine wpAny_getItem_list_slice ht.isList hs pl pu .none (by simp) ?_ (by rw [List.size_toArray] <;> omega)
  rw [slicePick_cut, ← hlen]
  refine ⟨.ref s.heap.objs.size, _, I.laid (t' := s.toks) (o := .lst (cutV xs lo hi)) (fun b ob q => Heap.get?_push_of_some _ q) (Nat.le_refl _) ?_, rfl, q _ (I.hok.fresh (Nat.le_refl _))⟩
  exact ⟨Nat.le_trans (cutV_length xs lo hi) hz, _, 0, (r.drop (HT.sIx xs.length 0 lo)).take (HT.sIx xs.length xs.length hi - HT.sIx xs.length 0 lo), Heap.get?_push_size _ rfl⟩

/-! ### in, not in: flat items -/
def flatV : V → Bool
  | .non => true
  | .bl _ => true
  | .int _ => true
  | .str _ => true
  | _ => false
/-  == of flat values -/
def eqV : V → V → Bool
  | .non, .non => true
  | .bl a, .bl b => a == b
  | .bl a, .int b => (if a then 1 else 0) == b
  | .int a, .bl b => a == (if b then 1 else 0)
  | .int a, .int b => a == b
  | .str a, .str b => a == b
  | _, _ => false
/-  the items' answers, read off the values (a value's own answer does not lean on its token) -/
def eqU (x : V) (u : Value) : Bool := match u with
  | .none => eqV .non x
  | .bool b => eqV (.bl b) x
  | .int i _ => eqV (.int i) x
  | .str z _ => eqV (.str z) x
  | _ => false
def inV (x : V) (xs : List V) : Bool := xs.any fun y => eqV y x
/-  x in a list or tuple of flat items -/
def rIn (K : PySem.W.Frag) (neg : Bool) : R2 := fun x y H Q => ∃ p xs, y = .ref p ∧ (SqL K H p xs ∨ SqT K H p xs) ∧ flatV x = true ∧ xs.all flatV = true ∧ Q (.bl (if neg then !inV x xs else inV x xs)) H
/-! ### len, list(x), tuple(x) of any list or tuple that is read -/
theorem call_len_seq : CallR X (.builtin "len") (fun xs H Q => ∃ p ys, xs = [.ref p] ∧ (SqL X.K H p ys ∨ SqT X.K H p ys) ∧ Q (.int ys.length) H) := by
  intro pins s σ H xs us Q I r h
  obtain ⟨p, ys, rfl, hq, q⟩ := h
  obtain ⟨u, rfl, rx⟩ := vals1 r
  cases rx
  have hn := line63
  rcases hq with hq | hq
  · obtain ⟨its, r', pl, hz⟩ := I.list hq
    have hlen := r'.length
    exact Calls.call_len_list pl.isList (by simp only [List.size_toArray] <;> omega) ⟨.int ys.length, H, I.tok _, ⟨s.toks + 1, by rw [List.size_toArray, hlen]⟩, q⟩
  · obtain ⟨its, r', pl, hz⟩ := I.tuple hq
    have hlen := r'.length
    exact len_tuple pl (by simp only [List.size_toArray] <;> omega) ⟨.int ys.length, H, I.tok _, ⟨s.toks + 1, by rw [List.size_toArray, hlen]⟩, q⟩
theorem call_list_of : CallR X (.type "list") (fun xs H Q => ∃ p ys, xs = [.ref p] ∧ (SqL X.K H p ys ∨ SqT X.K H p ys) ∧ ∀ l, H l = none → Q (.ref l) (upd H l (.lst ys))) := by
  intro pins s σ H xs us Q I r h
  obtain ⟨p, ys, rfl, hq, q⟩ := h
  obtain ⟨u, rfl, rx⟩ := vals1 r
  cases rx
  have fin : ∀ (its : List Value), Vals ys its → ys.length ≤ sizeLine → ∀ (h' : Heap) (c' : Nat), (∀ b o', s.heap.get? b = some o' → h'.get? b = some o') →
      h'.get? s.heap.objs.size = some { cls := .type "list", dict := none, data := .seq its.toArray c', slots := #[] } → EP X pins σ Q (.ref s.heap.objs.size) { s with heap := h' } := fun its r' hz h' c' kp e =>
    ⟨.ref s.heap.objs.size, _, I.laid (t' := s.toks) kp (Nat.le_refl _) (show ObjOk X.prog X.w _ h' _ (.lst ys) from ⟨hz, its, c', r', e⟩), rfl, q _ (I.hok.fresh (Nat.le_refl _))⟩
  rcases hq with hq | hq
  · obtain ⟨its, r', pl, hz⟩ := I.list hq
    have hlen := r'.length
    obtain ⟨o, ho, hc, n, hd⟩ := pl.isList
    exact call_list_seq p (.inl rfl) ho hc hd (fun h' c' kp e => fin its r' hz h' c' kp e) (by simp only [List.size_toArray] <;> omega)
  · obtain ⟨its, r', pl, hz⟩ := I.tuple hq
    have hlen := r'.length
    obtain ⟨o, ho, hc, n, hd⟩ := pl
    exact call_list_seq p (.inr rfl) ho hc hd (fun h' c' kp e => fin its r' hz h' c' kp e) (by simp only [List.size_toArray] <;> omega)
theorem call_tuple_of : CallR X (.type "tuple") (fun xs H Q => ∃ p ys, xs = [.ref p] ∧ ((SqL X.K H p ys ∧ ∀ l, H l = none → Q (.ref l) (upd H l (.tup ys))) ∨ (SqT X.K H p ys ∧ Q (.ref p) H))) := by
  intro pins s σ H xs us Q I r h
  obtain ⟨p, ys, rfl, h⟩ := h
  obtain ⟨u, rfl, rx⟩ := vals1 r
  cases rx
  rcases h with ⟨hq, q⟩ | ⟨hq, q⟩
  · obtain ⟨its, r', pl, hz⟩ := I.list hq
    have hlen := r'.length
    refine call_tuple_list pl.isList (fun h' kp => ?_) (by simp only [List.size_toArray] <;> omega)
    have I1 : Inv X pins σ H { s with heap := h' } := I.kept (t' := s.toks) kp
    have I2 : Inv X pins σ (upd H h'.objs.size (.tup ys)) { s with heap := h'.push { cls := .type "tuple", data := .seq its.toArray } } :=
      I1.laid (t' := s.toks) (fun b o e => Heap.get?_push_of_some _ e) (Nat.le_refl _) (show ObjOk X.prog X.w _ _ _ (.tup ys) from ⟨hz, its, r', IsTup.new _ _⟩)
    exact ⟨.ref h'.objs.size, _, I2, rfl, q _ (I1.hok.fresh (Nat.le_refl _))⟩
  · obtain ⟨its, r', pl, hz⟩ := I.tuple hq
    exact call_tuple_same pl ⟨.ref p, H, I, rfl, q⟩

/-! ### the call of a builtin's method: o.m(..) -/
/-  the value is of that builtin type -/
def tyV (K : PySem.W.Frag) (T : String) (x : V) (H : Hp) : Prop := match x with
  | .str _ => T = "str"
  | .int _ => T = "int"
  | .ref p => (T = "list" ∧ ∃ xs, SqL K H p xs) ∨ (T = "tuple" ∧ ∃ o, K.lookup p = some o ∧ o.cls = .type "tuple" ∧ o.dict = none) ∨
      (T = "dict" ∧ ((∃ kvs, H p = some (.dK kvs)) ∨ ∃ kvs, H p = some (.dT kvs))) ∨ (T = "set" ∧ ∃ S n, H p = some (.set S n))
  | _ => False
theorem tyV_is {pins : List (Addr × Obj)} {σ : St} {H : Hp} {s : Shared} {T : String} {x : V} {v : Value} (I : Inv X pins σ H s) (r : RelV x v) (ty : tyV X.K T x H) :
    s.TypeIs v T ∧ ∀ a, v = .ref a → ∃ ob, s.heap.get? a = some ob ∧ ob.dict = none := by
  cases x with
  | str z =>
    obtain ⟨t, rfl⟩ := r
    cases (show T = "str" from ty)
    exact ⟨typeIs_str s z t, fun _ e => nomatch e⟩
  | int i =>
    obtain ⟨t, rfl⟩ := r
    cases (show T = "int" from ty)
    exact ⟨typeIs_int s i t, fun _ e => nomatch e⟩
  | ref p =>
    cases r
    rcases ty with ⟨rfl, xs, hq⟩ | ⟨rfl, o, hk, hc, hd⟩ | ⟨rfl, hk⟩ | ⟨rfl, S, n, hk⟩
    · obtain ⟨its, _, pl, _⟩ := I.list hq
      refine ⟨pl.isList.typeIs, fun a e => ?_⟩
      cases e
      obtain ⟨o, n, e, c, hd, _⟩ := pl
      exact ⟨o, e, hd⟩
    · refine ⟨⟨o, I.kIn p o hk, hc⟩, fun a e => ?_⟩
      cases e
      exact ⟨o, I.kIn _ o hk, hd⟩
    · have z : ∃ o, s.heap.get? p = some o ∧ o.ExactDict := by
        rcases hk with ⟨kvs, hk⟩ | ⟨kvs, hk⟩
        · obtain ⟨_, _, _, _, o, _, _, e, ex, _⟩ := I.hok p _ hk
          exact ⟨o, e, ex⟩
        · obtain ⟨_, _, _, _, o, _, _, e, ex, _⟩ := I.hok p _ hk
          exact ⟨o, e, ex⟩
      obtain ⟨o, e, ex⟩ := z
      refine ⟨⟨o, e, ex.1⟩, fun a e2 => ?_⟩
      cases e2
      exact ⟨o, e, ex.2.1⟩
    · obtain ⟨o, _, _, _, e, ex, _⟩ := I.hok p _ hk
      refine ⟨⟨o, e, ex.1⟩, fun a e2 => ?_⟩
      cases e2
      exact ⟨o, e, ex.2.1⟩
  | _ => exact False.elim ty
def tBM0 (K : PySem.W.Frag) (T : String) (r : V → List V → Hp → VK → Prop) (to : TE) : TE := fun σ H Q => to σ H fun x H1 => tyV K T x H1 ∧ r x [] H1 Q
def tBM (K : PySem.W.Frag) (T : String) (r : V → List V → Hp → VK → Prop) (to : TE) (t : TA) : TE := fun σ H Q => to σ H fun x H1 => tyV K T x H1 ∧ t σ H1 fun xs H2 => r x xs H2 Q
variable {o e : Expr} {es : List Expr} {to : TE} {t : TA} {name : Str} {apos cpos : Pos} {T id : String} {r : V → List V → Hp → VK → Prop}
theorem pe_bm (pa : PlainAttrs T) (slot : Slot T name id) (hty : typeOf (.builtin id) = pure (.type "method_descriptor")) (hm : MtR X id r) (ho : PE X o to) (ha : PA X (e :: es) t)
    (hbase : attributeBase o name X.env (eval o X.env) = eval o X.env := by rfl)
    (hfew : ((backTo cpos (starEach (e :: es) X.env)).all (fun x => !x.1) && (backToKw cpos (keywordEach [] X.env)).all (fun x => x.1.isSome)
      && decide ((e :: es).length + ([] : List Keyword).length + (if ([] : List Keyword).isEmpty then 0 else 1) < 30)) = true := by rfl)
    (hline : (apos.endLine == cpos.line) = true := by rfl) (hs : starEach (e :: es) X.env = (false, eval e X.env) :: starEach es X.env := by rfl) (hplain : (backTo cpos (starEach es X.env)).any (·.1) = false := by rfl) :
    PE X (.Call (.Attribute o name apos) (e :: es) [] cpos) (tBM X.K T r to t) := by
  intro pins s σ H Q I h
  refine wpAny_Call_method_late hbase hfew hline rfl (thn (ho pins s σ H _ I h) fun v s1 ⟨x, H1, I1, r1, ty, q1⟩ => ?_)
  obtain ⟨h1, h2⟩ := tyV_is I1 r1 ty
  refine ⟨T, id, pa, slot, hty, h1, h2, ?_⟩
  have hA := ha cpos pins s1 σ H1 _ I1 q1
  rw [hs] at hA ⊢
  refine Calls.callWith_builtin (by show (false || (backTo cpos (starEach es X.env)).any (·.1)) = false; rw [hplain] <;> rfl) (Calls.evalArgs_plain ?_)
  exact thn hA fun us s2 ⟨vs, H2, I2, r2, q2⟩ => hm pins s2 σ H2 x vs v us Q I2 r1 r2 q2
/- xs.append(e), list.index on a module's tuple .. are MtR facts of 06m -/
end
end L2

namespace L2
open PySem PySem.Spec PyProof.Rows

def MtM (X : Cx) (id : String) (r : V → List V → Hp → VK → Prop) : Prop :=
  ∀ (pins : List (Addr × Obj)) (s : Shared) (σ : St) (H : Hp) (x : V) (xs : List V) (v : Value) (us : List Value) (Q : VK), Inv X pins σ H s → RelV x v → Vals xs us → r x xs H Q →
    wpAny (model X.prog X.w) X.A (call (.builtin id) (v :: us)) (EP X pins σ Q) X.xe s

/-! ### lists of values -/
theorem Vals.one : ∀ {x : V} {us : List Value}, Vals [x] us → ∃ u, us = [u] ∧ RelV x u
  | _, _, .cons r .nil => ⟨_, rfl, r⟩
theorem Vals.two : ∀ {x y : V} {us : List Value}, Vals [x, y] us → ∃ u v, us = [u, v] ∧ RelV x u ∧ RelV y v
  | _, _, _, .cons r (.cons q .nil) => ⟨_, _, rfl, r, q⟩
theorem Vals.reverse {xs : List V} {us : List Value} (h : Vals xs us) : Vals xs.reverse us.reverse := by
  induction h with
  | nil => exact .nil
  | cons r t ih => rw [List.reverse_cons, List.reverse_cons]; exact Vals.append ih (.cons r .nil)
theorem Vals.rep {xs : List V} {us : List Value} (h : Vals xs us) : ∀ k : Nat, Vals (List.replicate k xs).flatten (List.replicate k us).flatten
  | 0 => .nil
  | k + 1 => by
    rw [List.replicate_succ, List.replicate_succ, List.flatten_cons, List.flatten_cons]
    exact Vals.append h (Vals.rep h k)
theorem foldl_rep (its : List Value) : ∀ (k : Nat) (acc : List Value),
    List.foldl (fun x1 x2 => x1 ++ x2) acc.toArray (List.replicate k its.toArray) = (acc ++ (List.replicate k its).flatten).toArray
  | 0, acc => by simp
  | k + 1, acc => by
    have e : acc.toArray ++ its.toArray = (acc ++ its).toArray := by simp
    have e2 : (acc ++ its) ++ (List.replicate k its).flatten = acc ++ (List.replicate (k + 1) its).flatten := by
      rw [List.replicate_succ, List.flatten_cons, List.append_assoc]
    rw [← e2, ← foldl_rep its k (acc ++ its), ← e, List.replicate_succ, List.foldl_cons]

section
variable {X : Cx} {pins : List (Addr × Obj)} {σ : St} {H : Hp} {s : Shared} {l b : Addr} {xs ys zs : List V}

/-! ### the two steps: a tracked list is rewritten, a new list is laid -/
theorem Inv.lset {its its' : List Value} {n : Nat} {f : Array Value → Array Value} {t' : Nat} (I : Inv X pins σ H s) (hH : H l = some (.lst xs))
    (e : s.heap.get? l = some { cls := .type "list", data := .seq its.toArray n }) (hf : f its.toArray = its'.toArray) (hv : Vals ys its') (hz : ys.length ≤ sizeLine) :
    Inv X pins σ (upd H l (.lst ys)) { s with heap := s.heap.update l (Obj.mapSeq f), toks := t' } := by
  have q := PySem.IsL.update e f
  rw [hf] at q
  refine I.write (x := l) (e := l) (by rw [hH]; exact trivial) (.inl rfl) (fun b' u hb hu => (Heap.get?_update_other s.heap (Obj.mapSeq f) (Ne.symm hb)).trans hu) ⟨_, q⟩ ?_
  exact ⟨hz, its', _, hv, q⟩
theorem Inv.lnew {its : List Value} {t' : Nat} (I : Inv X pins σ H s) (hv : Vals ys its) (hz : ys.length ≤ sizeLine) :
    Inv X pins σ (upd H s.heap.objs.size (.lst ys)) { s with heap := s.heap.push { cls := .type "list", data := .seq its.toArray }, toks := t' } :=
  I.laid (fun _ _ q => Heap.get?_push_of_some _ q) (Nat.le_refl _) ⟨hz, its, 0, hv, Heap.get?_push_size _ rfl⟩
theorem Inv.fresh (I : Inv X pins σ H s) : H s.heap.objs.size = none := I.hok.fresh (Nat.le_refl _)
theorem Inv.lstM (I : Inv X pins σ H s) (hH : H l = some (.lst xs)) : xs.length ≤ sizeLine ∧ ∃ (its : List Value) (n : Nat), Vals xs its ∧ xs.length = its.length ∧ s.heap.get? l = some { cls := .type "list", data := .seq its.toArray n } := by
  obtain ⟨z, its, n, r, e⟩ := I.hok l _ hH
  exact ⟨z, its, n, r, r.length, e⟩

theorem notLongL {n : Nat} (h : n ≤ sizeLine) : Builtin.List.listTooLong n = false := by
  unfold Builtin.List.listTooLong
  exact decide_eq_false (by omega)
end

section
variable {X : Cx}

/-! ### methods -/
def rAppend : V → List V → Hp → VK → Prop := fun x vs H Q => ∃ l xs y, x = .ref l ∧ vs = [y] ∧ H l = some (.lst xs) ∧ xs.length < sizeLine ∧ Q .non (upd H l (.lst (xs ++ [y])))
theorem mt_append : MtM X "list.append" rAppend := by
  intro pins s σ H x vs v us Q I rx rv h
  obtain ⟨l, xs, y, rfl, rfl, hH, hz, q⟩ := h
  cases rx
  obtain ⟨u, rfl, ru⟩ := rv.one
  obtain ⟨z, its, n, r, hl, e⟩ := I.lstM hH
  refine call_meets F.slot_list_append ⟨_, e, rfl⟩ F.entry_list_append (F.args_list_append_2 _ _) (PySem.list_append l its.toArray n u (by rw [List.size_toArray]; omega)) ⟨e, ?_⟩
  refine ⟨.non, _, I.lset (its' := its ++ [u]) hH e (by simp) (r.append (.cons ru .nil)) ?_, rfl, q⟩
  rw [List.length_append, List.length_singleton]
  omega

def rExtend : V → List V → Hp → VK → Prop := fun x vs H Q => ∃ l b xs zs, x = .ref l ∧ vs = [.ref b] ∧ H l = some (.lst xs) ∧ H b = some (.lst zs) ∧ xs.length + zs.length ≤ sizeLine ∧ Q .non (upd H l (.lst (xs ++ zs)))
theorem mt_extend : MtM X "list.extend" rExtend := by
  intro pins s σ H x vs v us Q I rx rv h
  obtain ⟨l, b, xs, zs, rfl, rfl, hH, hB, hz, q⟩ := h
  cases rx
  obtain ⟨u, rfl, ru⟩ := rv.one
  cases ru
  obtain ⟨z, its, n, r, hl, e⟩ := I.lstM hH
  obtain ⟨z2, its2, n2, r2, hl2, e2⟩ := I.lstM hB
  have hsz : its.toArray.size + its2.toArray.size ≤ sizeLine := by rw [List.size_toArray, List.size_toArray]; omega
  have hlong : ¬ (!its.toArray.isEmpty && Builtin.List.listTooLong (its.toArray.size + its2.toArray.size)) = true := by
    rw [notLongL hsz, Bool.and_false]
    exact Bool.false_ne_true
  refine call_meets F.slot_list_extend ⟨_, e, rfl⟩ F.entry_list_extend (F.args_list_extend_2 _ _)
    (AutoSeq1.list_extend_list_list_0 l its.toArray n b its2.toArray n2 hlong (by rw [List.size_toArray]; omega) (by omega)) ⟨e, e2, ?_⟩
  refine ⟨.non, _, I.lset (its' := its ++ its2) hH e (by simp) (r.append r2) ?_, rfl, q⟩
  rw [List.length_append]
  omega

def rPop : V → List V → Hp → VK → Prop := fun x vs H Q => ∃ l xs y, x = .ref l ∧ vs = [] ∧ H l = some (.lst xs) ∧ xs[xs.length - 1]? = some y ∧ Q y (upd H l (.lst xs.dropLast))
def rPopAt : V → List V → Hp → VK → Prop := fun x vs H Q => ∃ l xs i k y, x = .ref l ∧ vs = [.int i] ∧ H l = some (.lst xs) ∧ -(2 ^ 63) ≤ i ∧ i < 2 ^ 63 ∧ seqIndex? i xs.length = some k ∧ xs[k]? = some y ∧ Q y (upd H l (.lst (xs.eraseIdx k)))
def rReverse : V → List V → Hp → VK → Prop := fun x vs H Q => ∃ l xs, x = .ref l ∧ vs = [] ∧ H l = some (.lst xs) ∧ Q .non (upd H l (.lst xs.reverse))
def rClear : V → List V → Hp → VK → Prop := fun x vs H Q => ∃ l xs, x = .ref l ∧ vs = [] ∧ H l = some (.lst xs) ∧ Q .non (upd H l (.lst []))
/-! ### list + list, list += list, list * int -/
def rCat : R2 := fun x y H Q => ∃ l b xs zs, x = .ref l ∧ y = .ref b ∧ H l = some (.lst xs) ∧ H b = some (.lst zs) ∧ xs.length + zs.length ≤ sizeLine ∧ ∀ p, H p = none → Q (.ref p) (upd H p (.lst (xs ++ zs)))
theorem op_cat : OpR X (binaryOp .Add) rCat := by
  intro pins s σ H x y v u Q I rx ry h
  obtain ⟨l, b, xs, zs, rfl, rfl, hH, hB, hz, q⟩ := h
  cases rx
  cases ry
  obtain ⟨z, its, n, r, hl, e⟩ := I.lstM hH
  obtain ⟨z2, its2, n2, r2, hl2, e2⟩ := I.lstM hB
  refine PySem.P.add_list e e2 ?_ (by rw [List.size_toArray, List.size_toArray]; omega)
  have ea : its.toArray ++ its2.toArray = (its ++ its2).toArray := by simp
  rw [ea]
  exact ⟨.ref _, _, I.lnew (t' := s.toks) (r.append r2) (by rw [List.length_append]; omega), rfl, q _ I.fresh⟩
/-  a list times an int (a negative one is nothing) -/
def rRep : R2 := fun x y H Q => ∃ l k xs, x = .ref l ∧ y = .int k ∧ H l = some (.lst xs) ∧ -(2 ^ 63) ≤ k ∧ k < 2 ^ 63 ∧ xs.length * k.toNat ≤ sizeLine ∧
  ∀ p, H p = none → Q (.ref p) (upd H p (.lst (List.replicate k.toNat xs).flatten))
theorem len_rep {α : Type} (xs : List α) (k : Nat) : (List.replicate k xs).flatten.length = k * xs.length := by
  induction k with
  | zero => simp
  | succ k ih => rw [List.replicate_succ, List.flatten_cons, List.length_append, ih, Nat.succ_mul, Nat.add_comm]
theorem op_rep : OpR X (binaryOp .Mult) rRep := by
  intro pins s σ H x y v u Q I rx ry h
  obtain ⟨l, k, xs, rfl, rfl, hH, h1, h2, hz, q⟩ := h
  cases rx
  obtain ⟨t, rfl⟩ := ry
  obtain ⟨z, its, n, r, hl, e⟩ := I.lstM hH
  have hlen : its.toArray.size * k.toNat ≤ sizeLine := by rw [List.size_toArray, ← hl]; exact hz
  have hcap : ¬ its.toArray.size * k.toNat > (2 ^ 63 - 1) / 8 := by
    have : (sizeLine : Nat) ≤ (2 ^ 63 - 1) / 8 := by decide
    omega
  have hfit : ¬ (!Builtin.List.listFitsIndex k) = true := by
    rw [fitsIndex_both h1 h2]
    exact Bool.false_ne_true
  have hlong : ¬ Builtin.List.listTooLong (its.toArray.size * k.toNat) = true := by
    rw [notLongL hlen]
    exact Bool.false_ne_true
  have hnew : List.foldl (fun x1 x2 => x1 ++ x2) #[] (List.replicate (if its.toArray.isEmpty = true then 0 else k.toNat) its.toArray) = (List.replicate k.toNat its).flatten.toArray := by
    have f0 : ∀ m : Nat, List.foldl (fun x1 x2 => x1 ++ x2) #[] (List.replicate m its.toArray) = (List.replicate m its).flatten.toArray := fun m => by
      have := foldl_rep its m []
      rw [List.nil_append] at this
      exact this
    rw [f0]
    cases its with
    | nil => simp
    | cons a r' => rw [if_neg (by simp)]
  refine wpAny_binaryOp_repeat_ref (T := "list") (U := "int") (by decide) ⟨_, e, rfl⟩ (fun s' => typeIs_int s' k t) noFill_list_mul F.fills_int_mul F.slot_int_rmul repeat_list F.slot_int_index.lookup
    (call_meets F.slot_int_rmul (typeIs_int s k t) F.entry_int_rmul (F.args_int_rmul_2 _ _) (int___rmul___int_list k t l its.toArray n)
      ⟨e, rfl, ⟨_, e, rfl⟩, call_meets F.slot_list_mul ⟨_, e, rfl⟩ F.entry_list_mul (F.args_list_mul_2 _ _) (AutoListH.list___mul___list_int_3 l its.toArray n k t hfit hcap hlong) ⟨e, ?_⟩⟩)
  rw [hnew]
  exact ⟨.ref _, _, I.lnew (t' := s.toks) (r.rep k.toNat) (by rw [len_rep, Nat.mul_comm]; exact hz), rfl, q _ I.fresh⟩

/-! ### del xs[i] -/
end

/-! ### xs[a:b] = ys -/
section
variable {prog : Program} {w : World} {A : Around} {E : Value → Shared → Prop} {s : Shared}
set_option maxRecDepth 100000 in
/-  list.__setitem__ with a slice of step one and another list -/
end

section
variable {X : Cx}
/-  xs[a:c] = ys of another list, at the value level: sl is the slice object that was just made -/
end
end L2

namespace L2
open PySem PySem.Spec PyProof.Rows

/-! ### lists of pairs as tables -/
section
variable {κ : Type} [DecidableEq κ]
def valV (kvs : List (κ × V)) (k : κ) : Option V := (kvs.find? fun kv => decide (kv.1 = k)).map (·.2)
/-  in its place, or at the end -/
def putK (kvs : List (κ × V)) (k : κ) (v : V) : List (κ × V) :=
  if (kvs.any fun kv => decide (kv.1 = k)) = true then kvs.map (fun kv => if kv.1 = k then (kv.1, v) else kv) else kvs ++ [(k, v)]
def dropK (kvs : List (κ × V)) (k : κ) : List (κ × V) := kvs.filter fun kv => decide (kv.1 ≠ k)

/-  raw tables of the same keys -/
end


/-! ### a tracked dict, its keys ints and texts or tuples of these -/
/-  raw entries of a dict with tuple keys -/
abbrev KT (H : Hp) : List (List Key × V) → List (List Key × Addr × Value) → Prop := Paired fun p q => p.1 = q.1 ∧ H q.2.1 = some (.tup (p.1.map kV)) ∧ RelV p.2 q.2.2
section
variable {P : Program} {w : World} {H : Hp} {h : Heap} {a : Addr}
/-  a tracked tuple of ints and texts is a key -/
end

/-  what the dict at a holds at the key y -/
def DGet (H : Hp) (a : Addr) (y : V) (r : Option V) : Prop :=
  (∃ kvs k, Rd H a (.dK kvs) ∧ y = kV k ∧ r = valV kvs k) ∨ ∃ kvs k b, Rd H a (.dT kvs) ∧ y = .ref b ∧ H b = some (.tup (k.map kV)) ∧ r = valV kvs k
/-  the heap behind a[y] = v -/
def DPut (H : Hp) (a : Addr) (y v : V) (H' : Hp) : Prop :=
  (∃ kvs k, H a = some (.dK kvs) ∧ y = kV k ∧ kvs.length < sizeLine ∧ H' = upd H a (.dK (putK kvs k v))) ∨
  ∃ kvs k b, H a = some (.dT kvs) ∧ y = .ref b ∧ H b = some (.tup (k.map kV)) ∧ kvs.length < sizeLine ∧ H' = upd H a (.dT (putK kvs k v))
section
variable {X : Cx} {pins : List (Addr × Obj)} {σ : St} {H : Hp} {s : Shared} {a : Addr} {y v : V} {u r : Value} {o : Option V} {A : Around} {E : Value → Shared → Prop}

/-  d[y], there -/
/-  y in d -/
/-  a dict's object is replaced -/
/-  d[y] = v -/
end

section
variable {X : Cx} {pins : List (Addr × Obj)} {σ : St} {H : Hp} {s : Shared} {a : Addr} {kvs : List (Key × V)} {k : Key} {u : Value} {A : Around} {E : Value → Shared → Prop}
/-  del d[k] -/
/-  d.pop(k[, x]), there -/
/-  d.pop(k, x), not there -/
/-  d.clear() -/
/-  len(d) -/
/-  if d -/
end


/-! ### readings and rules -/
/-  the element of a subscription, not a slice -/
def NoSl (i : Expr) : Prop := ∀ ov iv, subscripted i false ov iv = operate [ov, iv] (getItem ov iv)
/-  d[y] -/
def tDGet (td ty : TE) : TE := fun σ H Q => td σ H fun x H1 => ty σ H1 fun y H2 => ∃ a v, x = .ref a ∧ DGet H2 a y (some v) ∧ Q v H2
/-  y in d, y not in d -/
def tDIn (ty td : TE) : TE := fun σ H Q => ty σ H fun y H1 => td σ H1 fun x H2 => ∃ a o, x = .ref a ∧ DGet H2 a y o ∧ Q (.bl o.isSome) H2
def tDNotIn (ty td : TE) : TE := fun σ H Q => ty σ H fun y H1 => td σ H1 fun x H2 => ∃ a o, x = .ref a ∧ DGet H2 a y o ∧ Q (.bl (!o.isSome)) H2
/-  d[y] = v -/
def sDPut (td ty tv : TE) : TS := fun D σ H => tv σ H fun v H1 => td σ H1 fun x H2 => ty σ H2 fun y H3 => ∃ a H4, x = .ref a ∧ DPut H3 a y v H4 ∧ D.nx σ H4
/-  d[y] op= v -/
def sDAug (td ty tv : TE) (rd : V → V → Hp → VK → Prop) : TS := fun D σ H => td σ H fun x H1 => ty σ H1 fun y H2 => ∃ a v, x = .ref a ∧ DGet H2 a y (some v) ∧
  tv σ H2 fun y2 H3 => rd v y2 H3 fun z H4 => ∃ H5, DPut H4 a y z H5 ∧ D.nx σ H5
/-  del d[y] -/
def sDDel (td ty : TE) : TS := fun D σ H => td σ H fun x H1 => ty σ H1 fun y H2 => ∃ a kvs k, x = .ref a ∧ H2 a = some (.dK kvs) ∧ y = kV k ∧ (valV kvs k).isSome = true ∧ D.nx σ (upd H2 a (.dK (dropK kvs k)))

section
variable {X : Cx} {o i e value : Expr} {pos pos' tpos : Pos} {td ty tv : TE}
end


/-! ### displays -/
/-  {}, to be a dict of the kind that is wanted -/
def tDNewK : TE := fun _ H Q => ∀ p, H p = none → Q (.ref p) (upd H p (.dK []))
def tDNewT : TE := fun _ H Q => ∀ p, H p = none → Q (.ref p) (upd H p (.dT []))
section
variable {X : Cx} {pos : Pos}
end

/-  the pairs of a display, from the left -/
def tPairs : List (TE × TE) → St → Hp → (List (V × V) → Hp → Prop) → Prop
  | [], _, H, Q => Q [] H
  | (tk, tv) :: r, σ, H, Q => tk σ H fun x H1 => tv σ H1 fun y H2 => tPairs r σ H2 fun ps H3 => Q ((x, y) :: ps) H3
abbrev VV : List (V × V) → List (Value × Value) → Prop := Paired fun p q => RelV p.1 q.1 ∧ RelV p.2 q.2
def PPs (X : Cx) (pos : Pos) (keys : List (Option Expr)) (values : List Expr) (trs : List (TE × TE)) : Prop :=
  ∀ (pins : List (Addr × Obj)) (s : Shared) (σ : St) (H : Hp) (Q : List (V × V) → Hp → Prop), Inv X pins σ H s → tPairs trs σ H Q →
    wpAny (model X.prog X.w) X.A (evalPairs (pairTrees keys values X.env pos)) (fun vs s' => ∃ ps H', Inv X pins σ H' s' ∧ VV ps vs ∧ Q ps H') X.xe s
def mergeK (kvs more : List (Key × V)) : List (Key × V) := more.foldl (fun acc kv => putK acc kv.1 kv.2) kvs
/-  {k: v, ..} with keys ints and texts; the new dict stands empty while the pairs are made -/
def tDisp (trs : List (TE × TE)) : TE := fun σ H Q => ∀ p, H p = none → tPairs trs σ (upd H p (.dK [])) fun ps H2 => H2 p = some (.dK []) ∧ ∃ kvs : List (Key × V), ps = kvs.map (fun kv => (kV kv.1, kv.2)) ∧ kvs.length ≤ 15 ∧ Q (.ref p) (upd H2 p (.dK (mergeK [] kvs)))
/-! ### methods -/
/-  a method call o.m(e) of a built-in, with one argument: what must be seen of the text -/
structure M1 (X : Cx) (o : Expr) (m : Str) (apos : Pos) (e : Expr) (cpos : Pos) : Prop where
  base : attributeBase o m X.env (eval o X.env) = eval o X.env
  few : ((backTo cpos (starEach [e] X.env)).all (fun x => !x.1) && (backToKw cpos (keywordEach [] X.env)).all (fun x => x.1.isSome)
    && decide (([e] : List Expr).length + ([] : List Keyword).length + (if ([] : List Keyword).isEmpty then 0 else 1) < 30)) = true
  line : (apos.endLine == cpos.line) = true
  trees : backTo cpos (starEach [e] X.env) = [(false, eval e X.env)]
structure M2 (X : Cx) (o : Expr) (m : Str) (apos : Pos) (e f : Expr) (cpos : Pos) : Prop where
  base : attributeBase o m X.env (eval o X.env) = eval o X.env
  few : ((backTo cpos (starEach [e, f] X.env)).all (fun x => !x.1) && (backToKw cpos (keywordEach [] X.env)).all (fun x => x.1.isSome)
    && decide (([e, f] : List Expr).length + ([] : List Keyword).length + (if ([] : List Keyword).isEmpty then 0 else 1) < 30)) = true
  line : (apos.endLine == cpos.line) = true
  trees : backTo cpos (starEach [e, f] X.env) = [(false, eval e X.env), (false, eval f X.env)]

/-  a is a dict, whatever its keys -/
def IsD (H : Hp) (a : Addr) : Prop := (∃ kvs, Rd H a (.dK kvs)) ∨ ∃ kvs, Rd H a (.dT kvs)
section
variable {X : Cx} {pins : List (Addr × Obj)} {σ : St} {H : Hp} {s : Shared} {a : Addr} {y d : V} {u r : Value} {o : Option V} {A : Around} {E : Value → Shared → Prop}
/-  d.get(y) -/
/-  d.get(y, x) -/
end

def tDGet1 (td ty : TE) : TE := fun σ H Q => td σ H fun x H1 => ∃ a, x = .ref a ∧ IsD H1 a ∧ ty σ H1 fun y H2 => ∃ o, DGet H2 a y o ∧ Q (o.getD .non) H2
def tDGet2 (td ty tx : TE) : TE := fun σ H Q => td σ H fun x H1 => ∃ a, x = .ref a ∧ IsD H1 a ∧ ty σ H1 fun y H2 => tx σ H2 fun z H3 => ∃ o, DGet H3 a y o ∧ Q (o.getD z) H3
/-  d.pop(k): there; d.pop(k, x): there or not -/
def tDPop1 (td ty : TE) : TE := fun σ H Q => td σ H fun x H1 => ∃ a, x = .ref a ∧ IsD H1 a ∧ ty σ H1 fun y H2 => ∃ kvs k v, H2 a = some (.dK kvs) ∧ y = kV k ∧ valV kvs k = some v ∧ Q v (upd H2 a (.dK (dropK kvs k)))
def tDPop2 (td ty tx : TE) : TE := fun σ H Q => td σ H fun x H1 => ∃ a, x = .ref a ∧ IsD H1 a ∧ ty σ H1 fun y H2 => tx σ H2 fun z H3 => ∃ kvs k, H3 a = some (.dK kvs) ∧ y = kV k ∧
  (∀ v, valV kvs k = some v → Q v (upd H3 a (.dK (dropK kvs k)))) ∧ (valV kvs k = none → Q z H3)
section
variable {X : Cx} {o e f : Expr} {apos cpos : Pos} {td ty tx : TE}
end

/-! ### dict(d): a copy -/
section
variable {X : Cx} {pins : List (Addr × Obj)} {σ : St} {H : Hp} {s : Shared} {a : Addr} {kvs : List (Key × V)} {A : Around} {E : Value → Shared → Prop}
end


section
variable {X : Cx} {pins : List (Addr × Obj)} {σ : St} {H : Hp} {s : Shared} {a : Addr} {y : V} {u : Value} {A : Around} {E : Value → Shared → Prop}
/-  d[y], not there: a KeyError -/
end
end L2

namespace Att
open PySem PySem.W PySem.Calls PyProof.Rows

/-! ### the script -/
theorem ints_of_wellAll {P : Params} {h : Heap} : ∀ (ns : List Int) (vs : List Value), WellAll P h vs (ns.map WData.int) → IntsAre vs ns := by
  intro ns
  induction ns with
  | nil =>
    intro vs w
    rw [List.map_nil] at w
    cases w
    exact .nil
  | cons n ns ih =>
    intro vs w
    rw [List.map_cons] at w
    cases w with
    | cons a b =>
      cases a
      exact .cons _ _ (ih _ b)

theorem script_of {l : OpenLaw} {n : Nat} (hn : l.most = some n) {P : Params} {h : Heap} {args : List WData} {vals : List Value}
    (hpre : l.row.toRowW.claim.pre args = true) (hwl : WellAll P h vals args) :
    ∃ a vs ns, vals = [Value.ref a] ∧ args = [WData.list (ns.map WData.int)] ∧ h.get? a = some { cls := .type "list", data := .seq vs.toArray } ∧ IntsAre vs ns ∧ ns.length ≤ n := by
  have hsh : WShape.hasAll [] args [.list .int] = true := (pre_splitW hpre).1
  have hc : l.pre.holds [] { args := args } = true := (pre_splitW hpre).2
  obtain ⟨d, r, rfl, h1, h2⟩ := hasAllW_cons hsh
  obtain rfl := hasAllW_nil h2
  obtain ⟨xs, rfl, h3⟩ := hasW_list h1
  obtain ⟨ns, rfl⟩ := items_int h3
  have hlen : ns.length ≤ n := by
    unfold OpenLaw.pre at hc
    have h4 : (WTm.not (.lt (.lit (.int (n : Int))) (.len (.arg 0)))).holds [] { args := [.list (ns.map .int)] } = true := by
      have h4 := (holds_andW hc).1
      rw [hn] at h4
      exact h4
    have h5 := condW_of h4 (w_not (w_lt w_lit (w_len_list (w_arg rfl))))
    rw [List.length_map] at h5
    refine Nat.le_of_not_lt fun q => ?_
    have q' : (n : Int) < ((ns.length : Nat) : Int) := by omega
    first
      | (rw [decide_eq_true q'] at h5; exact absurd h5 (by decide))
      | (simp at h5; omega)
  cases hwl with
  | cons w1 w2 =>
    cases w2
    cases w1 with
    | list ho hall => exact ⟨_, _, ns, rfl, rfl, ho, ints_of_wellAll ns _ hall, hlen⟩

theorem post_true (l : OpenLaw) (args : List WData) : l.row.toRowW.claim.post args (.bool true) args = true :=
  postW_of (r := l.row.toRowW) (X := (true == true))
    (show WShape.has [] (.bool true) .bool = true by first | rfl | decide | simp [WShape.has, WShape.arms, WShape.armsAll])
    (show (WTm.eq .res (.lit (.bool true))).value [] { args := args, res := some (.bool true), after := args } = some (.bool (true == true)) from w_eq_bool (w_res rfl) w_lit) rfl

/-! ### the attachment: holds_open's last premise (the goal 'hc' behind k_head) from a wpAny of the law's body -/
/-  the same from a codeAny of the CALL (for a layer whose function contracts speak of calls) -/
theorem attach_call {l : OpenLaw} {n : Nat} {q : Program} {loose : List Str} {XP : (Str → Option Value) → Heap → Prop} {YP : World → Heap → Prop} {d : DefRec}
    (hn : l.most = some n) (hdf : d.params.defaults = [])
    (call : ∀ (w : World) (s₀ s₁ : Shared) (mg mb : Str → Option Value) (fa : Addr) (o : Obj) (pm cd doc : Value) (a : Addr) (vs : List Value) (ns : List Int),
      Ground q loose [] XP w s₀ mg mb s₁.heap → YP w s₁.heap →
      s₁.heap.get? fa = some o → o.data = .func (docDef d.name d.params d.body d.scope pm cd doc) → s₁.heap.CodeRec cd d.name → mg d.name = some (.ref fa) →
      s₁.heap.get? a = some { cls := .type "list", data := .seq vs.toArray } → IntsAre vs ns → ns.length ≤ n → s₁.gens = #[] →
      codeAny (model l.prog w) callerA (.call (.ref fa) ⟨[.ref a], []⟩) (fun r s' => r = .ok (.ret (.bool true)) ∧ OldK s₁.heap s'.heap ∧ s'.os = s₁.os ∧ AllBare s'.gens) s₁) :
    WalkO q loose XP YP l.row.toRowW d [] (fun f vs => PySem.call f vs) := by
  intro w s₀ s₁ mg mb G Y fa o pm cd doc dV kV ho hd hcd hD hmg hg args vals as hpre hlay hrd hwl hlo
  obtain rfl : dV = .none := Dflts.none hD hdf
  obtain rfl : kV = .none := Dflts.noKw hD
  obtain ⟨a, vs, ns, rfl, rfl, hobj, hints, hlen⟩ := script_of hn hpre hwl
  refine enter_call (codeAny_mono (call w s₀ s₁ mg mb fa o pm cd doc a vs ns G Y ho (fd_plain hd) hcd hmg hobj hints hlen hg) fun r s' hq => ?_)
  obtain ⟨rfl, h2, h3, h4⟩ := hq
  exact ⟨.inl ⟨.bool true, .bool true, [], rfl, fun _ => rfl, .bool true, post_true l _, fun _ => ⟨List.Pairwise.nil, fun _ hm => (nomatch hm)⟩⟩, h2, h3, h4⟩

/-  the same where the top left finished generators (o_head chose holds_openN): nothing may have changed at all and no generator may be left -/
/-! ### rules over ANY heap (no ledger) from facts about the written part K: the library's own take a ledger (News) for what they write -/
section
variable {prog : Program} {w : World} {A : Around} {E : Value → Shared → Prop} {s : Shared} {K : Frag}

/-  a def of the module, or a method (qual 'C.m'), entered: the frame is the next address; cells behind it -/
/-  C(..): dict at size, instance at size + 1, then __init__ -/
/-  x.name where the instance's dict holds the name and the class does not -/
/-  x.m(..): the method found in the class -/
/-! the whole heap as the ledger: makes every rule that writes through a ledger a rule over any heap -/
def noObjs (h : Heap) : Heap := { h with objs := #[] }
def ledger (h : Heap) (L d : Addr) : List (Addr × Obj) := (List.range h.objs.size).filterMap fun a => if a = L ∨ a = d then none else (h.get? a).map fun o => (a, o)
/-  Upd of the head entry (for append_K, setItem_K ..) -/
/-  x.name = v over any heap: L is any namespace of the heap (the frame's, say): its map stays, its object is not told; all else but the dict stays -/
end
end Att

namespace L2
open PySem PySem.Spec PyProof.Rows

theorem vals_ints : ∀ {vs : List Value} {ns : List Int}, IntsAre vs ns → Vals (ns.map V.int) vs
  | _, _, .nil => .nil
  | _, _, .cons n t h => .cons ⟨t, rfl⟩ (vals_ints h)

/-  nothing is tracked but the script, known to the object (or it is an object of the module) -/
def Only (H : Hp) : Prop := ∀ b, H b = none ∨ ∃ o xs, H b = some (.frz o (.lst xs))

/-  THE HEAD: the law's promise, at the heap behind the top. F, the promise of the law's def, may use that base is part of the heap (so K.In base, base.Ns mainGlobals mg stand in Mod) -/
end L2

namespace L2
open PySem PySem.Spec PyProof.Rows

abbrev KOf {K : PySem.W.Frag} {h : Heap} (_ : K.In h) : PySem.W.Frag := K

/-  the goal that k_head leaves (case hc), from the law's promise. F gives the function object fd (K's own) once, then the promise over every base -/
/-  the same where the promise hangs on the written part alone: (sp := My.sp_law), no hole under a binder -/
end L2

/- THE LAST THEOREM (shape; LID, My.* are yours):
   My.Adr: a structure of the addresses that your layer names (classes, functions); My.Txt K t: a structure (Prop) of the equations over K;
   My.txt_mk : {K} {implicit addresses ..} (e1 : nsIn K mainGlobals "law" = some (some (.ref f))) (e2 : K.lookup f = some ⟨oc, od, .func (fnOf "law" "law" params body scope dV kV doc pm an cdv ct), sl⟩) (e3 : codeIn K cdv "law" = true) .. : ∃ t, My.Txt K t

set_option maxRecDepth 100000 in
set_option maxHeartbeats 0 in
theorem PySem.Challenge.cw_LID_holds : PySem.Challenge.rw_LID.Holds := by
  w_on; o_law; k_head; (case hw => w_witness2)
  k_fill
  refine L2.walk_of (l := PySem.Challenge.rw_LID) (n := 63) (k := 40) (x := "script") (CX := fun w => ..) (sp := fun _ => My.sp_law) rfl (by decide) rfl ⟨rfl, by decide, by decide⟩ (fun w h Y => PySem.W.kIn_of Y) ?F ?S ?C
  case F =>
    intro w mg fa h KX G hmg
    have T : ∃ t, My.Txt (L2.KOf KX) t := by
      dsimp only [L2.KOf]                          -- K must stand as «<heap const> w.params» for k_is
      refine' My.txt_mk ?e1 ?e2 ?e3 ..
      (case e1 => PySem.W.k_is)                    -- in the order: a name -> its address -> its object -> its parts
      (case e2 => PySem.W.k_is)
      ..
    obtain ⟨t, T⟩ := T
    have e0 := hmg.symm.trans (PySem.W.mg_of KX G T.law)
    cases e0                                       -- fa is the law's own address
    exact ⟨_, fun s u => .of_eq rfl, fun base kb nb => My.law_fn T kb nb⟩     -- if «.of_eq rfl» comes too early: refine' ⟨_, ?b, fun base kb nb => My.law_fn T kb nb⟩; exact fun s u => .of_eq rfl
  case S => exact fun w H a ns hl hO hS => ..
  case C => exact ..
(the tactic k_is has no namespace: write k_is) -/

/-! SHORT WORDS over the layer: a def of the text, its body, what a loop and a test want. -/
namespace L2
open PySem PySem.Spec PyProof.Rows

/-! ### the text by places -/
/-  the j-th statement of a class's body -/
def inClass (s : Stmt) (j : Nat) : Stmt := match s with
  | .ClassDef _ _ _ body _ _ _ _ _ _ _ => body.getD j (.Pass ⟨0, 0, 0, 0⟩)
  | _ => .Pass ⟨0, 0, 0, 0⟩
def defArgs (s : Stmt) : Arguments := match s with
  | .FunctionDef _ a _ _ _ _ _ _ _ _ => a
  | _ => { posonlyargs := [], args := [], vararg := none, kwonlyargs := [], kw_defaults := [], kwarg := none, defaults := [] }
def defBody (s : Stmt) : List Stmt := match s with
  | .FunctionDef _ _ b _ _ _ _ _ _ _ => b
  | _ => []
def defScope (s : Stmt) : Scope := match s with
  | .FunctionDef _ _ _ _ _ _ sc _ _ _ => sc
  | _ => { kind := .function, names := [], isGenerator := false, isCoroutine := false }

/-! ### no exception leaves a def -/
abbrev CX0 : CXT := fun _ _ _ _ _ _ => False
abbrev E0 : XK := fun _ _ _ => False
theorem pass0 {X : Cx} : Passes CX0 X E0 := fun _ _ _ _ _ _ _ h => h.elim

/-! ### a def (or method) of the text as it stands behind the top -/
structure Fun (K : PySem.W.Frag) (x qual : Str) (st : Stmt) (f : Addr) (fd : FuncData) : Prop where
  ex : ∃ (oc : Value) (od : Option Addr) (kV doc pm : Value) (an : Option Addr) (cdv ct : Value) (osl : Array (Option Value)),
    fd = PySem.W.fnOf x qual (defArgs st) (defBody st) (defScope st) .none kV doc pm an cdv ct ∧ K.lookup f = some ⟨oc, od, .func fd, osl⟩ ∧ PySem.W.codeIn K cdv qual = true
  kp : PySem.W.keepIn K (.ref f) = true
section
variable {P : Program} {w : World} {K : PySem.W.Frag} {mg : Str → Option Value} {base : Heap}
/-  THE RULE for a def: its body as a term of rules, and the reading of that term -/
theorem Fun.ok {x qual : Str} {st : Stmt} {f : Addr} {fd : FuncData} {N ps : List Str} {k : Nat} {sp : Sp} (F : Fun K x qual st f fd) (S : FnScope N ps (defScope st)) (len : ∀ vs H Q E, sp vs H Q E → vs.length = ps.length)
    (hbody : ∀ (cdv : Value) (A : Around) (outer : List Env) (s : Shared) (H : Hp) (vs : List V) (Q : VK) (E : XK), Room k (A.deeper (envOfC qual (defScope st) s.heap.objs.size f cdv)) → sp vs H Q E →
      ∃ t, PSs (cxOf CX0 P w K mg base N qual (defScope st) f cdv A outer s H E).nox (defBody st) t ∧ t { nx := fun _ H' => Q .non H', rt := Q } (start N vs) H) : FnOk P w K mg base CX0 (k + 1) f fd ps sp := by
  obtain ⟨oc, od, kV, doc, pm, an, cdv, ct, osl, rfl, lk, hcd⟩ := F.ex
  refine fn_of lk hcd S len fun A outer s H vs Q E hr hsp => ?_
  obtain ⟨t, h, q⟩ := hbody cdv A outer s H vs Q E hr hsp
  exact ⟨t, h.nox, q⟩
/-  how its arguments bind (no defaults): h is «fun _ _ _ _ _ _ us hl => match us, hl with | [_, _], _ => rfl», one _ a parameter -/
theorem Fun.binds {x qual : Str} {st : Stmt} {f : Addr} {fd : FuncData} {ps : List Str} (F : Fun K x qual st f fd)
    (h : ∀ (kV doc pm : Value) (an : Option Addr) (cdv ct : Value) (us : List Value), us.length = ps.length → bindArgs (PySem.W.fnOf x qual (defArgs st) (defBody st) (defScope st) .none kV doc pm an cdv ct) ⟨us, []⟩ = pure (ps.zip us)) : Binds K fd ps [] := by
  obtain ⟨oc, od, kV, doc, pm, an, cdv, ct, osl, rfl, lk, hcd⟩ := F.ex
  exact .all (h kV doc pm an cdv ct)
theorem fun_mk {x qual : Str} {st : Stmt} {f : Addr} {oc : Value} {od an : Option Addr} {osl : Array (Option Value)} {kV doc pm cdv ct : Value} (l : K.lookup f = some ⟨oc, od, .func (PySem.W.fnOf x qual (defArgs st) (defBody st) (defScope st) .none kV doc pm an cdv ct), osl⟩)
    (c : PySem.W.codeIn K cdv qual = true) (k : PySem.W.keepIn K (.ref f) = true) : Fun K x qual st f (PySem.W.fnOf x qual (defArgs st) (defBody st) (defScope st) .none kV doc pm an cdv ct) := ⟨⟨oc, od, kV, doc, pm, an, cdv, ct, osl, rfl, l, c⟩, k⟩
end
/-! ### expressions in short: the name that stands in the i-th slot -/
section
variable {X : Cx}
end

/-! ### tests -/
/-! ### heaps -/
/-  all that was tracked is as it was -/
def Same (H H' : Hp) : Prop := ∀ b o, H b = some o → H' b = some o
theorem Same.refl (H : Hp) : Same H H := fun _ _ h => h
theorem Same.trans {H H1 H2 : Hp} (a : Same H H1) (b : Same H1 H2) : Same H H2 := fun c o h => b c o (a c o h)
theorem Same.free {H H' : Hp} (e : Same H H') {l : Addr} (h : H' l = Option.none) : H l = Option.none := by
  cases q : H l with
  | none => rfl
  | some o =>
    rw [e l o q] at h
    cases h
theorem Same.seq {K : PySem.W.Frag} {H H' : Hp} {a : Addr} {xs : List V} (e : Same H H') (h : SqL K H a xs) : SqL K H' a xs := by
  rcases h with (h | ⟨o, h⟩) | h
  · exact .inl (.inl (e _ _ h))
  · exact .inl (.inr ⟨o, e _ _ h⟩)
  · exact .inr h

section
variable {X : Cx}
/-  len of a dict -/
end

/-! ### a dict's pairs: keys that differ -/
section
variable {κ : Type} [DecidableEq κ]
end
end L2


set_option maxHeartbeats 4000000
/-! ROWS OF OUR OWN over the hand layer: readings that compute. -/
namespace L2
open PySem PySem.Spec PyProof.Rows
section
variable {X : Cx}
theorem PE.imp {e : Expr} {t t' : TE} (h : PE X e t) (i : ∀ σ H Q, t' σ H Q → t σ H Q) : PE X e t' :=
  fun pins s σ H Q I q => h pins s σ H Q I (i σ H Q q)
theorem OpR.imp {f : Value → Value → Sem Value} {r r' : R2} (h : OpR X f r) (i : ∀ x y H Q, r' x y H Q → r x y H Q) : OpR X f r' :=
  fun pins s σ H x y v u Q I rx ry q => h pins s σ H x y v u Q I rx ry (i x y H Q q)
theorem UnR.imp {f : Value → Sem Value} {r r' : V → Hp → VK → Prop} (h : UnR X f r) (i : ∀ x H Q, r' x H Q → r x H Q) : UnR X f r' :=
  fun pins s σ H x v Q I rx q => h pins s σ H x v Q I rx (i x H Q q)
theorem CallR.imp {f : Value} {r r' : List V → Hp → VK → Prop} (h : CallR X f r) (i : ∀ xs H Q, r' xs H Q → r xs H Q) : CallR X f r' :=
  fun pins s σ H xs us Q I rv q => h pins s σ H xs us Q I rv (i xs H Q q)
/-  one of two readings of the same expression -/
theorem pe_alt {e : Expr} {t u : TE} (h : PE X e t) (k : PE X e u) : PE X e (fun σ H Q => t σ H Q ∨ u σ H Q) :=
  fun pins s σ H Q I q => q.elim (fun z => h pins s σ H Q I z) (fun z => k pins s σ H Q I z)

/-! names -/
def cVar (i : Nat) : TE := fun σ H Q => match σ[i]? with
  | some (some v) => Q v H
  | _ => False
theorem cVar_imp {i : Nat} {σ : St} {H : Hp} {Q : VK} (q : cVar i σ H Q) : tVar i σ H Q := by
  unfold cVar at q
  split at q
  · rename_i v e; exact ⟨v, e, q⟩
  · exact q.elim
theorem cv (i : Nat) {x : Str} {pos : Pos} (hN : X.N[i]? = some x := by rfl) (hv : Vis X.env.scope x := by first | exact Or.inl rfl | exact Or.inr (Or.inl rfl) | exact Or.inr (Or.inr rfl)) (hd : (x == ("__debug__" : Str)) = false := by decide)
    (hcd : (x == ("__classdict__" : Str)) = false := by decide) : PE X (.Name x pos) (cVar i) := (pe_var hN hv hd hcd).imp fun _ _ _ q => cVar_imp q

/-! ints -/
def kI (C : Int → Int → Prop) (g : Int → Int → V) : R2 := fun x y H Q => match x with
  | .int i => (match y with
    | .int j => C i j ∧ Q (g i j) H
    | _ => False)
  | _ => False
def kI0 (g : Int → Int → V) : R2 := fun x y H Q => match x with
  | .int i => (match y with
    | .int j => Q (g i j) H
    | _ => False)
  | _ => False
theorem kI_imp {C : Int → Int → Prop} {g : Int → Int → V} {x y : V} {H : Hp} {Q : VK} (q : kI C g x y H Q) : rI C g x y H Q := by
  cases x with
  | int i =>
    cases y with
    | int j => exact ⟨i, j, rfl, rfl, q.1, q.2⟩
    | _ => exact False.elim q
  | _ => exact False.elim q
theorem kI0_imp {g : Int → Int → V} {x y : V} {H : Hp} {Q : VK} (q : kI0 g x y H Q) : rI0 g x y H Q := by
  cases x with
  | int i =>
    cases y with
    | int j => exact ⟨i, j, rfl, rfl, q⟩
    | _ => exact False.elim q
  | _ => exact False.elim q
theorem o_add : OpR X (binaryOp .Add) (kI0 fun i j => .int (i + j)) := op_add.imp fun _ _ _ _ => kI0_imp
theorem o_sub : OpR X (binaryOp .Sub) (kI0 fun i j => .int (i - j)) := op_sub.imp fun _ _ _ _ => kI0_imp
theorem o_mul : OpR X (binaryOp .Mult) (kI CMul fun i j => .int (i * j)) := op_mul.imp fun _ _ _ _ => kI_imp
def CDivB (_i j : Int) : Prop := 0 < j ∧ j.natAbs.log2 < 9000
theorem o_fdiv : OpR X (binaryOp .FloorDiv) (kI CDivB fun i j => .int (i / j)) :=
  (opI (C := CDivB) (g := fun i j => i / j) fun i j _ _ _ _ _ hc q => by
    have h0 : 0 < j := hc.1
    rw [← Int.fdiv_eq_ediv_of_nonneg i (Int.le_of_lt h0)] at q
    exact floordiv_int (Int.ne_of_gt h0) q (.inl (PyProof.noPylong_of_log2 hc.2))).imp fun _ _ _ _ => kI_imp
theorem o_mod : OpR X (binaryOp .Mod) (kI (fun _ j => 0 < j) fun i j => .int (i % j)) := op_mod.imp fun _ _ _ _ => kI_imp
theorem o_pow : OpR X (binaryOp .Pow) (kI CPow fun i j => .int (i ^ j.toNat)) := op_pow.imp fun _ _ _ _ => kI_imp
theorem o_lt : OpR X (compareOp .Lt) (kI0 fun i j => .bl (decide (i < j))) := op_lt.imp fun _ _ _ _ => kI0_imp
theorem o_gt : OpR X (compareOp .Gt) (kI0 fun i j => .bl (decide (j < i))) := op_gt.imp fun _ _ _ _ => kI0_imp
theorem o_ge : OpR X (compareOp .GtE) (kI0 fun i j => .bl (decide (j ≤ i))) := op_ge.imp fun _ _ _ _ => kI0_imp
theorem dec_V {a b : V} {p : Prop} [Decidable p] (h : a = b ↔ p) : decide (a = b) = decide p := by
  by_cases e : p
  · rw [decide_eq_true e, decide_eq_true (h.mpr e)]
  · rw [decide_eq_false e, decide_eq_false (fun q => e (h.mp q))]
theorem o_eqI : OpR X (compareOp .Eq) (kI0 fun i j => .bl (decide (i = j))) := op_eq.imp fun x y H Q q => by
  obtain ⟨i, j, rfl, rfl, q⟩ := kI0_imp q
  exact ⟨rfl, by rw [dec_V (p := i = j) ⟨fun e => V.int.inj e, fun e => by rw [e]⟩]; exact q⟩
theorem o_neI : OpR X (compareOp .NotEq) (kI0 fun i j => .bl (!decide (i = j))) := op_ne.imp fun x y H Q q => by
  obtain ⟨i, j, rfl, rfl, q⟩ := kI0_imp q
  exact ⟨rfl, by rw [dec_V (p := i = j) ⟨fun e => V.int.inj e, fun e => by rw [e]⟩]; exact q⟩
/-  == of two texts -/
def kS0 (g : Str → Str → V) : R2 := fun x y H Q => match x with
  | .str i => (match y with
    | .str j => Q (g i j) H
    | _ => False)
  | _ => False
theorem kS0_imp {g : Str → Str → V} {x y : V} {H : Hp} {Q : VK} (q : kS0 g x y H Q) : ∃ i j, x = .str i ∧ y = .str j ∧ Q (g i j) H := by
  cases x with
  | str i =>
    cases y with
    | str j => exact ⟨i, j, rfl, rfl, q⟩
    | _ => exact False.elim q
  | _ => exact False.elim q
theorem o_eqS : OpR X (compareOp .Eq) (kS0 fun i j => .bl (decide (i = j))) := op_eq.imp fun x y H Q q => by
  obtain ⟨i, j, rfl, rfl, q⟩ := kS0_imp q
  exact ⟨rfl, by rw [dec_V (p := i = j) ⟨fun e => V.str.inj e, fun e => by rw [e]⟩]; exact q⟩
theorem o_neS : OpR X (compareOp .NotEq) (kS0 fun i j => .bl (!decide (i = j))) := op_ne.imp fun x y H Q q => by
  obtain ⟨i, j, rfl, rfl, q⟩ := kS0_imp q
  exact ⟨rfl, by rw [dec_V (p := i = j) ⟨fun e => V.str.inj e, fun e => by rw [e]⟩]; exact q⟩
def kU (g : Int → V) : V → Hp → VK → Prop := fun x H Q => match x with
  | .int i => Q (g i) H
  | _ => False
theorem o_neg : UnR X (unaryOp .USub) (kU fun i => .int (-i)) := un_neg.imp fun x H Q q => by
  cases x with
  | int i => exact ⟨i, rfl, q⟩
  | _ => exact False.elim q

/-! tests, branches: two functions, one a way -/
def boolK (Q : Bool → Hp → Prop) : VK := fun x H1 => match x with
  | .bl k => Q k H1
  | _ => False
theorem boolK_of {Q : Bool → Hp → Prop} {x : V} {H1 : Hp} (q : boolK Q x H1) : ∃ k, x = .bl k ∧ Q k H1 := by
  cases x with
  | bl k => exact ⟨k, rfl, q⟩
  | _ => exact False.elim q
def cB (t : TE) : TT := fun σ H Q => t σ H (boolK Q)
variable {a b c : Expr} {ta tb tc : TE} {tA tB' : TT} {pos : Pos} {rest : List Expr}
theorem ct_cmp {op : CmpOp} {r : R2} (ho : OpR X (compareOp op) r) (ha : PE X a ta) (hb : PE X b tb) (hm : behindInMarks op b = false := by exact nomark _) : PT X (.Compare a [op] [b] pos) (cB (tOp r ta tb)) := by
  intro pins s σ H Q I h
  refine wpAny_isTrue_Compare1 (thn (ha pins s σ H _ I h) fun v s1 ⟨x, H1, I1, r1, q1⟩ => thn (hb pins s1 σ H1 _ I1 q1) fun u s2 ⟨y, H2, I2, r2, q2⟩ =>
    thn (ho pins s2 σ H2 x y v u _ I2 r1 r2 q2) fun c s3 ⟨z, H3, I3, r3, q3⟩ => ?_) hm
  obtain ⟨k, rfl, q⟩ := boolK_of q3
  cases r3
  exact wpAny_truthy_bool ⟨H3, I3, q⟩
theorem ce_cmp {op : CmpOp} {r : R2} (ho : OpR X (compareOp op) r) (ha : PE X a ta) (hb : PE X b tb) (hm : behindInMarks op b = false := by exact nomark _) : PE X (.Compare a [op] [b] pos) (tOp r ta tb) := pe_cmpR ho ha hb hm
theorem ct_val {e : Expr} {t : TE} (h : PE X e t) (he : ∀ whole, isTrue e X.env whole = (do let v ← whole; standAt e.pos; holding [v] (truthy v)) := by intro _; rfl) : PT X e (cB t) := by
  intro pins s σ H Q I hw
  refine isTrue_plain (thn (h pins s σ H _ I hw) fun v s1 ⟨x, H1, I1, r1, q1⟩ => ?_) (he _)
  obtain ⟨d, rfl, q⟩ := boolK_of q1
  cases r1
  exact wpAny_truthy_bool ⟨H1, I1, q⟩
def cAnd (t u : TT) : TT := fun σ H Q => t σ H fun c H1 => (c = true → u σ H1 Q) ∧ (c = false → Q false H1)
def cOr (t u : TT) : TT := fun σ H Q => t σ H fun c H1 => (c = true → Q true H1) ∧ (c = false → u σ H1 Q)
theorem cw_and (ha : PT X a tA) (hb : PW X (.BoolOp .And (b :: rest) pos) tB') : PW X (.BoolOp .And (a :: b :: rest) pos) (cAnd tA tB') := by
  intro wh pins s σ H Q I h
  refine isTrue_and (thn (ha pins s σ H _ I h) fun c s1 ⟨H1, I1, q1⟩ => ?_)
  cases c with
  | true => exact hb wh pins s1 σ H1 Q I1 (q1.1 rfl)
  | false => exact ⟨H1, I1, q1.2 rfl⟩
theorem cw_or (ha : PT X a tA) (hb : PW X (.BoolOp .Or (b :: rest) pos) tB') : PW X (.BoolOp .Or (a :: b :: rest) pos) (cOr tA tB') := by
  intro wh pins s σ H Q I h
  refine isTrue_or (thn (ha pins s σ H _ I h) fun c s1 ⟨H1, I1, q1⟩ => ?_)
  cases c with
  | true => exact ⟨H1, I1, q1.1 rfl⟩
  | false => exact hb wh pins s1 σ H1 Q I1 (q1.2 rfl)
/-  and, or as values (bools) -/
def cAndV (ta tb : TE) : TE := fun σ H Q => ta σ H (boolK fun c H1 => (c = true → tb σ H1 Q) ∧ (c = false → Q (.bl false) H1))
def cOrV (ta tb : TE) : TE := fun σ H Q => ta σ H (boolK fun c H1 => (c = true → Q (.bl true) H1) ∧ (c = false → tb σ H1 Q))
def cNotV (ta : TE) : TE := fun σ H Q => ta σ H (boolK fun c H1 => Q (.bl (!c)) H1)
theorem ce_and (ha : PE X a ta) (hb : PE X (.BoolOp .And (b :: rest) pos) tb) : PE X (.BoolOp .And (a :: b :: rest) pos) (cAndV ta tb) := by
  intro pins s σ H Q I h
  refine BoolOp_and (thn (ha pins s σ H _ I h) fun v s1 ⟨x, H1, I1, r1, q1⟩ => ?_)
  obtain ⟨c, rfl, q1⟩ := boolK_of q1
  cases r1
  refine wpAny_truthy_bool ?_
  cases c with
  | true => exact hb pins s1 σ H1 Q I1 (q1.1 rfl)
  | false => exact ⟨.bl false, H1, I1, rfl, q1.2 rfl⟩
def cIf (t : TT) (ta tb : TE) : TE := fun σ H Q => t σ H fun c H1 => (c = true → ta σ H1 Q) ∧ (c = false → tb σ H1 Q)
def cIfS (c : TT) (t u : TS) : TS := fun D σ H => c σ H fun b H1 => (b = true → t D σ H1) ∧ (b = false → u D σ H1)
theorem cs_if {c : Expr} {p q : List Stmt} {tc : TT} {t u : TS} (hc : PT X c tc) (ha : PSs X p t) (hb : PSs X q u) : PS X (.If c p q pos) (cIfS tc t u) := by
  intro pins s σ H D I h
  refine wpAny_If (thn (hc pins s σ H _ I h) fun d s1 ⟨H1, I1, q1⟩ => ?_)
  cases d with
  | true => exact ha pins s1 σ H1 D I1 (q1.1 rfl)
  | false => exact hb pins s1 σ H1 D I1 (q1.2 rfl)
/-  a op1 b op2 c -/
def cChain (r r' : R2) (ta tb tc : TE) : TE := fun σ H Q => ta σ H fun x H1 => tb σ H1 fun y H2 => r x y H2 (boolK fun k H3 =>
  (k = true → tc σ H3 fun w' H4 => r' y w' H4 Q) ∧ (k = false → Q (.bl false) H3))
/-  loops; opened by their forms alone -/
@[irreducible] def WhileAt (c : TT) (tb : TS) (D : Ends) (σ : St) (H : Hp) : Prop := ∃ W : Nat → St → Hp → Prop, (∃ m, W m σ H) ∧ ∀ m σ H, W m σ H →
  c σ H fun b H1 => (b = true → ∃ N : St → Hp → Prop, (∀ σ' H', N σ' H' → ∃ m', m' < m ∧ W m' σ' H') ∧ tb { D with nx := N, ct := N, bk := D.nx } σ H1) ∧ (b = false → D.nx σ H1)
def cWhile (c : TT) (tb : TS) : TS := fun D σ H => WhileAt c tb D σ H
@[irreducible] def ForAt (J : It) (g : TG) (tb : TS) (D : Ends) (σ : St) (H1 : Hp) : Prop := ∃ W : Nat → Nat → St → Hp → Prop, (∃ m, W 0 m σ H1) ∧ ∀ i m σ H, W i m σ H →
  (J.stop i H ∧ D.nx σ H) ∨ (J.go i H ∧ ∃ N : St → Hp → Prop, (∀ σ' H', N σ' H' → ∃ m', m' < m ∧ W (i + 1) m' σ' H') ∧ ∀ x H', J.yld i H x H' → g x σ H' fun σ2 H2 => tb { D with nx := N, ct := N, bk := D.nx } σ2 H2)
def cFor (wi : TI) (g : TG) (tb : TS) : TS := fun D σ H => wi σ H fun J H1 => ForAt J g tb D σ H1
theorem cFor_eq (wi : TI) (g : TG) (tb : TS) : cFor wi g tb = tFor wi g tb := by
  funext D σ H
  unfold cFor tFor
  congr 1
  funext J H1
  unfold ForAt
  rfl
theorem cs_for {tg iter : Expr} {body : List Stmt} {wi : TI} {g : TG} {tb : TS} {pos : Pos} (hp : PassesOwn (model X.prog X.w) X.A X.env X.xe) (hc : X.calm = true) (hi : PI X tg iter wi) (hg : PG X tg g) (hb : PSs X body tb)
    (hs : ∀ x, foldedSetIterable iter X.env x = pure x := by intro _; rfl) : PS X (.For tg iter body [] pos) (cFor wi g tb) := by
  rw [cFor_eq]
  exact ps_for hp hc hi hg hb hs
/-  a word behind a statement: its two ways are joined -/
def tCut (t : TS) : TS := fun D σ H => ∃ M : L2.St → Hp → Prop, t { D with nx := M } σ H ∧ ∀ σ' H', M σ' H' → D.nx σ' H'
theorem cs_cut {st : Stmt} {t : TS} (h : PS X st t) : PS X st (tCut t) := by
  intro pins s σ H D I q
  obtain ⟨M, q1, q2⟩ := q
  refine thn (h pins s σ H _ I q1) fun f s' z => ?_
  cases f with
  | next => obtain ⟨σ', H', I', m⟩ := z; exact ⟨σ', H', I', q2 σ' H' m⟩
  | brk => exact z
  | cont => exact z
  | ret v => exact z
/-  name = value, the value a letter from here on -/
def cLet (i : Nat) : TG := fun v σ H Q => ∀ y, y = v → Q (σ.set i (some y)) H
end
end L2

/-! A LIST COMPREHENSION of one clause, with or without a test; its block runs in a context of its own. -/
namespace L2
open PySem PySem.Spec PyProof.Rows

/-  the cells that a block draws from around it -/
def clOf (cells : List (Str × Addr)) : List (Str × NameKind) → List (Str × Addr) → List (Str × Addr)
  | [], cs => cs
  | (n, k) :: r, cs => clOf cells r (if k == .free then (n, (cells.lookup n).getD 0) :: cs else cs)
theorem closure_is {scope : Scope} {env : Env} (h : ∀ y ∈ scope.names, y.2 = .free → ∃ c, env.cells.lookup y.1 = some c) : closureFor scope env = pure (clOf env.cells scope.names []) := by
  have all : ∀ (l : List (Str × NameKind)) (cs : List (Str × Addr)), (∀ y ∈ l, y.2 = .free → ∃ c, env.cells.lookup y.1 = some c) →
      (forIn l cs fun x r => match x with
        | (name, kind) => if (kind == NameKind.free) = true then do let a ← cellOf env name; pure (ForInStep.yield ((name, a) :: r)) else pure (ForInStep.yield r) : Sem (List (Str × Addr))) = pure (clOf env.cells l cs) := by
    intro l
    induction l with
    | nil => intro cs _; rfl
    | cons y r ih =>
      intro cs hl
      obtain ⟨n, k⟩ := y
      rw [List.forIn_cons]
      by_cases hk : k = .free
      · subst hk
        obtain ⟨c, hc⟩ := hl (n, .free) List.mem_cons_self rfl
        have e : cellOf env n = pure c := by unfold cellOf; rw [hc]
        simp only [beq_self_eq_true, if_true, e, pure_bind]
        rw [ih _ fun z hz => hl z (List.mem_cons_of_mem _ hz)]
        simp [clOf, hc]
      · have hb : (k == NameKind.free) = false := by simpa using hk
        simp only [hb, Bool.false_eq_true, if_false, pure_bind]
        rw [ih _ fun z hz => hl z (List.mem_cons_of_mem _ hz)]
        simp [clOf, hb]
  unfold closureFor
  have := all scope.names [] h
  simp only [bind_pure] at this ⊢
  exact this
theorem clOf_sub {cells : List (Str × Addr)} : ∀ {l : List (Str × NameKind)} {cs : List (Str × Addr)} {x : Str} {c : Addr}, (∀ y ∈ l, y.2 = .free → ∃ c, cells.lookup y.1 = some c) → (clOf cells l cs).lookup x = some c →
    cs.lookup x = some c ∨ cells.lookup x = some c
  | [], cs, x, c, _, h => .inl h
  | (n, k) :: r, cs, x, c, hl, h => by
    unfold clOf at h
    rcases clOf_sub (fun z hz => hl z (List.mem_cons_of_mem _ hz)) h with q | q
    · split at q
      · rename_i hk
        rw [List.lookup_cons] at q
        split at q
        · rename_i hx
          obtain ⟨c', hc⟩ := hl (n, k) List.mem_cons_self (by simpa using hk)
          have e : x = n := by simpa using hx
          subst e
          rw [hc] at q
          right
          rw [hc]
          simpa using q
        · exact .inl q
      · exact .inl q
    · exact .inr q
theorem clOf_mem {cells : List (Str × Addr)} : ∀ {l : List (Str × NameKind)} {cs : List (Str × Addr)} {x : Str}, (x, NameKind.free) ∈ l ∨ (∃ c, cs.lookup x = some c) → ∃ c, (clOf cells l cs).lookup x = some c
  | [], cs, x, h => by
    rcases h with h | h
    · simp at h
    · exact h
  | (n, k) :: r, cs, x, h => by
    unfold clOf
    refine clOf_mem ?_
    rcases h with h | ⟨c, h⟩
    · rcases List.mem_cons.mp h with h | h
      · cases h
        right
        simp
      · exact .inl h
    · right
      split
      · rw [List.lookup_cons]
        split
        · exact ⟨_, rfl⟩
        · exact ⟨c, h⟩
      · exact ⟨c, h⟩

/-  the block's context -/
def Cx.blk (X : Cx) (scope : Scope) (C : Addr) (Nc : List Str) (s₂ : Shared) (H₂ : Hp) (fp : List Addr) : Cx :=
  { X with N := Nc, s₀ := s₂, H₀ := H₂, env := compEnvC scope (clOf X.env.cells scope.names []) C X.env, outer := X.stack, stack := X.stack, ex := fp, fn := fun _ => false, pn := [], xe := fun _ _ => False, cp := fun _ => false }

/-  the slots of the frame that a block sees -/
def CapOk (X : Cx) (scope : Scope) : List Nat → List Str → Prop
  | [], [] => True
  | j :: js, y :: ys => (X.N[j]? = some y ∧ scope.names.lookup y = some .free ∧ (X.env.kindOf y = some .cell ∨ X.env.kindOf y = some .free)) ∧ CapOk X scope js ys
  | _, _ => False
def capV (σ : St) (cap : List Nat) : St := cap.map fun j => (σ[j]?).getD none
structure BlkOk (X : Cx) (scope : Scope) (x : Str) (cap : List Nat) (ys : List Str) : Prop where
  kind : scope.kind = .function
  nocell : ∀ y ∈ scope.names, y.2 ≠ .cell
  locs : ∀ y ∈ scope.names, y.2 = .local → scope.names.lookup y.1 = some .local
  lx : scope.names.lookup x = some .local
  fr : ∀ y ∈ scope.names, y.2 = .free → X.env.kindOf y.1 = some .cell ∨ X.env.kindOf y.1 = some .free
  cap : CapOk X scope cap ys
  nd : (x :: ys).Nodup
theorem blk_mk {X : Cx} {scope : Scope} {x : Str} {cap : List Nat} {ys : List Str} (kind : scope.kind = .function) (h1 : (scope.names.all fun y => !(y.2 == .cell)) = true) (h2 : (scope.names.all fun y => !(y.2 == .local) || scope.names.lookup y.1 == some .local) = true)
    (hx : scope.names.lookup x = some .local) (h3 : (scope.names.all fun y => !(y.2 == .free) || (X.env.kindOf y.1 == some .cell || X.env.kindOf y.1 == some .free)) = true) (hcap : CapOk X scope cap ys) (hnd : (x :: ys).Nodup) : BlkOk X scope x cap ys := by
  refine ⟨kind, fun y hy e => ?_, fun y hy e => ?_, hx, fun y hy e => ?_, hcap, hnd⟩
  · have := List.all_eq_true.mp h1 y hy
    rw [e] at this; exact absurd this (by decide)
  · have := List.all_eq_true.mp h2 y hy
    rw [e] at this
    simpa using this
  · have := List.all_eq_true.mp h3 y hy
    rw [e] at this
    simpa using this
theorem capOk_get {X : Cx} {scope : Scope} {σ : St} : ∀ {cap : List Nat} {ys : List Str} {i : Nat} {y : Str} {v : V}, CapOk X scope cap ys → ys[i]? = some y → (capV σ cap)[i]? = some (some v) →
    ∃ j : Nat, X.N[j]? = some y ∧ σ[j]? = some (some v) ∧ scope.names.lookup y = some .free ∧ (X.env.kindOf y = some .cell ∨ X.env.kindOf y = some .free)
  | [], [], i, y, v, _, h, _ => by simp at h
  | j :: js, z :: zs, 0, y, v, ⟨⟨h1, h2, h3⟩, _⟩, e1, e2 => by
    simp at e1; subst e1
    refine ⟨j, h1, ?_, h2, h3⟩
    simp only [capV, List.map_cons, List.getElem?_cons_zero, Option.some.injEq] at e2
    cases q : σ[j]? with
    | none => rw [q] at e2; cases e2
    | some w => rw [q] at e2; simp at e2; rw [e2]
  | j :: js, z :: zs, i + 1, y, v, ⟨_, h⟩, e1, e2 => capOk_get (i := i) h (by simpa using e1) (by simpa [capV] using e2)
  | [], _ :: _, _, _, _, h, _, _ => h.elim
  | _ :: _, [], _, _, _, h, _, _ => h.elim
theorem capOk_len {X : Cx} {scope : Scope} : ∀ {cap : List Nat} {ys : List Str}, CapOk X scope cap ys → cap.length = ys.length
  | [], [], _ => rfl
  | _ :: _, _ :: _, ⟨_, h⟩ => by simp [capOk_len h]
  | [], _ :: _, h => h.elim
  | _ :: _, [], h => h.elim

theorem lookup_mem_names {l : List (Str × NameKind)} {y : Str} {k : NameKind} (h : l.lookup y = some k) : (y, k) ∈ l := PySem.mem_of_lookup h

/-  the relabelled scope: a free name stays free or becomes the frame's cell -/
theorem relabel_free {env : Env} : ∀ {names : List (Str × NameKind)} {x : Str}, names.lookup x = some .free →
    (names.map fun (n, k) => if (k == NameKind.free && env.scope.kind == .function && env.kindOf n == some .cell) then (n, NameKind.cell) else (n, k)).lookup x = some .cell ∨
    (names.map fun (n, k) => if (k == NameKind.free && env.scope.kind == .function && env.kindOf n == some .cell) then (n, NameKind.cell) else (n, k)).lookup x = some .free
  | [], _, h => by simp at h
  | (n, k) :: r, x, h => by
    have ih := @relabel_free env r x
    rw [List.map_cons]
    rw [List.lookup_cons] at h
    cases hx : x == n with
    | true =>
      rw [hx] at h
      simp only [Option.some.injEq] at h
      subst h
      dsimp only
      split
      · left; rw [List.lookup_cons, hx]
      · right; rw [List.lookup_cons, hx]
    | false =>
      rw [hx] at h
      dsimp only
      split
      · rw [List.lookup_cons, hx]; exact ih h
      · rw [List.lookup_cons, hx]; exact ih h
theorem relabel_of {env : Env} : ∀ {names : List (Str × NameKind)} {x : Str} {k : NameKind},
    (names.map fun (n, k) => if (k == NameKind.free && env.scope.kind == .function && env.kindOf n == some .cell) then (n, NameKind.cell) else (n, k)).lookup x = some k → (k = .cell ∨ k = .free) → (∀ y ∈ names, y.2 ≠ .cell) → (x, NameKind.free) ∈ names
  | [], _, _, h, _, _ => by simp at h
  | (n, k') :: r, x, k, h, hk, hc => by
    rw [List.map_cons] at h
    have hc' : ∀ y ∈ r, y.2 ≠ .cell := fun y hy => hc y (List.mem_cons_of_mem _ hy)
    have nk : k' ≠ .cell := hc (n, k') List.mem_cons_self
    dsimp only at h
    split at h
    · rename_i q
      rw [List.lookup_cons] at h
      split at h
      · rename_i hx
        have e : x = n := by simpa using hx
        have e2 : k' = .free := by
          simp only [Bool.and_eq_true, beq_iff_eq] at q
          exact q.1.1
        rw [e, e2]; exact List.mem_cons_self
      · exact List.mem_cons_of_mem _ (relabel_of h hk hc')
    · rw [List.lookup_cons] at h
      split at h
      · rename_i hx
        have e : x = n := by simpa using hx
        have e3 : k' = k := by simpa using h
        rcases hk with q | q
        · exact absurd (e3.trans q) nk
        · rw [e, e3, q]; exact List.mem_cons_self
      · exact List.mem_cons_of_mem _ (relabel_of h hk hc')

section
variable {X : Cx} {scope : Scope} {x : Str} {cap : List Nat} {ys : List Str}
theorem BlkOk.clos (B : BlkOk X scope x cap ys) (ok : X.Ok) : ∀ y ∈ scope.names, y.2 = .free → ∃ c, X.env.cells.lookup y.1 = some c := fun y hy e => ok.has y.1 (B.fr y hy e)
theorem BlkOk.sub (B : BlkOk X scope x cap ys) (ok : X.Ok) {z : Str} {c : Addr} (h : (clOf X.env.cells scope.names []).lookup z = some c) : X.env.cells.lookup z = some c := by
  rcases clOf_sub (B.clos ok) h with q | q
  · simp at q
  · exact q
/-  the block's first state -/
theorem BlkOk.start {pins : List (Addr × Obj)} {σ : St} {H₂ : Hp} {s₂ : Shared} {fp : List Addr} {h₁ : Heap} {tk : Nat} {C D : Addr} (B : BlkOk X scope x cap ys) (I : Inv X pins σ H₂ s₂)
    (hf : ∀ b ∈ fp, FpOk X pins H₂ b) (hD : s₂.heap.objs.size ≤ D) (hC : s₂.heap.objs.size ≤ C) (hDC : D ≠ C) (hk : ∀ b o, s₂.heap.get? b = some o → h₁.get? b = some o)
    (hns : ∃ m, h₁.Ns C m) (hl : h₁.get? D = some { cls := .type "list", data := .seq ([] : List Value).toArray }) (hfp : ∀ b ∈ fp, b < s₂.heap.objs.size) :
    Inv (X.blk scope C (x :: ys) s₂ H₂ fp) [] (none :: capV σ cap) (upd H₂ D (.lst [])) { s₂ with heap := h₁, toks := tk } := by
  have ok := I.ok
  have freshC : H₂ C = none := I.hok.fresh hC
  have freshD : H₂ D = none := I.hok.fresh hD
  have lt : ∀ b o, s₂.heap.get? b = some o → b < s₂.heap.objs.size := fun b o e => Heap.lt_size e
  refine ⟨⟨ok.mod, B.kind, ok.glob, ok.blt, hC, fun y z c h1 h2 => ok.inj y z c (B.sub ok h1) (B.sub ok h2), fun y hy => ?_, fun y c h => (Bool.false_ne_true h).elim, ok.hd, ok.frames, .inl rfl, fun b hb => ⟨?_, fun y c h e => ?_⟩, I.bs, Nat.le_trans ok.bsz I.sz, fun b o e hb => ?_, fun b hb hs => ?_, I.stack, I.stkFree, fun y c h => (Bool.false_ne_true h).elim, fun b hb => I.hok.fresh hb⟩,
    rfl, I.bare, Un.laid hk hD freshD, ?_, fun y c h => ?_, ?_, fun y c h => ?_, fun p hp => ?_, ?_, ?_⟩
  · have hy' : (relabel scope X.env).names.lookup y = some .cell ∨ (relabel scope X.env).names.lookup y = some .free := hy
    have m : (y, NameKind.free) ∈ scope.names := by
      rcases hy' with q | q
      · exact relabel_of q (.inl rfl) B.nocell
      · exact relabel_of q (.inr rfl) B.nocell
    exact clOf_mem (.inl m)
  · exact Nat.ne_of_lt (Nat.lt_of_lt_of_le (hfp b hb) hC)
  · exact (hf b hb).2.2.2.2.1 y c (B.sub ok h) e
  · rcases (hf b hb).2.2.2.1 with q | q
    · exact ok.noex b o e q
    · exact absurd (Nat.lt_of_lt_of_le (Heap.lt_size (ok.bs b o e).1) q) (Nat.lt_irrefl _)
  · rcases List.mem_cons.mp (I.stkSub b hs) with q | q
    · exact (hf b hb).2.1 q
    · exact (hf b hb).2.2.1 q
  · obtain ⟨m, hm⟩ := hns
    refine ⟨m, hm, fun i y v e1 e2 e3 => ?_⟩
    cases i with
    | zero => simp at e2
    | succ i =>
      obtain ⟨j, n1, n2, n3, n4⟩ := capOk_get (i := i) B.cap (by simpa [Cx.blk] using e1) (by simpa using e2)
      obtain ⟨m0, hn0, hl0⟩ := I.loc
      have vis : Vis X.env.scope y := by
        rcases n4 with q | q
        · exact .inr (.inl q)
        · exact .inr (.inr q)
      obtain ⟨u, ru, l⟩ := hl0 j y v n1 n2 vis
      refine ⟨u, ru, .inr ⟨relabel_free n3, ?_⟩⟩
      rcases l with ⟨k, _⟩ | ⟨_, c, ec, z⟩
      · rw [k] at n4
        rcases n4 with q | q <;> cases q
      · obtain ⟨c', ec'⟩ := clOf_mem (cells := X.env.cells) (cs := []) (.inl (lookup_mem_names n3))
        have := B.sub ok ec'
        rw [ec] at this; cases this
        obtain ⟨o, ho, hd⟩ := z
        exact ⟨c, ec', o, hk c o ho, hd⟩
  · obtain ⟨v, o, ho, hd⟩ := I.cell y c (B.sub ok h)
    exact ⟨v, o, hk c o ho, hd⟩
  · show upd H₂ D _ C = none
    rw [upd_ne (Ne.symm hDC)]; exact freshC
  · obtain ⟨v, o, ho, hd⟩ := I.cell y c (B.sub ok h)
    rw [upd_ne (Nat.ne_of_lt (Nat.lt_of_lt_of_le (lt c o ho) hD))]
    refine (I.freeC y c (B.sub ok h)).imp id fun ⟨_, o', ho', hno⟩ => ⟨rfl, o', ho', fun z i v e1 k e2 => ?_⟩
    cases i with
    | zero => simp at e2
    | succ i =>
      obtain ⟨j, n1, n2, n3, n4⟩ := capOk_get (i := i) B.cap (by simpa [Cx.blk] using e1) (by simpa using e2)
      exact hno z j v n1 n4 n2
  · exact absurd (show p ∈ ([] : List (Addr × Obj)) from hp) (by simp)
  · exact I.hok.laid hk hD ⟨Nat.zero_le _, [], 0, .nil, hl⟩
  · simp [Cx.blk, capV, capOk_len B.cap]
/-  the frame around it, behind the block -/
theorem BlkOk.back {pins : List (Addr × Obj)} {σ : St} {H₂ H' : Hp} {s₂ s' : Shared} {fp : List Addr} {C : Addr} {pl : List (Addr × Obj)} {σ' : St} (B : BlkOk X scope x cap ys) (I : Inv X pins σ H₂ s₂)
    (hf : ∀ b ∈ fp, FpOk X pins H₂ b) (J : Inv (X.blk scope C (x :: ys) s₂ H₂ fp) pl σ' H' s') : Inv X pins σ H' s' :=
  I.call' (ch := fp) J.os J.base J.hok J.bare fun b hb => by
    obtain ⟨f0, f1, f2, f3, f4, f5⟩ := hf b hb
    refine ⟨?_, f1, f4, f5⟩
    rcases f3 with q | q
    · exact .inl q
    · exact .inr q
theorem BlkOk.far {pins : List (Addr × Obj)} {σ : St} {H₂ H' : Hp} {s₂ s' : Shared} {fp : List Addr} {C : Addr} {pl : List (Addr × Obj)} {σ' : St} (I : Inv X pins σ H₂ s₂)
    (hC : s₂.heap.objs.size ≤ C) (J : Inv (X.blk scope C (x :: ys) s₂ H₂ fp) pl σ' H' s') :
    H' C = none ∧ C ≠ X.env.locals ∧ X.s₀.heap.objs.size ≤ C ∧ (∀ z c, X.env.cells.lookup z = some c → c ≠ C) ∧ ∀ p ∈ X.pn ++ pins, p.1 ≠ C := by
  refine ⟨J.free, Nat.ne_of_gt (Nat.lt_of_lt_of_le I.lt hC), Nat.le_trans I.sz hC, fun z c e q => ?_, fun p hp q => ?_⟩
  · obtain ⟨v, w⟩ := I.cell z c e
    exact absurd (Nat.lt_of_lt_of_le w.lt (by rw [q]; exact hC)) (Nat.lt_irrefl _)
  · exact absurd (Nat.lt_of_lt_of_le (Heap.lt_size (I.pin p hp).1) (by rw [q]; exact hC)) (Nat.lt_irrefl _)
end

/-  the turns of a clause, the step ahead of the store kept -/
theorem comp_turns {prog : Program} {w : World} {A : Around} {R : Result → Shared → Prop} {s : Shared} {elt tg iter : Expr} {ifs : List Expr} {scope : Scope} {pos : Pos} {it acc : Value} {env : Env} (J : Nat → Shared → Prop)
    (go : ∀ n s, J n s → wpAny (model prog w) A (pyNext it) (fun r s1 => match r with
      | none => R (.ok .next) s1
      | some v => wpAny (model prog w) A (letOwnedTupleGo tg it v) (fun _ s2 => wpAny (model prog w) A (assign tg env v) (fun _ s3 =>
          wpAny (model prog w) A (forIn ifs true fun c r => if r = true then do let ok ← isTrue c env (eval c env); pure (ForInStep.yield ok) else pure (ForInStep.yield r)) (fun ok s4 =>
            if ok = true then wpAny (model prog w) A (eval elt env) (fun y s5 => wpAny (model prog w) A (call (.builtin "list.append") [acc, y]) (fun _ s6 => ∃ m, m < n ∧ J m s6) (fun _ _ => False) s5) (fun _ _ => False) s4
            else ∃ m, m < n ∧ J m s4) (fun _ _ => False) s3) (fun _ _ => False) s2) (fun _ _ => False) s1) (fun _ _ => False) s)
    (n : Nat) (h : J n s) : codeAny (model prog w) A (.compLoop (.ListComp elt [⟨tg, iter, ifs, 0⟩] scope pos) 0 it acc env) R s := by
  refine codeAny_loop rfl J (fun n s hJ => ?_) n h
  show wpAny _ A ((compTurn (.ListComp elt [⟨tg, iter, ifs, 0⟩] scope pos) 0 it acc env).onRaise (fun x => do noteFrame x env; theTreesLotGoes x)) _ _ s
  refine wpAny_noted ?_
  rw [compTurn_list]
  refine wpAny_bind (wpAny_standAt (wpAny_bind (wpAny_mono (go n s hJ) (fun r s1 h1 => ?_) fun _ _ z => z.elim)))
  cases r with
  | none => exact wpAny_pure h1
  | some v =>
    refine wpAny_bind (wpAny_mono h1 (fun _ s2 h2 => wpAny_bind (wpAny_mono h2 (fun _ s3 h3 => wpAny_bind (wpAny_mono h3 (fun ok s4 h4 => ?_) fun _ _ z => z.elim)) fun _ _ z => z.elim)) fun _ _ z => z.elim)
    cases ok with
    | false => exact wpAny_pure ⟨rfl, h4⟩
    | true =>
      exact wpAny_bind (wpAny_bind (wpAny_mono h4 (fun y s5 h5 => wpAny_bind (wpAny_mono h5 (fun _ s6 h6 => wpAny_pure (wpAny_pure ⟨rfl, h6⟩)) fun _ _ z => z.elim)) fun _ _ z => z.elim))
/-  the tests of a clause: none, or one -/
def CTs (Xc : Cx) (ifs : List Expr) (t : TT) : Prop :=
  ∀ (pins : List (Addr × Obj)) (s : Shared) (σ : St) (H : Hp) (Q : Bool → Hp → Prop), Inv Xc pins σ H s → t σ H Q →
    wpAny (model Xc.prog Xc.w) Xc.A (forIn ifs true fun c r => if r = true then do let ok ← isTrue c Xc.env (eval c Xc.env); pure (ForInStep.yield ok) else pure (ForInStep.yield r)) (TP Xc pins σ Q) Xc.xe s
def tAll : TT := fun _ H Q => Q true H
theorem cts_nil {Xc : Cx} : CTs Xc [] tAll := fun _ _ _ H _ I q => wpAny_tests_nil ⟨H, I, q⟩
theorem cts_one {Xc : Cx} {c : Expr} {t : TT} (h : PT Xc c t) : CTs Xc [c] t := fun pins s σ H Q I q => wpAny_tests_one (h pins s σ H Q I q)

/-  the invariant of a comprehension: turn, measure, the list so far, the heap -/
abbrev CW := Nat → Nat → List V → Hp → Prop
/-  what a comprehension asks, from its iterator on; opened by CompAt.mk alone -/
@[irreducible] def CompAt (J : It) (caps : St) (tt : TT) (te : TE) (Q : VK) (H2 : Hp) : Prop := ∀ D, H2 D = none → ∃ W : CW, (∃ m, W 0 m [] (upd H2 D (.lst []))) ∧
  ∀ i m acc H3, W i m acc H3 → H3 D = some (.lst acc) ∧ ((J.stop i H3 ∧ Q (.ref D) H3) ∨ (J.go i H3 ∧ acc.length < sizeLine ∧ ∀ v H4, J.yld i H3 v H4 → tt (some v :: caps) H4 fun b H5 =>
    (b = true → te (some v :: caps) H5 fun u H6 => H6 D = some (.lst acc) ∧ ∃ m', m' < m ∧ W (i + 1) m' (acc ++ [u]) (upd H6 D (.lst (acc ++ [u])))) ∧ (b = false → ∃ m', m' < m ∧ W (i + 1) m' acc H5)))
/-  [e for x in it if c] -/
def tComp (cap : List Nat) (wi : TI) (tt : TT) (te : TE) : TE := fun σ H Q => wi σ H fun J H2 => CompAt J (capV σ cap) tt te Q H2
section
variable {X : Cx} {scope : Scope} {x : Str} {cap : List Nat} {ys : List Str} {elt iter : Expr} {ifs : List Expr} {px pos : Pos} {wi : TI} {tt : TT} {te : TE}
/-  the block itself: from the iterator on -/
theorem comp_block (B : BlkOk X scope x cap ys) (hc : X.calm = true) (he : ∀ C s H fp, PE (X.blk scope C (x :: ys) s H fp) elt te) (ht : ∀ C s H fp, CTs (X.blk scope C (x :: ys) s H fp) ifs tt)
    {pins : List (Addr × Obj)} {σ : St} {s₂ : Shared} {Q : VK} {RR : Value → Addr → Result → Shared → Prop} {itv : Value} {E : Value → Shared → Prop}
    (hp : PIE X pins σ (.Name x px) (fun J H2 => CompAt J (capV σ cap) tt te Q H2) itv s₂)
    (hR : ∀ (D C : Addr) (H' : Hp) (s' : Shared), Inv X pins σ H' s' → (∃ m, s'.heap.Ns C m) → H' C = none → C ≠ X.env.locals → X.s₀.heap.objs.size ≤ C → (∀ z c, X.env.cells.lookup z = some c → c ≠ C) → (∀ p ∈ X.pn ++ pins, p.1 ≠ C) → Q (.ref D) H' → RR (.ref D) C (.ok .next) s') :
    wpAny (model X.prog X.w) X.A (newList []) (fun acc s₃ => wpAny (model X.prog X.w) X.A (newFunctionEnv scope X.env.globals (clOf X.env.cells scope.names []) [] X.env.qual none .none (some X.env)) (fun cenv s₄ =>
      codeAny (model X.prog X.w) X.A (.compStart (.ListComp elt [⟨.Name x px, iter, ifs, 0⟩] scope pos) 0 itv acc { cenv with scope := relabel scope X.env }) (RR acc cenv.locals) s₄) E s₃) E s₂ := by
  obtain ⟨it, fp, tn, J, H2, e, I2, T, st2, f2, hw⟩ := hp
  subst e
  unfold CompAt at hw
  refine wpAny_newObj_type (wpAny_newFunctionEnv B.nocell (by intro y hy; simp at hy) (fun h₁ hns₁ hsb₁ => ?_) B.kind)
  dsimp only at hns₁ hsb₁ ⊢
  generalize hG : s₂.heap.push { cls := .type "list", dict := none, data := .seq ([] : List Value).toArray } = G at hns₁ hsb₁ ⊢
  have hsz : G.objs.size = s₂.heap.objs.size + 1 := by rw [← hG, Heap.size_push]
  have hCle : s₂.heap.objs.size ≤ G.objs.size := by omega
  have hDC : s₂.heap.objs.size ≠ G.objs.size := by omega
  have old : ∀ b o, s₂.heap.get? b = some o → h₁.get? b = some o := fun b o q => by
    have lt := Heap.lt_size q
    refine hsb₁.extBut b o (Nat.ne_of_lt (Nat.lt_of_lt_of_le lt hCle)) (Heap.get?_push_of_some _ ?_)
    rw [← hG]; exact Heap.get?_push_of_some _ q
  have accAt : h₁.get? s₂.heap.objs.size = some { cls := .type "list", data := .seq ([] : List Value).toArray } := by
    refine hsb₁.extBut _ _ hDC (Heap.get?_push_of_some _ ?_)
    rw [← hG]; exact Heap.get?_push_size _ rfl
  have hfp : ∀ b ∈ fp, b < s₂.heap.objs.size := fun b hb => by
    obtain ⟨o, ho, _⟩ := T.obj _ _ st2 b hb
    exact Heap.lt_size ho
  obtain ⟨W, ⟨m0, w0⟩, turn⟩ := hw s₂.heap.objs.size (I2.hok.fresh (Nat.le_refl _))
  generalize htk : s₂.toks + ([] : List (Str × Value)).length = tk
  have I0 := B.start (tk := tk) (C := G.objs.size) I2 f2 (Nat.le_refl _) hCle hDC old ⟨_, hns₁⟩ accAt hfp
  have st0 : tn 0 h₁ := T.keep _ _ _ st2 fun b hb o q => old b o q
  -- what stays true of the iterator's objects
  have f3 : ∀ {H' : Hp}, (∀ b ∈ fp, H' b = none) → ∀ b ∈ fp, FpOk (X.blk scope G.objs.size (x :: ys) s₂ H2 fp) [] H' b := fun hn b hb => by
    obtain ⟨f0, f1, f2', f3', f4, f5⟩ := f2 b hb
    refine ⟨hn b hb, Nat.ne_of_lt (Nat.lt_of_lt_of_le (hfp b hb) hCle), fun hs => ?_, .inl hb, fun z c q => f4 z c (B.sub I2.ok q), fun p hp => absurd (show p ∈ ([] : List (Addr × Obj)) from hp) (by simp)⟩
    rcases List.mem_cons.mp (I2.stkSub b hs) with q | q
    · exact f1 q
    · exact f2' q
  have n0 : ∀ b ∈ fp, upd H2 s₂.heap.objs.size (.lst []) b = none := fun b hb => by
    rw [upd_ne (Nat.ne_of_lt (hfp b hb))]; exact (f2 b hb).1
  have loop : ∀ sx : Shared, sx = { s₂ with heap := h₁, toks := tk } →
      codeAny (model X.prog X.w) X.A (.compLoop (.ListComp elt [⟨.Name x px, iter, ifs, 0⟩] scope pos) 0 (.ref it) (.ref s₂.heap.objs.size) (compEnvC scope (clOf X.env.cells scope.names []) G.objs.size X.env)) (RR (.ref s₂.heap.objs.size) G.objs.size) sx := by
    rintro sx rfl
    refine comp_turns (fun n s' => ∃ i acc H', Inv (X.blk scope G.objs.size (x :: ys) s₂ H2 fp) [] (none :: capV σ cap) H' s' ∧ tn i s'.heap ∧ (∀ b ∈ fp, H' b = none) ∧ W i n acc H') ?_ m0 ⟨0, [], _, I0, st0, n0, w0⟩
    rintro n s3 ⟨i, acc, H3, I3, st3, fr3, w3⟩
    obtain ⟨hD3, alt⟩ := turn i n acc H3 w3
    rcases alt with ⟨stop, q⟩ | ⟨go, hlen, step⟩
    · refine wpAny_mono (T.done (X.blk scope G.objs.size (x :: ys) s₂ H2 fp) rfl rfl rfl hc i [] s3 _ H3 (fun _ _ => False) I3 (f3 fr3) st3 stop) (fun r s4 ⟨hr, I4⟩ => ?_) fun _ _ z => z.elim
      subst hr
      obtain ⟨g1, g2, g3, g4, g5⟩ := BlkOk.far I2 hCle I4
      obtain ⟨m4, hm4, _⟩ := I4.loc
      exact hR _ _ H3 s4 (B.back I2 f2 I4) ⟨m4, hm4⟩ g1 g2 g3 g4 g5 q
    · refine wpAny_mono (T.item (X.blk scope G.objs.size (x :: ys) s₂ H2 fp) rfl rfl rfl hc i [] s3 _ H3 (fun _ _ => False) I3 (f3 fr3) st3 go) (fun r s4 ⟨u, hr, h4⟩ => ?_) fun _ _ z => z.elim
      subst hr
      refine wpAny_mono h4 (fun _ s4 ⟨v, H4, I4, rv, y4, st4, fr4⟩ => ?_) fun _ _ z => z.elim
      have I4' := I4.pinned (f3 fr4) (T.obj _ _ st4)
      refine wpAny_assign_Name (store_ok (X := X.blk scope G.objs.size (x :: ys) s₂ H2 fp) (i := 0) I4' B.nd rfl (.inl (lookup_relabel_local B.lx)) rv (fun s5 I5 => ?_) (.inr (lookup_relabel_local B.lx)))
      have I5' : Inv (X.blk scope G.objs.size (x :: ys) s₂ H2 fp) ([] ++ pinsAt fp s4.heap) (some v :: capV σ cap) H4 s5 := I5
      refine wpAny_mono (ht _ _ _ _ _ s5 _ H4 _ I5' (step v H4 y4)) (fun ok s6 ⟨H6, I6, q6⟩ => ?_) fun _ _ z => z.elim
      have pinned : ∀ {σ7 : St} {H7 : Hp} {s7 : Shared}, Inv (X.blk scope G.objs.size (x :: ys) s₂ H2 fp) ([] ++ pinsAt fp s4.heap) σ7 H7 s7 → tn (i + 1) s7.heap ∧ ∀ b ∈ fp, H7 b = none := fun {σ7 H7 s7} I7 => by
        refine ⟨T.keep _ _ _ st4 fun b hb o e => (I7.pin (b, o) (List.mem_append_right _ (List.mem_append_right _ (mem_pinsAt hb e)))).1, fun b hb => ?_⟩
        obtain ⟨o, e, d⟩ := T.obj _ _ st4 b hb
        exact (I7.pin (b, o) (List.mem_append_right _ (List.mem_append_right _ (mem_pinsAt hb e)))).2.1
      have weak : ∀ {H7 : Hp} {s7 : Shared}, Inv (X.blk scope G.objs.size (x :: ys) s₂ H2 fp) ([] ++ pinsAt fp s4.heap) (some v :: capV σ cap) H7 s7 → Inv (X.blk scope G.objs.size (x :: ys) s₂ H2 fp) [] (none :: capV σ cap) H7 s7 := fun I7 =>
        (I7.unpinned (pins := [])).weak rfl fun j z e => by
          cases j with
          | zero => simp at e
          | succ j => simpa using e
      cases ok with
      | false =>
        rw [if_neg Bool.false_ne_true]
        obtain ⟨m', hm', w'⟩ := q6.2 rfl
        exact ⟨m', hm', i + 1, acc, H6, weak I6, (pinned I6).1, (pinned I6).2, w'⟩
      | true =>
        rw [if_pos rfl]
        refine wpAny_mono (he _ _ _ _ _ s6 _ H6 _ I6 (q6.1 rfl)) (fun y s7 ⟨z, H7, I7, rz, hD7, m', hm', w'⟩ => ?_) fun _ _ z => z.elim
        refine wpAny_mono (mt_append (X := X.blk scope G.objs.size (x :: ys) s₂ H2 fp) _ s7 _ H7 (.ref s₂.heap.objs.size) [z] (.ref s₂.heap.objs.size) [y] (fun _ H8 => H8 = upd H7 s₂.heap.objs.size (.lst (acc ++ [z]))) I7 rfl (.cons rz .nil) ⟨_, acc, z, rfl, rfl, hD7, hlen, rfl⟩) (fun _ s8 ⟨_, H8, I8, _, e8⟩ => ?_) fun _ _ z => z.elim
        subst e8
        exact ⟨m', hm', i + 1, _, _, weak I8, (pinned I8).1, (pinned I8).2, w'⟩
  exact codeAny_compStart_list (loop _ rfl) (T.self _ 0 _ _ _ st0 (loop _ rfl))
theorem pe_comp (B : BlkOk X scope x cap ys) (hc : X.calm = true) (hi : PI X (.Name x px) iter wi) (he : ∀ C s H fp, PE (X.blk scope C (x :: ys) s H fp) elt te) (ht : ∀ C s H fp, CTs (X.blk scope C (x :: ys) s H fp) ifs tt)
    (hs : ∀ x, foldedSetIterable iter X.env x = pure x := by intro _; rfl) : PE X (.ListComp elt [⟨.Name x px, iter, ifs, 0⟩] scope pos) (tComp cap wi tt te) := by
  intro pins s σ H Q I h
  rw [eval_ListComp]
  refine wpAny_comprehension_free (use := none) rfl hs (closure_is (B.clos I.ok)) B.kind B.locs ?_
  refine thn (hi pins s σ H _ I h) fun v s1 h1 => thn h1 fun itv s2 h2 => ?_
  refine comp_block (Q := Q) (RR := fun acc C => compPost (model X.prog X.w) X.A X.xe none (EP X pins σ Q) acc C) B hc he ht h2 ?_
  rintro D C H' s' J ⟨m, hm⟩ g1 g2 g3 g4 g5 q
  exact ⟨m, hm, fun h' sb => ⟨.ref D, H', J.turned (t' := s'.toks) (fun b o hb e => (sb.2 b hb).trans e) g1 g2 (.inr g3) g4 g5, rfl, q⟩⟩
/-  name = [e for x in it if c], stored ahead of the block's end -/
end
end L2

/-! RANGES of any ints and steps; list(range(..)); isinstance; a base's method by its class. -/
namespace L2
open PySem PySem.Spec PyProof.Rows

/-  lo, lo + st, .. (n of them) -/
def Its (lo st : Int) (n : Nat) : It := ⟨fun i _ => i < n, fun i H x H' => H' = H ∧ x = .int (lo + i * st), fun i _ => n ≤ i⟩
theorem turn_steps {P : Program} {w : World} {K : PySem.W.Frag} {tg : Expr} (it : Addr) (lo st : Int) (n : Nat) : Turn P w K tg (Its lo st n) [it] it (fun i h => IsRangeIter h it (lo + (i : Nat) * st) ((n : Int) - (i : Nat)) st) where
  mem := by simp
  obj := fun i h q b hb => by
    have e : b = it := by simpa using hb
    subst e
    exact ⟨_, q, fun v z => by
      have z' : Data.fields _ = Data.cell v := z
      cases z'⟩
  keep := fun i h h' q k => k it (by simp) _ q
  item := by
    intro X hP hw hK hc i pins s σ H E I hf q hg
    subst hP hw hK
    obtain ⟨f0, f1, f2, f3, f4, f5⟩ := hf it (by simp)
    refine (Walks.range (prog := X.prog) (w := X.w) (I.ok.hd hc) it lo st n).item i s _ _ hg q fun v h' tk hv q' kk => ?_
    obtain ⟨t, rfl⟩ := hv
    have I1 : Inv X pins σ H { s with heap := h', toks := tk } := I.turned (fun b o hb e => kk b o (by simpa using hb) e) f0 f1 f3 f4 f5
    exact ⟨_, rfl, go_of (s := { s with heap := h', toks := tk }) (n := "range_iterator") q' rfl rfl (by decide) ⟨.int (lo + i * st), H, I1, ⟨t, rfl⟩, ⟨rfl, rfl⟩, q', fun b hb => (hf b hb).1⟩⟩
  done := by
    intro X hP hw hK hc i pins s σ H E I hf q hg
    subst hP hw hK
    obtain ⟨f0, f1, f2, f3, f4, f5⟩ := hf it (by simp)
    exact wpAny_pyNext_range_end (I.ok.hd hc) q (by have : n ≤ i := hg; omega) fun h' eb => ⟨rfl, I.turned (t' := s.toks) (fun b o hb e => eb b o hb e) f0 f1 f3 f4 f5⟩
  self := fun _ _ _ _ _ q h => wpAny_pyIter_rangeiter q h
theorem turn_long {P : Program} {w : World} {K : PySem.W.Frag} {tg : Expr} (it : Addr) (lo st : Int) (n : Nat) : Turn P w K tg (Its lo st n) [it] it (fun i h => IsLongIter h it (lo + (i : Nat) * st) ((n : Int) - (i : Nat)) st) where
  mem := by simp
  obj := fun i h q b hb => by
    have e : b = it := by simpa using hb
    subst e
    exact ⟨_, q, fun v z => by
      have z' : Data.fields _ = Data.cell v := z
      cases z'⟩
  keep := fun i h h' q k => k it (by simp) _ q
  item := by
    intro X hP hw hK hc i pins s σ H E I hf q hg
    subst hP hw hK
    obtain ⟨f0, f1, f2, f3, f4, f5⟩ := hf it (by simp)
    refine (Walks.longrange (prog := X.prog) (w := X.w) (I.ok.hd hc) it lo st n).item i s _ _ hg q fun v h' tk hv q' kk => ?_
    obtain ⟨t, rfl⟩ := hv
    have I1 : Inv X pins σ H { s with heap := h', toks := tk } := I.turned (fun b o hb e => kk b o (by simpa using hb) e) f0 f1 f3 f4 f5
    exact ⟨_, rfl, go_of (s := { s with heap := h', toks := tk }) (n := "longrange_iterator") q' rfl rfl (by decide) ⟨.int (lo + i * st), H, I1, ⟨t, rfl⟩, ⟨rfl, rfl⟩, q', fun b hb => (hf b hb).1⟩⟩
  done := by
    intro X hP hw hK hc i pins s σ H E I hf q hg
    subst hP hw hK
    obtain ⟨f0, f1, f2, f3, f4, f5⟩ := hf it (by simp)
    exact wpAny_pyNext_long_end (I.ok.hd hc) q (by have : n ≤ i := hg; omega) fun h' eb => ⟨rfl, I.turned (t' := s.toks) (fun b o hb e => eb b o hb e) f0 f1 f3 f4 f5⟩
  self := fun _ _ _ _ _ q h => wpAny_pyIter_longiter q h

/-  how many a range has -/
def rngN (a b c : Int) : Nat := (Builtin.Range.rangeSize a b c).toNat
theorem rangeSize_nn (a b c : Int) : 0 ≤ Builtin.Range.rangeSize a b c := by
  unfold Builtin.Range.rangeSize
  split
  · split
    · have := Int.ediv_nonneg (a := b - a - 1) (b := c) (by omega) (by omega); omega
    · omega
  · split
    · have := Int.ediv_nonneg (a := a - b - 1) (b := -c) (by omega) (by omega); omega
    · omega
theorem rngN_cast (a b c : Int) : ((rngN a b c : Nat) : Int) = Builtin.Range.rangeSize a b c := Int.toNat_of_nonneg (rangeSize_nn a b c)
theorem rngN_one (a b : Int) : rngN a b 1 = (b - a).toNat := by
  unfold rngN Builtin.Range.rangeSize
  simp only [show (1 : Int) > 0 by decide, if_true]
  split <;> simp <;> omega

section
variable {X : Cx} {tg : Expr}
/-  a range object, walked -/
theorem rng_it {pins : List (Addr × Obj)} {σ : St} {H : Hp} {s : Shared} {R : It → Hp → Prop} {E : Value → Shared → Prop} {a b c : Int} {t u v : Tok} {r : Addr} (I : Inv X pins σ H s) (hr : IsRange s.heap r a b c t u v)
    (q : R (Its a c (rngN a b c)) H) : wpAny (model X.prog X.w) X.A (pyIter (.ref r)) (PIE X pins σ tg R) E s := by
  have e2 : Builtin.Range.rangeSize a b c = ((rngN a b c : Nat) : Int) - ((0 : Nat) : Int) := by rw [rngN_cast]; simp
  have e1 : a = a + ((0 : Nat) : Int) * c := by simp
  have fp : ∀ b' ∈ [s.heap.objs.size], FpOk X pins H b' := fun b' hb => by
    have e : b' = s.heap.objs.size := by simpa using hb
    subst e
    exact I.fpOk (Nat.le_refl _) (I.hok.fresh (Nat.le_refl _))
  cases hsm : Builtin.Range.small a b c with
  | true =>
    refine wpAny_pyIter_range hr hsm ⟨s.heap.objs.size, [s.heap.objs.size], _, _, H, rfl, I.kept (t' := s.toks) fun b o e => Heap.get?_push_of_some _ e, turn_steps _ a c (rngN a b c), ?_, fp, q⟩
    show IsRangeIter _ _ (a + ((0 : Nat) : Int) * c) (((rngN a b c : Nat) : Int) - ((0 : Nat) : Int)) c
    rw [← e1, ← e2]
    exact Heap.get?_push_size _ rfl
  | false =>
    refine wpAny_pyIter_longrange hr hsm ⟨s.heap.objs.size, [s.heap.objs.size], _, _, H, rfl, I.kept (t' := s.toks) fun b o e => Heap.get?_push_of_some _ e, turn_long _ a c (rngN a b c), ?_, fp, q⟩
    show IsLongIter _ _ (a + ((0 : Nat) : Int) * c) (((rngN a b c : Nat) : Int) - ((0 : Nat) : Int)) c
    rw [← e1, ← e2]
    exact Heap.get?_push_size _ rfl
def argI (k : Int → Hp → Prop) : List V → Hp → Prop := fun vs H => match vs with
  | [.int j] => k j H
  | _ => False
def argI2 (k : Int → Int → Hp → Prop) : List V → Hp → Prop := fun vs H => match vs with
  | [.int i, .int j] => k i j H
  | _ => False
def argI3 (k : Int → Int → Int → Hp → Prop) : List V → Hp → Prop := fun vs H => match vs with
  | [.int i, .int j, .int l] => k i j l H
  | _ => False
theorem argI_of {k : Int → Hp → Prop} {vs : List V} {H : Hp} (h : argI k vs H) : ∃ j, vs = [.int j] ∧ k j H := by
  unfold argI at h
  split at h
  · exact ⟨_, rfl, h⟩
  · exact h.elim
theorem argI2_of {k : Int → Int → Hp → Prop} {vs : List V} {H : Hp} (h : argI2 k vs H) : ∃ i j, vs = [.int i, .int j] ∧ k i j H := by
  unfold argI2 at h
  split at h
  · exact ⟨_, _, rfl, h⟩
  · exact h.elim
theorem vals_i1 {us : List Value} {i : Int} (r : Vals [.int i] us) : ∃ t, us = [.int i t] := by
  obtain ⟨u, rfl, t, rfl⟩ := Vals.one r
  exact ⟨t, rfl⟩
/-  the length of the step: no division by a huge number -/
def StepOk (c : Int) : Prop := c ≠ 0 ∧ c.natAbs.log2 < 9000
def cRng1 (ta : TA) : TI := fun σ H R => ta σ H (argI fun j H1 => R (Its 0 1 (rngN 0 j 1)) H1)
def cRng2 (ta : TA) : TI := fun σ H R => ta σ H (argI2 fun i j H1 => R (Its i 1 (rngN i j 1)) H1)
def cRng3 (ta : TA) : TI := fun σ H R => ta σ H (argI3 fun i j c H1 => StepOk c ∧ R (Its i c (rngN i j c)) H1)
theorem ci_range1 {a : Expr} {ta : TA} {p pos : Pos} (hg : Gl X "range") (hm : X.mg "range" = none) (ha : PA X [a] ta) (hs : starEach [a] X.env = [(false, eval a X.env)] := by rfl) : PI X tg (.Call (.Name "range" p) [a] [] pos) (cRng1 ta) := by
  intro pins s σ H R I h
  refine Call_ (ld_blt I hg hm boot_range (PyProof.Rows.callWith_type1 (thn (ha pos pins s σ H _ I h) fun us s1 ⟨vs, H1, I1, r1, q1⟩ => ?_) hs rfl))
  obtain ⟨j, rfl, q⟩ := argI_of q1
  obtain ⟨t, rfl⟩ := vals_i1 r1
  refine call_range_1 (rng_it (I1.kept (t' := _) fun b o e => Heap.get?_push_of_some _ e) (IsRange.new ..) q)
/-  a range as a value -/
def cRngV (ta : TA) : TE := fun σ H Q => ta σ H (argI2 fun i j H1 => ∀ p, H1 p = none → Q (.ref p) (upd H1 p (.rng i j)))
def cRngV1 (ta : TA) : TE := fun σ H Q => ta σ H (argI fun j H1 => ∀ p, H1 p = none → Q (.ref p) (upd H1 p (.rng 0 j)))
theorem ce_range1 {a : Expr} {ta : TA} {p pos : Pos} (hg : Gl X "range") (hm : X.mg "range" = none) (ha : PA X [a] ta) (hs : starEach [a] X.env = [(false, eval a X.env)] := by rfl) :
    PE X (.Call (.Name "range" p) [a] [] pos) (cRngV1 ta) := by
  intro pins s σ H Q I h
  refine Call_ (ld_blt I hg hm boot_range (PyProof.Rows.callWith_type1 (thn (ha pos pins s σ H _ I h) fun us s1 ⟨vs, H1, I1, r1, q1⟩ => ?_) hs rfl))
  obtain ⟨j, rfl, q⟩ := argI_of q1
  obtain ⟨t, rfl⟩ := vals_i1 r1
  refine call_range_1 ⟨.ref s1.heap.objs.size, upd H1 s1.heap.objs.size (.rng 0 j), I1.laid (fun b o e => Heap.get?_push_of_some _ e) (Nat.le_refl _) ⟨_, _, _, Heap.get?_push_size _ rfl⟩, rfl, q _ (I1.hok.fresh (Nat.le_refl _))⟩
end
end L2

namespace PySem
open Sem (wp)
/-! list(range(..)) over ints of any size: the long iterator's way -/
section
variable {prog : Program} {w : World} {A : Around} {E : Value → Shared → Prop} {s : Shared}
theorem lng_extend {R : Result → Shared → Prop} {r : Addr} {a b c : Int} {t u v : Tok} {k : Nat} (hnd : A.handled = none) (hr : IsRange s.heap r a b c t u v) (hbig : Builtin.Range.small a b c = false)
    (hk : Builtin.Range.rangeSize a b c = k) (hle : k ≤ 2 ^ 24) (D : Addr) (z : Value) (m₀ : Nat) (hD : s.heap.get? D = some { cls := .type "list", data := .seq #[] m₀ })
    (hR : ∀ g tk xs m, (∀ b o, b ≠ D → s.heap.get? b = some o → g.get? b = some o) → g.get? D = some { cls := .type "list", dict := none, data := .seq xs m, slots := #[] } →
      ItemsOf (fun i v => ∃ t, v = .int (a + i * c) t) xs k → R (.ok (.ret z)) { s with heap := g, toks := tk }) :
    wpAny (model prog w) A.in1 (Builtin.List.listExtendWith (.ref D) (.ref r) z)
      (fun fin s' => match fin with | .done f => R (.ok f) s' | .again d => d.quiet = true ∧ codeAny (model prog w) A d R s') (fun e s' => R (.error e) s') s := by
  have nDr : D ≠ r := fun e => by rw [e, hr] at hD; simp at hD
  have nDI : D ≠ s.heap.objs.size := Nat.ne_of_lt (Heap.lt_size hD)
  have nDf : D ∉ [s.heap.objs.size] := fun q => nDI (List.mem_singleton.mp q)
  have Wk := (Walks.longrange (prog := prog) (w := w) (A := A.in1) hnd s.heap.objs.size a c k).toS
  have fin : ∀ (g : Heap) (m₁ tk : Nat), IsLongIter g s.heap.objs.size (a + ((0 : Nat) : Int) * c) ((k : Int) - ((0 : Nat) : Int)) c → (∀ b o, b ≠ D → s.heap.get? b = some o → g.get? b = some o) →
      g.get? D = some { cls := .type "list", data := .seq #[] m₁ } → codeAny (model prog w) A (.builtin "list.extend.loop" ⟨[.ref D, .ref s.heap.objs.size, z], []⟩) R { s with heap := g, toks := tk } := by
    intro g m₁ tk q1 q2 q3
    refine codeAny_extend_loopS Wk (by rw [sizeLine_eq]; omega) D nDf z k 0 _ #[] m₁ rfl (Nat.zero_le _) q1 q3 (ItemsOf.nil _) fun s' xs m hm hD' hx => ?_
    rw [Moved.eq_with hm]
    refine hR s'.heap s'.toks xs m (fun b o hb e => hm.heap b o (fun hq => ?_) (q2 b o hb e)) hD' hx
    rcases List.mem_cons.mp hq with e' | hq
    · exact hb e'
    · exact absurd (Heap.lt_size e) (by rw [List.mem_singleton.mp hq]; exact Nat.lt_irrefl _)
  unfold Builtin.List.listExtendWith
  refine wpAny_bind (wpAny_typeOf (T := "range") ⟨_, hr, rfl⟩ ?_)
  have x1 : Builtin.List.listSameRef (.ref D) (.ref r) = false := by simp [Builtin.List.listSameRef, nDr]
  have x2 : (Value.type "range" == Value.type "list") = false := by decide
  have x3 : (Value.type "range" == Value.type "tuple") = false := by decide
  simp only [x1, x2, x3, Bool.or_false, Bool.false_eq_true, if_false]
  refine wpAny_bind (wpAny_pyIter_longrange hr hbig ?_)
  refine wpAny_bind (wpAny_holding (wpAny_hint_range (n := k) (Heap.get?_push_of_some _ hr) hk hle ?_))
  generalize hG : s.heap.push { cls := .type "longrange_iterator", data := .fields #[rawInt a, rawInt (Builtin.Range.rangeSize a b c), rawInt c] } = G
  have i1 : IsLongIter G s.heap.objs.size (a + ((0 : Nat) : Int) * c) ((k : Int) - ((0 : Nat) : Int)) c := by
    have q : G.get? s.heap.objs.size = some { cls := .type "longrange_iterator", data := .fields #[rawInt a, rawInt (Builtin.Range.rangeSize a b c), rawInt c] } := by rw [← hG]; exact Heap.get?_push_size _ rfl
    rw [hk] at q
    show G.get? _ = _
    rw [q]; simp
  have old : ∀ b o, s.heap.get? b = some o → G.get? b = some o := fun b o e => by rw [← hG]; exact Heap.get?_push_of_some _ e
  have d1 := old D _ hD
  refine wpAny_ite_split (fun _ => ?_) (fun _ => wpAny_pure ⟨plainId_quiet F.plain_extend_loop _, fin _ m₀ _ i1 (fun b o _ e => old b o e) d1⟩)
  refine wpAny_bind (wpAny_rule ?_)
  refine wpAny_bind ?_
  show wpAny _ _ (updateSeq D (·.push .none) >>= fun _ => updateSeq D (·.pop)) _ _ _
  refine wpAny_bind (wpAny_updateSeq d1 rfl ?_)
  have d2 := Heap.get?_update_self (Obj.mapSeq (·.push Value.none)) d1 rfl
  refine wpAny_updateSeq (hz := by seq_fits) d2 rfl ?_
  have d3 := Heap.get?_update_self (Obj.mapSeq (·.pop)) d2 rfl
  refine wpAny_pure ⟨plainId_quiet F.plain_extend_loop _, fin _ _ _ ?_ (fun b o hb e => ?_) d3⟩
  · exact (Heap.get?_update_other _ _ nDI).trans ((Heap.get?_update_other _ _ nDI).trans i1)
  · exact (Heap.get?_update_other _ _ (Ne.symm hb)).trans ((Heap.get?_update_other _ _ (Ne.symm hb)).trans (old b o e))
theorem any_extend {R : Result → Shared → Prop} {r : Addr} {a b c : Int} {t u v : Tok} {k : Nat} (hnd : A.handled = none) (hr : IsRange s.heap r a b c t u v)
    (hk : Builtin.Range.rangeSize a b c = k) (hle : k ≤ 2 ^ 24) (D : Addr) (z : Value) (m₀ : Nat) (hD : s.heap.get? D = some { cls := .type "list", data := .seq #[] m₀ })
    (hR : ∀ g tk xs m, (∀ b o, b ≠ D → s.heap.get? b = some o → g.get? b = some o) → g.get? D = some { cls := .type "list", dict := none, data := .seq xs m, slots := #[] } →
      ItemsOf (fun i v => ∃ t, v = .int (a + i * c) t) xs k → R (.ok (.ret z)) { s with heap := g, toks := tk }) :
    wpAny (model prog w) A.in1 (Builtin.List.listExtendWith (.ref D) (.ref r) z)
      (fun fin s' => match fin with | .done f => R (.ok f) s' | .again d => d.quiet = true ∧ codeAny (model prog w) A d R s') (fun e s' => R (.error e) s') s := by
  cases hs : Builtin.Range.small a b c with
  | true => exact wpAny_extend_range hnd hr hs hk hle D z m₀ hD hR
  | false => exact lng_extend hnd hr hs hk hle D z m₀ hD hR
end
end PySem
namespace L2
open PySem PySem.Spec PyProof.Rows
/-  the ints of a range by ones -/
def rngV (lo : Int) (n : Nat) : List V := (List.range n).map fun (i : Nat) => V.int (lo + (i : Int))
theorem vals_of_get : ∀ {xs : List V} {us : List Value}, xs.length = us.length → (∀ (j : Nat) (x : V) (u : Value), xs[j]? = some x → us[j]? = some u → RelV x u) → Vals xs us
  | [], [], _, _ => .nil
  | [], _ :: _, h, _ => by simp at h
  | _ :: _, [], h, _ => by simp at h
  | x :: xs, u :: us, h, k => .cons (k 0 x u rfl rfl) (vals_of_get (by simpa using h) fun j y v e1 e2 => k (j + 1) y v (by simpa using e1) (by simpa using e2))
section
variable {X : Cx}
end
end L2

/-! DATA: what a value is worth, lists and tuples within one another; == and != of them; isinstance; a base's method. -/
namespace L2
open PySem PySem.Spec PyProof.Rows
mutual
inductive Rp (K : PySem.W.Frag) (H : Hp) : V → PyData → Prop
  | non : Rp K H .non .none
  | bl (b : Bool) : Rp K H (.bl b) (.bool b)
  | int (i : Int) : Rp K H (.int i) (.int i)
  | str (x : Str) : Rp K H (.str x) (.str x)
  | lst {a : Addr} {xs : List V} {ds : List PyData} : SqL K H a xs → Rps K H xs ds → Rp K H (.ref a) (.list ds)
  | tup {a : Addr} {xs : List V} {ds : List PyData} : SqT K H a xs → Rps K H xs ds → Rp K H (.ref a) (.tuple ds)
inductive Rps (K : PySem.W.Frag) (H : Hp) : List V → List PyData → Prop
  | nil : Rps K H [] []
  | cons {x : V} {d : PyData} {xs : List V} {ds : List PyData} : Rp K H x d → Rps K H xs ds → Rps K H (x :: xs) (d :: ds)
end
theorem Same.seqT {K : PySem.W.Frag} {H H' : Hp} {a : Addr} {xs : List V} (e : Same H H') (h : SqT K H a xs) : SqT K H' a xs := by
  rcases h with (h | ⟨o, h⟩) | h
  · exact .inl (.inl (e _ _ h))
  · exact .inl (.inr ⟨o, e _ _ h⟩)
  · exact .inr h
mutual
theorem Rp.same {K : PySem.W.Frag} {H H' : Hp} (e : Same H H') : ∀ {v : V} {d : PyData}, Rp K H v d → Rp K H' v d
  | _, _, .non => .non
  | _, _, .bl b => .bl b
  | _, _, .int i => .int i
  | _, _, .str x => .str x
  | _, _, .lst q r => .lst (e.seq q) (Rps.same e r)
  | _, _, .tup q r => .tup (e.seqT q) (Rps.same e r)
theorem Rps.same {K : PySem.W.Frag} {H H' : Hp} (e : Same H H') : ∀ {v : List V} {d : List PyData}, Rps K H v d → Rps K H' v d
  | _, _, .nil => .nil
  | _, _, .cons q r => .cons (Rp.same e q) (Rps.same e r)
end
theorem Rps.ints {K : PySem.W.Frag} {H : Hp} : ∀ ns : List Int, Rps K H (ns.map V.int) (ns.map PyData.int)
  | [] => .nil
  | i :: r => .cons (.int i) (Rps.ints r)
theorem Rp.ints {K : PySem.W.Frag} {H : Hp} {a : Addr} {ns : List Int} (h : SqL K H a (ns.map V.int)) : Rp K H (.ref a) (.list (ns.map PyData.int)) := .lst h (.ints ns)
section
variable {X : Cx} {pins : List (Addr × Obj)} {σ : St} {H : Hp} {s : Shared}
mutual
theorem Rp.reads (I : Inv X pins σ H s) : ∀ {v : V} {d : PyData} {u : Value}, Rp X.K H v d → RelV v u → ∃ as, Reads s.heap u d as
  | _, _, u, .non, r => by cases (show u = Value.none from r); exact ⟨_, .none⟩
  | _, _, u, .bl b, r => by cases (show u = Value.bool b from r); exact ⟨_, .bool b⟩
  | _, _, u, .int i, r => by obtain ⟨t, e⟩ := (show ∃ t, u = Value.int i t from r); subst e; exact ⟨_, .int i t⟩
  | _, _, u, .str x, r => by obtain ⟨t, e⟩ := (show ∃ t, u = Value.str x t from r); subst e; exact ⟨_, .str x t⟩
  | _, _, u, .lst (a := a) q rr, r => by
    cases (show u = Value.ref a from r)
    obtain ⟨its, rv, p, hz⟩ := I.list q
    obtain ⟨as, ra⟩ := Rps.reads I rr rv
    obtain ⟨o, ho, hc, n, hd⟩ := p.isList
    exact ⟨_, .list ho hc hd (by simpa using ra)⟩
  | _, _, u, .tup (a := a) q rr, r => by
    cases (show u = Value.ref a from r)
    obtain ⟨its, rv, p, hz⟩ := I.tuple q
    obtain ⟨as, ra⟩ := Rps.reads I rr rv
    obtain ⟨o, ho, hc, n, hd⟩ := p
    exact ⟨_, .tuple ho hc hd (by simpa using ra)⟩
theorem Rps.reads (I : Inv X pins σ H s) : ∀ {v : List V} {d : List PyData} {u : List Value}, Rps X.K H v d → Vals v u → ∃ as, ReadsAll s.heap u d as
  | _, _, _, .nil, .nil => ⟨_, .nil⟩
  | _, _, _, .cons q rr, .cons r t => by
    obtain ⟨as, h1⟩ := Rp.reads I q r
    obtain ⟨bs, h2⟩ := Rps.reads I rr t
    exact ⟨_, .cons h1 h2⟩
end
end
/-  == and != by data -/
def rDeq (K : PySem.W.Frag) (f : Bool → Bool) : R2 := fun x y H Q => ∃ da db, Rp K H x da ∧ Rp K H y db ∧ SeqAt.shaped da = true ∧ SeqAt.shaped db = true ∧ Q (.bl (f (PyData.eqv da db))) H
section
variable {X : Cx}
theorem o_deq (hu : X.A.units + 64 < cLine) : OpR X (compareOp .Eq) (rDeq X.K fun b => b) := by
  intro pins s σ H x y v u Q I rx ry q
  obtain ⟨da, db, hx, hy, sa, sb, q⟩ := q
  obtain ⟨as, ra⟩ := hx.reads I rx
  obtain ⟨bs, rb⟩ := hy.reads I ry
  exact eq_dataH ra rb sa sb hu ⟨.bl (PyData.eqv da db), H, I, rfl, q⟩
theorem o_dne (hu : X.A.units + 64 < cLine) : OpR X (compareOp .NotEq) (rDeq X.K fun b => !b) := by
  intro pins s σ H x y v u Q I rx ry q
  obtain ⟨da, db, hx, hy, sa, sb, q⟩ := q
  obtain ⟨as, ra⟩ := hx.reads I rx
  obtain ⟨bs, rb⟩ := hy.reads I ry
  exact ne_dataH ra rb sa sb hu ⟨.bl (!PyData.eqv da db), H, I, rfl, q⟩
/-  lists of ints -/
def rLeq (K : PySem.W.Frag) (f : Bool → Bool) : R2 := fun x y H Q => ∃ (a b : Addr) (ns ms : List Int), x = .ref a ∧ y = .ref b ∧ SqL K H a (ns.map V.int) ∧ SqL K H b (ms.map V.int) ∧ Q (.bl (f (decide (ns = ms)))) H
theorem leq_imp {K : PySem.W.Frag} {f : Bool → Bool} {x y : V} {H : Hp} {Q : VK} (q : rLeq K f x y H Q) : rDeq K f x y H Q := by
  obtain ⟨a, b, ns, ms, rfl, rfl, ha, hb, q⟩ := q
  refine ⟨_, _, .ints ha, .ints hb, PySem.W.ke_shaped_ints ns, PySem.W.ke_shaped_ints ms, ?_⟩
  have e : PyData.eqv (.list (ns.map PyData.int)) (.list (ms.map PyData.int)) = decide (ns = ms) := PySem.W.ked_eqvAll ns ms
  rw [e]; exact q
theorem o_leq (hu : X.A.units + 64 < cLine) : OpR X (compareOp .Eq) (rLeq X.K fun b => b) := (o_deq hu).imp fun _ _ _ _ => leq_imp
theorem o_lne (hu : X.A.units + 64 < cLine) : OpR X (compareOp .NotEq) (rLeq X.K fun b => !b) := (o_dne hu).imp fun _ _ _ _ => leq_imp
/-  isinstance(x, C): C a built-in type or a class of the text -/
def clsV : V → Option Value
  | .ty n => some (.type n)
  | .ref a => some (.ref a)
  | _ => none
theorem clsV_rel {c : V} {cv v : Value} (h : clsV c = some cv) (r : RelV c v) : v = cv := by
  cases c with
  | ref a => cases h; exact r
  | ty n => cases h; exact r
  | _ => cases h
def rIsi (K : PySem.W.Frag) : List V → Hp → VK → Prop := fun xs H Q => ∃ x c t cv b, xs = [x, c] ∧ clsV c = some cv ∧ TyOf K H x t ∧ PySem.W.kitOne K t cv = some b ∧ Q (.bl b) H
theorem call_isi : CallR X (.builtin "isinstance") (rIsi X.K) := by
  intro pins s σ H xs us Q I r h
  obtain ⟨x, c, t, cv, b, rfl, rc, ty, e, q⟩ := h
  obtain ⟨u, v, rfl, ru, rv⟩ := Vals.two r
  have e2 := clsV_rel rc rv
  subst e2
  exact isinst_ok I ru ty e fun tk => ⟨.bl b, H, I.tok _, rfl, q⟩
/-  C.m(e, ..), C a class of the text, m a def of it -/
structure ClsM (K : PySem.W.Frag) (C : Addr) (m : Str) (f : Addr) : Prop where
  sp : PySem.W.specialIn K (.ref C) "__getattribute__" = some (some (.builtin "type.__getattribute__"))
  rd : PySem.W.readsIn K C (.type "type") = true
  fd : PySem.W.findCls K (.ref C) (.type "type") m = some (.val (.ref f))
  kp : PySem.W.keepIn K (.ref f) = true
theorem pe_base {x m : Str} {C f : Addr} {fd : FuncData} {ps : List Str} {sp : Sp} {dvs : List V} {ds : List Value} {E : XK} {CX : CXT} {k : Nat} {p apos pos : Pos} {e : Expr} {es : List Expr} {t : TA} {pl : Sem Bool}
    (hg : Gl X x) (hm : X.mg x = some (.ref C)) (M : ClsM X.K C m f) (F : FnOk X.prog X.w X.K X.mg X.base CX k f fd ps sp) (hr : Room k X.A) (hb : Binds X.K fd ps ds) (hd : Vals dvs ds) (hx : Passes CX X E) (ha : PA X (e :: es) t)
    (hst : starEach (e :: es) X.env = (false, eval e X.env) :: starEach es X.env := by rfl) (hpl : (backTo pos (starEach es X.env)).any (·.1) = false := by rfl) (hdb : (x == ("__debug__" : Str)) = false := by decide)
    (ht : eval (.Call (.Attribute (.Name x p) m apos) (e :: es) [] pos) X.env = (do
      let ov ← eval (.Name x p) X.env
      standAt apos.atName
      let (f, first) ← holding [ov] (getMethod ov m pl)
      callWith pos f first (backTo pos (starEach (e :: es) X.env)) (backToKw pos (keywordEach [] X.env))) := by rfl) :
    PE X (.Call (.Attribute (.Name x p) m apos) (e :: es) [] pos) (tCall sp dvs E t) := by
  intro pins s σ H Q I h
  refine PySem.W.methodCall_KW (pl := pl) (ld_glob I hg hm ?_ hdb) ht
  refine PySem.W.method_cls I.kIn M.sp (PySem.W.cls_value I.kIn M.rd M.fd rfl ?_)
  have I1 := I.tok (s.toks + 1)
  refine PySem.W.callWith_K (first := []) (h₀ := X.base) I.ok.mod.kin M.kp (thn (ha pos pins _ σ H _ I1 h) fun us s2 ⟨vs, H2, I2, r, q2⟩ => ⟨I2.kIn, ?_⟩) hst hpl
  exact run_fn F hr hb hd hx I2 r q2
end
end L2

namespace L2
open PySem PySem.Spec PyProof.Rows
/-! the built-in names -/
theorem bt_len : bootBuiltins "len" = some (.builtin "len") := by decide +kernel
theorem bt_max : bootBuiltins "max" = some (.builtin "max") := by decide +kernel
theorem bt_min : bootBuiltins "min" = some (.builtin "min") := by decide +kernel
theorem bt_isinstance : bootBuiltins "isinstance" = some (.builtin "isinstance") := by decide +kernel
theorem bt_sorted : bootBuiltins "sorted" = some (.builtin "sorted") := by decide +kernel
theorem bt_list : bootBuiltins "list" = some (.type "list") := by decide +kernel
theorem bt_tuple : bootBuiltins "tuple" = some (.type "tuple") := by decide +kernel
theorem bt_bool : bootBuiltins "bool" = some (.type "bool") := by decide +kernel
/-  few attributes -/
theorem few_put {f : Str} {v : V} {fs : List (Str × V)} {n : Nat} (h : fs.length < n) : (putF f v fs).length < n + 1 := Nat.lt_of_le_of_lt (length_putF f v fs) (by omega)
section
variable {X : Cx} {a b c : Expr} {ta tb : TE} {pos : Pos}
/-! max, min of two ints -/
theorem c_max2 (hc : X.calm = true) : CallR X (.builtin "max") (fun xs H Q => argI2 (fun i j H1 => Q (.int (max i j)) H1) xs H) := (call_max2 hc).imp fun xs H Q q => by
  obtain ⟨i, j, rfl, q⟩ := argI2_of q
  refine ⟨i, j, rfl, ?_⟩
  have e : (if j > i then j else i) = max i j := by split <;> omega
  rw [e]; exact q
theorem c_min2 (hc : X.calm = true) : CallR X (.builtin "min") (fun xs H Q => argI2 (fun i j H1 => Q (.int (min i j)) H1) xs H) := (call_min2 hc).imp fun xs H Q q => by
  obtain ⟨i, j, rfl, q⟩ := argI2_of q
  refine ⟨i, j, rfl, ?_⟩
  have e : (if j < i then j else i) = min i j := by split <;> omega
  rw [e]; exact q
/-! is None -/
def isN : V → Bool
  | .non => true
  | _ => false
def cIsN (ta : TE) : TE := fun σ H Q => ta σ H fun x H1 => Q (.bl (isN x)) H1
def cNotN (ta : TE) : TE := fun σ H Q => ta σ H fun x H1 => Q (.bl (!isN x)) H1
def cTIsN (ta : TE) : TT := fun σ H Q => ta σ H fun x H1 => Q (isN x) H1
def cTNotN (ta : TE) : TT := fun σ H Q => ta σ H fun x H1 => Q (!isN x) H1
/-  == of two bools -/
def kB0 (g : Bool → Bool → V) : R2 := fun x y H Q => match x with
  | .bl i => (match y with
    | .bl j => Q (g i j) H
    | _ => False)
  | _ => False
/-  while -/
theorem cs_while {body : List Stmt} {tc : TT} {tb : TS} (hp : PassesOwn (model X.prog X.w) X.A X.env X.xe) (hc : PT X c tc) (hb : PSs X body tb) : PS X (.While c body [] pos) (cWhile tc tb) := by
  intro pins s σ H D I h
  unfold cWhile WhileAt at h
  obtain ⟨W, ⟨m0, w0⟩, turn⟩ := h
  refine wpAny_While (codeAny_whileLoop (fun n s' => ∃ σ' H', Inv X pins σ' H' s' ∧ W n σ' H') ?_ m0 ⟨σ, H, I, w0⟩)
  rintro n s1 ⟨σ1, H1, I1, w1⟩
  refine wpAny_passesOwn hp (thn (hc pins s1 σ1 H1 _ I1 (turn n σ1 H1 w1)) fun b s2 ⟨H2, I2, q2⟩ => ?_)
  cases b with
  | true =>
    obtain ⟨N, hN, q2⟩ := q2.1 rfl
    rw [if_pos rfl]
    refine wpAny_passesOwn hp (thn (hb pins s2 σ1 H2 _ I2 q2) fun f s3 q3 => ?_)
    cases f with
    | next =>
      obtain ⟨σ3, H3, I3, n3⟩ := q3
      obtain ⟨m', hm, w3⟩ := hN σ3 H3 n3
      exact ⟨m', hm, σ3, H3, I3, w3⟩
    | cont =>
      obtain ⟨σ3, H3, I3, n3⟩ := q3
      obtain ⟨m', hm, w3⟩ := hN σ3 H3 n3
      exact ⟨m', hm, σ3, H3, I3, w3⟩
    | brk => exact q3
    | ret v => exact q3
  | false =>
    rw [if_neg Bool.false_ne_true]
    exact wpAny_execs_nil ⟨σ1, H2, I2, q2.2 rfl⟩
end
/-! the forms one uses -/
theorem forAt_its {lo st : Int} {n : Nat} {g : TG} {tb : TS} {D : Ends} {σ : St} {H : Hp} (Pv : Nat → St → Hp → Prop) (h0 : Pv 0 σ H)
    (hs : ∀ (i : Nat) σ H, i < n → Pv i σ H → g (.int (lo + i * st)) σ H fun σ2 H2 => tb { D with nx := Pv (i + 1), ct := Pv (i + 1), bk := D.nx } σ2 H2) (hd : ∀ σ H, Pv n σ H → D.nx σ H) : ForAt (Its lo st n) g tb D σ H := by
  unfold ForAt
  refine ⟨fun i m σ H => m = n - i ∧ i ≤ n ∧ Pv i σ H, ⟨n, by simp, Nat.zero_le _, h0⟩, ?_⟩
  rintro i m σ H ⟨rfl, hi, p⟩
  by_cases hlt : i < n
  · refine .inr ⟨hlt, Pv (i + 1), fun σ' H' p' => ⟨n - (i + 1), by omega, rfl, hlt, p'⟩, fun x H' y => ?_⟩
    obtain ⟨e, y⟩ := y
    subst e y
    exact hs i σ _ hlt p
  · have e : i = n := by omega
    subst e
    exact .inl ⟨Nat.le_refl _, hd σ H p⟩
theorem forAt_list {K : PySem.W.Frag} {l : Addr} {xs : List V} {g : TG} {tb : TS} {D : Ends} {σ : St} {H : Hp} (Pv : Nat → St → Hp → Prop) (h0 : Pv 0 σ H) (hl : ∀ i σ H, i ≤ xs.length → Pv i σ H → SqL K H l xs)
    (hs : ∀ i x σ H, xs[i]? = some x → Pv i σ H → g x σ H fun σ2 H2 => tb { D with nx := Pv (i + 1), ct := Pv (i + 1), bk := D.nx } σ2 H2) (hd : ∀ σ H, Pv xs.length σ H → D.nx σ H) : ForAt (Itl K l) g tb D σ H := by
  unfold ForAt
  exact for_list Pv h0 hl hs hd
/-! heaps that grow -/
theorem Same.new {H : Hp} {p : Addr} {o : HO} (h : H p = none) : Same H (upd H p o) := fun b u e => by rw [upd_ne (ne_of_none e h)]; exact e
/-  a place that was free may be written -/
theorem Same.put {H H' : Hp} {p : Addr} {o : HO} (e : Same H H') (h : H p = none) : Same H (upd H' p o) := fun b u q => by rw [upd_ne (ne_of_none q h)]; exact e b u q
theorem Same.at {H H' : Hp} {p : Addr} {o : HO} (e : Same H H') (h : H p = some o) : H' p = some o := e p o h
/-  [f(x) for x in range(..)], f's values known -/
end L2
namespace L2
open PySem PySem.Spec PyProof.Rows
theorem Same.of_eq {H H' : Hp} {p : Addr} {o : HO} (h : H p = none) (e : upd H p o = H') : Same H H' := by rw [← e]; exact Same.new h
theorem at_of_eq {H H' : Hp} {p : Addr} {o : HO} (e : upd H p o = H') : H' p = some o := by rw [← e]; exact upd_same
theorem Same.back {H H' : Hp} {p : Addr} (e : Same H H') (h : H' p = none) : H p = none := Same.free e h
/-  a list that was made behind H0 is written: what H0 had stays -/
theorem Same.wr {H0 H H' : Hp} {p : Addr} {o : HO} (s : Same H0 H) (f : H0 p = none) (e : upd H p o = H') : Same H0 H' := by rw [← e]; exact s.put f
end L2

/-! LISTS OF LISTS of ints that stand apart. -/
namespace L2
open PySem PySem.Spec PyProof.Rows
/-  at l a list of the lists at as, which hold xss; none of them was there in H0 -/
structure LLat (H0 H : Hp) (l : Addr) (as : List Addr) (xss : List (List Int)) : Prop where
  top : H l = some (.lst (as.map V.ref))
  nd : (l :: as).Nodup
  len : as.length = xss.length
  each : ∀ (i : Nat) (a : Addr) (xs : List Int), as[i]? = some a → xss[i]? = some xs → H a = some (.lst (xs.map V.int))
  fr : H0 l = none
  frs : ∀ a ∈ as, H0 a = none
/-  one more list at the end -/
/-  the i-th list is another one now -/
def dInts (xs : List Int) : PyData := .list (xs.map PyData.int)
def dLL (xss : List (List Int)) : PyData := .list (xss.map dInts)
theorem dInts_can (xs : List Int) : PyData.canLay0 (dInts xs) = true := by unfold dInts PyData.canLay0; exact PySem.W.ke_canLayAll0 xs
theorem dInts_depth (xs : List Int) : PyData.depth (dInts xs) ≤ 1 := by unfold dInts PyData.depth; rw [PySem.W.ke_depthAll]; exact Nat.le_refl _
theorem canAll_dInts : ∀ xss : List (List Int), PyData.canLayAll0 (xss.map dInts) = true
  | [] => by simp [PyData.canLayAll0]
  | x :: r => by simp only [List.map_cons, PyData.canLayAll0, dInts_can, canAll_dInts r, Bool.and_true]
theorem depthAll_dInts : ∀ xss : List (List Int), PyData.depthAll (xss.map dInts) ≤ 1
  | [] => by simp [PyData.depthAll]
  | x :: r => by
    simp only [List.map_cons, PyData.depthAll]
    exact Nat.max_le.mpr ⟨dInts_depth x, depthAll_dInts r⟩
theorem dLL_shaped (xss : List (List Int)) : SeqAt.shaped (dLL xss) = true := by
  unfold SeqAt.shaped dLL
  have h1 : PyData.canLay0 (.list (xss.map dInts)) = true := by unfold PyData.canLay0; exact canAll_dInts xss
  have h2 : PyData.depth (.list (xss.map dInts)) ≤ 64 := by unfold PyData.depth; have := depthAll_dInts xss; omega
  rw [h1, decide_eq_true h2]; rfl
theorem eqvAll_dInts : ∀ a b : List (List Int), PyData.eqvAll (a.map dInts) (b.map dInts) = decide (a = b)
  | [], [] => by simp [PyData.eqvAll]
  | [], _ :: _ => by simp [PyData.eqvAll]
  | _ :: _, [] => by simp [PyData.eqvAll]
  | x :: r, y :: t => by
    have e : PyData.eqv (dInts x) (dInts y) = decide (x = y) := PySem.W.ked_eqvAll x y
    simp only [List.map_cons, PyData.eqvAll, e, eqvAll_dInts r t]
    by_cases h : x = y <;> by_cases h' : r = t <;> simp [h, h']
theorem dLL_eqv (a b : List (List Int)) : PyData.eqv (dLL a) (dLL b) = decide (a = b) := eqvAll_dInts a b
/-  == of two lists of lists of ints -/
theorem lleq_imp {K : PySem.W.Frag} {f : Bool → Bool} {x y : V} {H : Hp} {Q : VK} {xss yss : List (List Int)} (hx : Rp K H x (dLL xss)) (hy : Rp K H y (dLL yss)) (q : Q (.bl (f (decide (xss = yss)))) H) : rDeq K f x y H Q :=
  ⟨_, _, hx, hy, dLL_shaped _, dLL_shaped _, by rw [dLL_eqv]; exact q⟩
/-  [list for x in range(..)] -/
section
variable {X : Cx}
/-  xs.insert(0, y) -/
def rInsert0 : V → List V → Hp → VK → Prop := fun x vs H Q => ∃ l xs y, x = .ref l ∧ vs = [.int 0, y] ∧ H l = some (.lst xs) ∧ xs.length < sizeLine ∧ Q .non (upd H l (.lst (y :: xs)))
end
end L2

namespace L2
open PySem PySem.Spec PyProof.Rows

/-! ### functions that are made inside a def: the cells they close over are tracked (cel), the code table of the def too (tbl) -/
abbrev HO.any : HO := .ext fun _ => True
theorem ObjOk.anyOf {P : Program} {w : World} {H : Hp} {h : Heap} {a : Addr} {o : Obj} (e : h.get? a = some o) : ObjOk P w H h a (.frz o HO.any) := ⟨e, trivial, ⟨o, e⟩, fun _ _ _ _ => trivial⟩

/-  a function object that was made inside a def, and the values it closes over -/
def CloAt (H : Hp) (f : Addr) (nm qual : Str) (params : Arguments) (body : FuncBody) (scope : Scope) (fv : List (Str × V)) : Prop :=
  ∃ (clos : List (Str × Addr)) (c : Addr) (o : Obj) (u u' : HO) (vs : Array Value) (t : Tok) (doc pm ctv : Value),
    H f = some (.frz { cls := .type "function", data := .func { name := nm, qualname := qual, params, body, scope, globals := mainGlobals, closure := clos, defaults := .none, kwdefaults := .none, doc, pyModule := pm, annotations := none, code := .ref c, closureTuple := ctv, builtins := builtinsNs } } u) ∧
    H c = some (.frz o u') ∧ o.data = .fields vs ∧ vs[1]? = some (.str qual t) ∧
    (∀ x y a, clos.lookup x = some a → clos.lookup y = some a → x = y) ∧ (∀ x, (x, NameKind.free) ∈ scope.names → ∃ a, clos.lookup x = some a) ∧
    (∀ x v, (x, v) ∈ fv → ∃ a, clos.lookup x = some a ∧ H a = some (.cel (some v))) ∧ ∀ x a, clos.lookup x = some a → ∃ v, H a = some (.cel (some v))
theorem CloAt.same {H H' : Hp} {f : Addr} {nm qual : Str} {params : Arguments} {body : FuncBody} {scope : Scope} {fv : List (Str × V)} (h : CloAt H f nm qual params body scope fv) (e : Same H H') : CloAt H' f nm qual params body scope fv := by
  obtain ⟨clos, c, o, u, u', vs, t, doc, pm, ctv, h1, h2, h3, h4, h5, h6, h7, h8⟩ := h
  exact ⟨clos, c, o, u, u', vs, t, doc, pm, ctv, e _ _ h1, e _ _ h2, h3, h4, h5, h6, fun x v m => let ⟨a, q1, q2⟩ := h7 x v m; ⟨a, q1, e _ _ q2⟩, fun x a q => let ⟨v, q2⟩ := h8 x a q; ⟨v, e _ _ q2⟩⟩

theorem ca_snoc {pos pos' : Pos} {c : Value} (l : List Value) (h : TriplesOk l) :
    codeAmong pos' (l ++ [rawInt pos.line, rawInt pos.col, c]) = (match codeAmong pos' l with
      | some d => some d
      | none => if ((pos.line : Int) == pos'.line && (pos.col : Int) == pos'.col) = true then some c else none) := by
  fun_induction TriplesOk l with
  | case1 => simp [codeAmong, rawInt]
  | case2 a t b u x rest ih =>
    simp only [List.cons_append, codeAmong]
    split
    · rfl
    · exact ih h
  | case3 l h1 h2 => exact h.elim

/-  the code record at c has its table at P, wherever the written part stands -/
def TabK (K : PySem.W.Frag) (c P : Addr) : Prop := ∀ h : Heap, K.In h → PySem.W.CodeHd h c P

theorem clOf_free {cells : List (Str × Addr)} : ∀ {l : List (Str × NameKind)} {cs : List (Str × Addr)} {x : Str} {c : Addr}, (clOf cells l cs).lookup x = some c → (x, NameKind.free) ∈ l ∨ ∃ a, cs.lookup x = some a
  | [], cs, x, c, h => .inr ⟨c, h⟩
  | (n, k) :: r, cs, x, c, h => by
    unfold clOf at h
    rcases clOf_free h with q | ⟨a, q⟩
    · exact .inl (List.mem_cons_of_mem _ q)
    · split at q
      · rename_i hk
        rw [List.lookup_cons] at q
        split at q
        · rename_i hx
          have e : x = n := by simpa using hx
          have e2 : k = .free := by simpa using hk
          subst e; subst e2
          exact .inl List.mem_cons_self
        · exact .inr ⟨a, q⟩
      · exact .inr ⟨a, q⟩

/-  how a function that was made lies in the heap -/
abbrev fnObjOf (name qual : Str) (params : Arguments) (body : FuncBody) (scope : Scope) (clos : List (Str × Addr)) (doc pm cdv ctv : Value) : Obj :=
  { cls := .type "function", data := .func { name, qualname := qual, params, body, scope, globals := mainGlobals, closure := clos, defaults := .none, kwdefaults := .none, doc, pyModule := pm, annotations := none, code := cdv, closureTuple := ctv, builtins := builtinsNs } }

section
variable {M : Model} {A : Around} {E : Value → Shared → Prop} {s : Shared} {name qual : Str} {params : Arguments} {body : FuncBody} {scope : Scope} {env : Env} {c P : Addr} {ps : Array Value} {pos : Pos} {firstLine : Nat} {mg : Str → Option Value}
  {clos : List (Str × Addr)} {Q : Value → Shared → Prop}
theorem mk_miss (hcl : closureFor scope env = pure clos) (hge0 : env.globals = mainGlobals) (hg : s.heap.Ns mainGlobals mg) (hcode : env.code = .ref c) (C : PySem.W.CodeHd s.heap c P) (hP : s.heap.get? P = some (PySem.W.tabObj ps)) (ht : TriplesOk ps.toList)
    (hnf : codeAmong pos ps.toList = none) (hgP : mainGlobals ≠ P) (hb : s.heap.BuiltinsAt mg P)
    (h : ∀ c' ctv doc h' tk, Heap.ExtBut P s.heap h' → s.heap.objs.size ≤ c' → c' < h'.objs.size → h'.CodeRec (.ref c') qual → h'.get? P = some (PySem.W.tabObj (ps ++ #[rawInt pos.line, rawInt pos.col, .ref c'])) →
      Q (.ref h'.objs.size) { s with heap := h'.push (fnObjOf name qual params body scope clos doc ((mg "__name__").getD .none) (.ref c') ctv), toks := tk }) :
    wpAny M A (makeFunction name qual params body scope env [] [] [] pos firstLine) Q E s := by
  cases body with
  | stmts b => exact PySem.W.makeFunction_K hcl hge0 hg hcode C hP ht hnf hgP hb h
  | expr e => exact PySem.W.kla_makeFunction hcl hge0 hg hcode C hP ht hnf hgP hb fun c' ctv h' tk => h c' ctv .none h' tk
theorem mk_hit {cv : Value} (hcl : closureFor scope env = pure clos) (hge0 : env.globals = mainGlobals) (hg : s.heap.Ns mainGlobals mg) (hcode : env.code = .ref c) (C : PySem.W.CodeHd s.heap c P) (hP : s.heap.get? P = some (PySem.W.tabObj ps)) (ht : TriplesOk ps.toList)
    (hf : codeAmong pos ps.toList = some cv) (hb : s.heap.BuiltinsAt mg P)
    (h : ∀ (ctv doc : Value) (h' : Heap) (tk : Tok), (∀ b o, s.heap.get? b = some o → h'.get? b = some o) → s.heap.objs.size ≤ h'.objs.size →
      Q (.ref h'.objs.size) { s with heap := h'.push (fnObjOf name qual params body scope clos doc ((mg "__name__").getD .none) cv ctv), toks := tk }) :
    wpAny M A (makeFunction name qual params body scope env [] [] [] pos firstLine) Q E s := by
  cases body with
  | stmts b => exact PySem.W.makeFunction_hit hcl hge0 hg hcode C hP ht hf hb h
  | expr e => exact PySem.W.kla_makeFunctionHit hcl hge0 hg hcode C hP ht hf hb fun ctv h' tk => h ctv .none h' tk
end

section
variable {X : Cx} {pins : List (Addr × Obj)} {σ : St} {H : Hp} {s : Shared} {c P : Addr} {qs : List (Pos × Str)} {name qual : Str} {params : Arguments} {body : FuncBody} {scope : Scope} {pos : Pos} {fv : List (Str × V)} {Q : VK} {fns : List Str}

def tFn (X : Cx) (P : Addr) (qs : List (Pos × Str)) (fns : List Str) (name qual : Str) (params : Arguments) (body : FuncBody) (scope : Scope) : TE := fun σ H Q =>
  H P = some (.tbl qs) ∧ ∃ fv : List (Str × V), fv.map (·.1) = fns ∧ (∀ x v, (x, v) ∈ fv → ∃ a, X.env.cells.lookup x = some a ∧ H a = some (.cel (some v))) ∧
    ∀ f H', H f = none → Same H H' → CloAt H' f name qual params body scope fv → Q (.ref f) H'

theorem make_fn (I : Inv X pins σ H s) (hcode : X.env.code = .ref c) (T : TabK X.K c P) (hq : (pos, qual) ∈ qs) (hu : (qs.all fun p => !((pos.line == p.1.line) && (pos.col == p.1.col)) || (p.2 == qual)) = true)
    (hfr : (scope.names.filter fun y => y.2 == .free).map (·.1) = fns) (h : tFn X P qs fns name qual params body scope σ H Q) {n : Nat} :
    wpAny (model X.prog X.w) X.A (makeFunction name qual params body scope X.env [] [] [] pos n) (EP X pins σ Q) X.xe s := by
  obtain ⟨hP, fv, hn, hf, h⟩ := h
  have isfr : ∀ x, (x, NameKind.free) ∈ scope.names ↔ x ∈ fns := fun x => by
    rw [← hfr, List.mem_map]
    constructor
    · exact fun m => ⟨(x, .free), List.mem_filter.mpr ⟨m, rfl⟩, rfl⟩
    · rintro ⟨⟨y, k⟩, m, rfl⟩
      have m2 := List.mem_filter.mp m
      have e : k = .free := by simpa using m2.2
      subst e
      exact m2.1
  have names : ∀ x, (x, NameKind.free) ∈ scope.names → ∃ v a, (x, v) ∈ fv ∧ X.env.cells.lookup x = some a ∧ H a = some (.cel (some v)) := fun x hx => by
    have m := (isfr x).mp hx
    rw [← hn] at m
    obtain ⟨⟨x', v⟩, hm, rfl⟩ := List.mem_map.mp m
    obtain ⟨a, h1, h2⟩ := hf _ _ hm
    exact ⟨v, a, hm, h1, h2⟩
  have hcs : ∀ y ∈ scope.names, y.2 = .free → ∃ c, X.env.cells.lookup y.1 = some c := fun y hy e => by
    obtain ⟨y1, y2⟩ := y
    have e : y2 = .free := e
    subst e
    obtain ⟨_, a, _, h1, _⟩ := names y1 hy
    exact ⟨a, h1⟩
  have hcl := closure_is (scope := scope) (env := X.env) hcs
  have sub : ∀ {z : Str} {a : Addr}, (clOf X.env.cells scope.names []).lookup z = some a → X.env.cells.lookup z = some a := fun {z a} e => by
    rcases clOf_sub hcs e with q | q
    · cases q
    · exact q
  have subF : ∀ {z : Str} {a : Addr}, (clOf X.env.cells scope.names []).lookup z = some a → (z, NameKind.free) ∈ scope.names := fun {z a} e => by
    rcases clOf_free e with q | ⟨_, q⟩
    · exact q
    · cases q
  have cInj : ∀ x y a, (clOf X.env.cells scope.names []).lookup x = some a → (clOf X.env.cells scope.names []).lookup y = some a → x = y := fun x y a e1 e2 => I.ok.inj x y a (sub e1) (sub e2)
  have cHas : ∀ x, (x, NameKind.free) ∈ scope.names → ∃ a, (clOf X.env.cells scope.names []).lookup x = some a := fun x m => clOf_mem (.inl m)
  have cVal : ∀ x v, (x, v) ∈ fv → ∃ a, (clOf X.env.cells scope.names []).lookup x = some a ∧ H a = some (.cel (some v)) := fun x v m => by
    obtain ⟨a, e1, e2⟩ := hf x v m
    obtain ⟨a', e3⟩ := cHas x ((isfr x).mpr (by rw [← hn]; exact List.mem_map_of_mem m))
    have e4 := sub e3
    rw [e1] at e4; cases e4
    exact ⟨a, e3, e2⟩
  have cAll : ∀ x a, (clOf X.env.cells scope.names []).lookup x = some a → ∃ v, H a = some (.cel (some v)) := fun x a e => by
    obtain ⟨v, a', _, e1, e2⟩ := names x (subF e)
    rw [sub e] at e1; cases e1
    exact ⟨v, e2⟩
  have hg : s.heap.Ns mainGlobals X.mg := I.mod.glob.keeps I.bk
  obtain ⟨ps, hPo, ht, hent⟩ := I.hok P _ hP
  have C := T s.heap I.kIn
  have hgP : mainGlobals ≠ P := fun q => by
    obtain ⟨o, es, ep, e, hd, _⟩ := hg
    rw [q, hPo] at e; cases e; cases hd
  have hB : s.heap.BuiltinsAt X.mg P := by
    obtain ⟨bm, ob, b1, b2, b3, b4, b5, b6⟩ := I.mod.bm
    have b3' := I.bk _ _ b3
    refine ⟨bm, ob, b1, b2, fun q => ?_, fun q => ?_, b3', b4, b5, b6⟩
    · obtain ⟨o, es, ep, e, hd, _⟩ := hg
      rw [← q, b3'] at e; cases e; rw [b6] at hd; cases hd
    · rw [q, hPo] at b3'; cases b3'; cases b4
  rcases hent pos qual hq with hnf | ⟨c', o, u, vs, t, hit, hc', hd, hv⟩
  · refine mk_miss hcl I.ok.glob hg hcode C hPo ht hnf hgP hB fun c' ctv doc h' tk hx hge hlt hrec htb => ?_
    obtain ⟨c2, oc, vs, t, e2, hoc, hd, hv⟩ := hrec
    cases e2
    have hc0 : H c' = none := I.hok.fresh hge
    have hsz : s.heap.objs.size ≤ h'.objs.size := Nat.le_of_lt (Nat.lt_of_le_of_lt hge hlt)
    have hf0 : H h'.objs.size = none := I.hok.fresh hsz
    have hcf : c' ≠ h'.objs.size := Nat.ne_of_lt hlt
    let fo := fnObjOf name qual params body scope (clOf X.env.cells scope.names []) doc ((X.mg "__name__").getD .none) (.ref c') ctv
    let H' := upd (upd H c' (.frz oc HO.any)) h'.objs.size (.frz fo HO.any)
    have sm : ∀ b u, H b = some u → H' b = some u := fun b u e => by
      show upd _ _ _ b = _
      rw [upd_ne (ne_of_none e hf0), upd_ne (ne_of_none e hc0)]; exact e
    have H'c : H' c' = some (.frz oc HO.any) := by
      show upd _ _ _ c' = _
      rw [upd_ne hcf, upd_same]
    have H'f : H' h'.objs.size = some (.frz fo HO.any) := upd_same
    have keep : ∀ b o, b ≠ P → s.heap.get? b = some o → (h'.push fo).get? b = some o := fun b o hb e => Heap.get?_push_of_some _ (hx b o hb e)
    have nP : ∀ b, H b = none → b ≠ P := fun b e q => by rw [q, hP] at e; cases e
    refine ⟨.ref h'.objs.size, H', I.un ⟨fun b o e n _ _ => keep b o (nP b n) e, fun b o e n _ _ => ⟨o.slots, keep b o (nP b n) e⟩, fun b o e n _ => ?_, fun b o e _ => ?_, fun b u e _ => sm b u e⟩ fun b u e => ?_, rfl, ?_⟩
    · have lt := Heap.lt_size e
      show upd _ _ _ b = _
      rw [upd_ne (Nat.ne_of_lt (Nat.lt_of_lt_of_le lt hsz)), upd_ne (Nat.ne_of_lt (Nat.lt_of_lt_of_le lt hge))]; exact n
    · by_cases hb : b = P
      · exact ⟨_, Heap.get?_push_of_some _ (by rw [hb]; exact htb)⟩
      · exact ⟨o, keep b o hb e⟩
    · by_cases h1 : b = h'.objs.size
      · subst h1
        rw [H'f] at e; cases e
        exact ObjOk.anyOf (Heap.get?_push_size _ rfl)
      · have e1 : upd H c' (.frz oc HO.any) b = some u := (upd_ne h1).symm.trans e
        by_cases h2 : b = c'
        · subst h2
          rw [upd_same] at e1; cases e1
          exact ObjOk.anyOf (Heap.get?_push_of_some _ hoc)
        · rw [upd_ne h2] at e1
          by_cases hb : b = P
          · subst hb
            rw [hP] at e1; cases e1
            refine ⟨_, Heap.get?_push_of_some _ htb, ?_, fun pos' q m => ?_⟩
            · simpa using TriplesOk_snoc (pos.line : Int) (pos.col : Int) (.ref c') ps.toList ht
            · have e3 : (ps ++ #[rawInt pos.line, rawInt pos.col, Value.ref c']).toList = ps.toList ++ [rawInt pos.line, rawInt pos.col, Value.ref c'] := by simp
              rw [e3, ca_snoc _ ht]
              rcases hent pos' q m with z | ⟨d, o, u, vs', t', z1, z2, z3, z4⟩
              · rw [z]
                by_cases hl : ((pos.line : Int) == pos'.line && (pos.col : Int) == pos'.col) = true
                · right
                  have hqq : q = qual := by
                    have := List.all_eq_true.mp hu (pos', q) m
                    simp only [Bool.and_eq_true, beq_iff_eq, Int.ofNat_inj, Int.natCast_inj] at hl
                    have a1 : pos.line = pos'.line := by have := hl.1; omega
                    have a2 : pos.col = pos'.col := by have := hl.2; omega
                    simpa [a1, a2] using this
                  subst hqq
                  exact ⟨c', oc, HO.any, vs, t, if_pos hl, H'c, hd, hv⟩
                · exact .inl (if_neg hl)
              · right
                rw [z1]
                exact ⟨d, o, u, vs', t', rfl, sm _ _ z2, z3, z4⟩
          · refine (I.hok b u e1).stay (fun d v hc q => keep d v ?_ q) (fun d q => sm _ _ q) fun d u q _ => sm _ _ q
            rcases hc with rfl | hc
            · exact hb
            · intro z; rw [z, hP] at hc; cases hc
    · exact h h'.objs.size H' hf0 sm ⟨_, c', oc, HO.any, HO.any, vs, t, doc, _, ctv, H'f, H'c, hd, hv, cInj, cHas, fun x v m => let ⟨a, q1, q2⟩ := cVal x v m; ⟨a, q1, sm _ _ q2⟩, fun x a q => let ⟨v, q2⟩ := cAll x a q; ⟨v, sm _ _ q2⟩⟩
  · refine mk_hit hcl I.ok.glob hg hcode C hPo ht hit hB fun ctv doc h' tk hk hsz => ?_
    have hf0 : H h'.objs.size = none := I.hok.fresh hsz
    have sm : Same H (upd H h'.objs.size (.frz (fnObjOf name qual params body scope (clOf X.env.cells scope.names []) doc ((X.mg "__name__").getD .none) (.ref c') ctv) HO.any)) := fun b u e => by
      rw [upd_ne (ne_of_none e hf0)]; exact e
    refine ⟨.ref h'.objs.size, _, I.laid (o := .frz (fnObjOf name qual params body scope (clOf X.env.cells scope.names []) doc ((X.mg "__name__").getD .none) (.ref c') ctv) HO.any) (fun b o e => Heap.get?_push_of_some _ (hk b o e)) hsz (ObjOk.anyOf (Heap.get?_push_size _ rfl)), rfl, ?_⟩
    exact h _ _ hf0 sm ⟨_, c', o, HO.any, u, vs, t, doc, _, ctv, upd_same, sm _ _ hc', hd, hv, cInj, cHas, fun x v m => let ⟨a, q1, q2⟩ := cVal x v m; ⟨a, q1, sm _ _ q2⟩, fun x a q => let ⟨v, q2⟩ := cAll x a q; ⟨v, sm _ _ q2⟩⟩

/-  lambda .. : e -/
theorem pe_lambda {e : Expr} (hcode : X.env.code = .ref c) (T : TabK X.K c P) (hq : (pos, X.env.qual ++ "<lambda>") ∈ qs) (hu : (qs.all fun p => !((pos.line == p.1.line) && (pos.col == p.1.col)) || (p.2 == X.env.qual ++ "<lambda>")) = true)
    (hfr : (scope.names.filter fun y => y.2 == .free).map (·.1) = fns) (hdef : defaultsOf params X.env = ([], []) := by rfl) :
    PE X (.Lambda params e scope pos) (tFn X P qs fns "<lambda>" (X.env.qual ++ "<lambda>") params (.expr e) scope) := fun _ _ _ _ _ I h =>
  PySem.W.kla_eval hdef (make_fn I hcode T hq hu hfr h)

def tDef (i : Nat) (t : TE) : TS := fun D σ H => t σ H fun v H1 => D.nx (σ.set i (some v)) H1
/-  def name(..): .. inside a def; the name stands in slot i -/
/-! ### captured cells -/
theorem Inv.track {x : Str} {a : Addr} {i : Nat} (I : Inv X pins σ H s) (hN : X.N.Nodup) (hi : X.N[i]? = some x) (hk : X.env.kindOf x = some .cell) (hcp : X.cp x = true) (hfn : X.fn x = false) (ha : X.env.cells.lookup x = some a) (hH : H a = none) :
    Inv X pins σ (upd H a (.cel (σ[i]?.join))) s := by
  have hab : ∀ b o, X.s₀.heap.get? b = some o → b ≠ a := fun b o e => Nat.ne_of_lt (Nat.lt_of_lt_of_le (Heap.lt_size e) (I.ok.cab2 x a hcp ha))
  obtain ⟨v0, hv0⟩ := I.cell x a ha
  refine ⟨I.ok, I.os, I.bare, ⟨I.base.keep, I.base.slot, fun b o e n hx => ?_, I.base.there, fun b u e f => ?_⟩, I.loc, I.cell, ?_, fun y c e => ?_, fun p hp => ?_, fun b u e => ?_, I.len⟩
  · rw [upd_ne (hab b o e)]; exact I.base.free b o e n hx
  · have := I.base.fix b u e f
    rw [upd_ne (ne_of_none this hH)]; exact this
  · rw [upd_ne (Ne.symm (I.cne x a ha))]; exact I.free
  · by_cases hc : c = a
    · subst hc
      obtain rfl := I.ok.inj _ _ _ e ha
      refine .inr ⟨hfn, _, upd_same, fun z j v e1 k e2 => ?_⟩
      have := nodup_ix hN e1 hi
      subst this
      rw [e2] at z; cases z
    · rw [upd_ne hc]; exact I.freeC y c e
  · obtain ⟨e, n, ne, nf, d⟩ := I.pin p hp
    refine ⟨e, ?_, ne, nf, d⟩
    rw [upd_ne fun z => ?_]
    · exact n
    · obtain ⟨o, q1, q2⟩ := hv0
      rw [← z, e] at q1; cases q1
      exact d _ q2
  · by_cases hb : b = a
    · subst hb
      rw [upd_same] at e; cases e
      cases hσ : σ[i]?.join with
      | none => exact ⟨v0, hv0, fun x z => by cases z⟩
      | some v =>
        have hσ' : σ[i]? = some (some v) := by
          cases q : σ[i]? with
          | none => rw [q] at hσ; cases hσ
          | some w => rw [q] at hσ; cases w with
            | none => cases hσ
            | some w => cases hσ; rfl
        obtain ⟨m, hn, hl⟩ := I.loc
        obtain ⟨u, r, l⟩ := hl i x v hi hσ' (.inr (.inl hk))
        rcases l with ⟨k, _⟩ | ⟨_, c, hc, hcell⟩
        · rw [hk] at k; cases k
        · rw [ha] at hc; cases hc
          exact ⟨_, hcell, fun y z => by cases z; exact ⟨u, rfl, r⟩⟩
    · rw [upd_ne hb] at e
      exact (I.hok b u e).stay (fun _ _ _ q => q) (fun d q => by rw [upd_ne (ne_of_none q hH)]; exact q) fun d u q _ => by rw [upd_ne (ne_of_none q hH)]; exact q

/-  ahead of a block: the cell of a captured name, tracked from here on -/
def tTrack (X : Cx) (x : Str) (i : Nat) (t : TS) : TS := fun D σ H => ∀ a, X.env.cells.lookup x = some a → X.H₀ a = none → (∀ y b, X.env.cells.lookup y = some b → y ≠ x → b ≠ a) → H a = none ∧ t D σ (upd H a (.cel (σ[i]?.join)))
theorem pss_track {x : Str} {i : Nat} {b : List Stmt} {t : TS} (hN : X.N.Nodup) (hi : X.N[i]? = some x) (hk : X.env.kindOf x = some .cell) (hcp : X.cp x = true) (hfn : X.fn x = false)
    (h : PSs X b t) : PSs X b (tTrack X x i t) := fun pins s σ H D I q => by
  obtain ⟨a, ha⟩ := I.ok.has x (.inl hk)
  obtain ⟨z, q⟩ := q a ha (I.ok.hz a (I.ok.cab2 x a hcp ha)) fun y b e ne z => ne (I.ok.inj y x b e (z ▸ ha))
  exact h pins s σ _ D (I.track hN hi hk hcp hfn ha z) q

/-  x = e for a captured name, once -/
def tSetF (X : Cx) (x : Str) (i : Nat) (te : TE) : TS := fun D σ H => te σ H fun v H1 => ∃ a, X.env.cells.lookup x = some a ∧ H1 a = some (.cel none) ∧ D.nx (σ.set i (some v)) (upd H1 a (.cel (some v)))
end
end L2

namespace L2
open PySem PySem.Spec PyProof.Rows

/-! ### the law's call where defs make functions: their code tables are tracked beside the script -/
theorem law_callC {P : Program} {w : World} {K : PySem.W.Frag} {mg mb : Str → Option Value} {CX : CXT} {k : Nat} {fa a : Addr} {fd : FuncData} {x : Str} {sp : Sp} {s₁ : Shared} {vs : List Value} {ns : List Int} {tabs : List (Addr × Addr × List (Pos × Str))}
    (KX : K.In s₁.heap) (hns : s₁.heap.Ns mainGlobals mg) (hb : s₁.heap.Ns builtinsNs mb) (hbb : ∀ x : Str, x ≠ "__name__" → mb x = bootBuiltins x) (hlim : s₁.heap.NoLimit) (hbm : ∃ b o, mg "__builtins__" = some (.ref b) ∧ b ≠ builtinsNs ∧ s₁.heap.get? b = some o ∧ o.cls = .type "module" ∧ o.dict = some builtinsNs ∧ o.data = .plain) (hg : s₁.gens = #[])
    (ha : s₁.heap.get? a = some { cls := .type "list", data := .seq vs.toArray }) (hi : IntsAre vs ns) (hl : ns.length ≤ sizeLine) (hr : Room k callerA)
    (hT : ∀ q ∈ tabs, PySem.W.CodeHd s₁.heap q.1 q.2.1 ∧ s₁.heap.get? q.2.1 = some (PySem.W.tabObj #[])) (hnt : PySem.W.noTabs K = true) (nd : (tabs.map fun q => q.2.1).Nodup)
    (F : ∀ base : Heap, K.In base → base.Ns mainGlobals mg → FnOk P w K mg base CX k fa fd [x] sp) (hbind : ∀ (s : Shared) (u : Value), BindsTo s fd ⟨[u], []⟩ [(x, u)])
    (hsp : ∀ H : Hp, SqL K H a (ns.map V.int) → (∀ q ∈ tabs, H q.2.1 = some (.tbl q.2.2)) → sp [.ref a] H (fun v _ => v = .bl true) fun _ _ _ => False)
    (hCX : ∀ H e s', CX [] H s₁ (fun _ _ _ => False) e s' → False) :
    codeAny (model P w) callerA (.call (.ref fa) ⟨[.ref a], []⟩) (fun r s' => r = .ok (.ret (.bool true)) ∧ OldK s₁.heap s'.heap ∧ s'.os = s₁.os ∧ AllBare s'.gens) s₁ := by
  have rv := vals_ints hi
  have lenV := hi.length
  have aP : ∀ q ∈ tabs, q.2.1 ≠ a := fun q hq z => by
    have e := (hT q hq).2
    rw [z, ha] at e; cases e
  have core : ∀ H : Hp, SqL K H a (ns.map V.int) → (∀ q ∈ tabs, H q.2.1 = some (.tbl q.2.2)) →
      (∀ b u, H b = some u → (b = a ∧ K.lookup a = none ∧ ∃ xs, u = .frz { cls := .type "list", data := .seq vs.toArray } (.lst xs)) ∨ ∃ q ∈ tabs, b = q.2.1 ∧ u = .tbl q.2.2) → HOk P w H s₁.heap →
      codeAny (model P w) callerA (.call (.ref fa) ⟨[.ref a], []⟩) (fun r s' => r = .ok (.ret (.bool true)) ∧ OldK s₁.heap s'.heap ∧ s'.os = s₁.os ∧ AllBare s'.gens) s₁ := by
    intro H hS hP hA hok
    have base_of : ∀ {b : Addr} {o : Obj}, s₁.heap.get? b = some o → H b = none → (hidT s₁.heap H).get? b = some o := fun e n => hidT_get e n
    have noA : ∀ {b : Addr} {o : Obj}, s₁.heap.get? b = some o → o.cls ≠ .type "list" ∨ (∀ n, o.data ≠ .seq vs.toArray n) → o ≠ PySem.W.tabObj #[] → H b = none := fun {b o} e d1 d2 => by
      cases q : H b with
      | none => rfl
      | some u =>
        rcases hA b u q with ⟨rfl, _, _⟩ | ⟨t, ht, rfl, _⟩
        · rw [ha] at e; cases e
          rcases d1 with d1 | d1
          · exact absurd rfl d1
          · exact absurd rfl (d1 _)
        · have e2 := (hT t ht).2
          rw [e] at e2; cases e2
          exact absurd rfl d2
    have nsK : ∀ {b : Addr} {m : Str → Option Value}, s₁.heap.Ns b m → (hidT s₁.heap H).Ns b m := fun {b m} ⟨o, es, ep, e, d, r⟩ =>
      ⟨o, es, ep, base_of e (noA e (.inr fun n z => by rw [d] at z; cases z) fun z => by rw [z] at d; cases d), d, r⟩
    have hKb : K.In (hidT s₁.heap H) := fun b o e => base_of (KX b o e) (by
      cases q : H b with
      | none => rfl
      | some u =>
        rcases hA b u q with ⟨rfl, z, _⟩ | ⟨t, ht, rfl, _⟩
        · rw [z] at e; cases e
        · have e2 := KX _ _ e
          rw [(hT t ht).2] at e2; cases e2
          have h2 := List.all_eq_true.mp hnt _ (PySem.W.mem_of_lookupK e)
          exact absurd (show false = true from h2) Bool.false_ne_true)
    have hM : Mod K mg (hidT s₁.heap H) := ⟨hKb, nsK hns, ⟨mb, nsK hb, hbb⟩, let ⟨mc, h1, h2⟩ := hlim; ⟨mc, nsK h1, h2⟩, let ⟨b, o, a1, a2, a3, a4⟩ := hbm; ⟨b, o, a1, a2, base_of a3 (noA a3 (.inl fun z => by rw [a4.1] at z; simp at z) fun z => by rw [z] at a4; cases a4.1), a4⟩⟩
    have e0 : Env0 P w K mg (hidT s₁.heap H) callerA [] s₁ H := ⟨rfl, hM, fun b o e => of_hidT e, Nat.le_of_eq (hidT_size _ _), trivial, fun b hb => absurd (show b ∈ ([] : List Addr) from hb) (by simp), hok, .of_eq hg⟩
    refine codeAny_mono ((F _ hKb (nsK hns)).run callerA [] s₁ H ⟨[.ref a], []⟩ [.ref a] [.ref a] _ _ hr e0 (hbind s₁ (.ref a)) (.cons rfl .nil) (hsp H hS hP)) fun r s' h => ?_
    cases r with
    | error e => exact (hCX H e s' h).elim
    | ok fl =>
      cases fl with
      | next => exact False.elim h
      | brk => exact False.elim h
      | cont => exact False.elim h
      | ret u =>
        obtain ⟨v, H', os, bare, un, hok', r', q⟩ := h
        have q' : v = .bl true := q
        subst q'
        obtain rfl : u = Value.bool true := r'
        have old : ∀ b o, s₁.heap.get? b = some o → s'.heap.get? b = some o ∨ ∃ t ∈ tabs, b = t.2.1 ∧ o = PySem.W.tabObj #[] ∧ ∃ ps, s'.heap.get? b = some (PySem.W.tabObj ps) := fun b o e => by
          cases q : H b with
          | none => exact .inl (un.keep b o e q (by intro z; exact absurd (show b ∈ ([] : List Addr) from z) (by simp)) (by simp))
          | some u =>
            rcases hA b u q with ⟨rfl, _, xs, rfl⟩ | ⟨t, ht, rfl, rfl⟩
            · obtain ⟨e1, _⟩ := hok _ _ q
              obtain ⟨e2, _⟩ := hok' _ _ (un.fix _ _ q trivial)
              rw [e] at e1; cases e1
              exact .inl e2
            · obtain ⟨ps, e2, _⟩ := hok' _ _ (un.fix _ _ q trivial)
              have e3 := (hT t ht).2
              rw [e] at e3; cases e3
              exact .inr ⟨t, ht, rfl, rfl, ps, e2⟩
        refine ⟨rfl, ⟨fun b o e => ?_, fun b o e => ?_⟩, os, bare⟩
        · rcases old b o e with z | ⟨t, ht, rfl, rfl, ps, z⟩
          · exact .inl z
          · exact .inr (.inl ⟨((hT t ht).1.tab (hT t ht).2).isCodeTable, rfl, #[], ps, rfl, by rw [Array.empty_append]; exact z⟩)
        · rcases old b o e with z | ⟨t, ht, rfl, rfl, ps, z⟩
          · exact ⟨o, z⟩
          · exact ⟨_, z⟩
  let Ht : Hp := fun b => (tabs.find? fun q => q.2.1 == b).map fun q => HO.tbl q.2.2
  have HtP : ∀ q ∈ tabs, Ht q.2.1 = some (.tbl q.2.2) := fun q hq => by
    show Option.map _ (tabs.find? _) = _
    cases e : tabs.find? fun r => r.2.1 == q.2.1 with
    | none =>
      have := List.find?_eq_none.mp e q hq
      simp at this
    | some r =>
      have h1 := List.find?_some e
      have h2 := List.mem_of_find?_eq_some e
      have h3 : r.2.1 = q.2.1 := by simpa using h1
      have : r = q := by
        obtain ⟨i, hi⟩ := List.mem_iff_getElem?.mp h2
        obtain ⟨j, hj⟩ := List.mem_iff_getElem?.mp hq
        have ei : (tabs.map fun q => q.2.1)[i]? = some r.2.1 := by rw [List.getElem?_map, hi]; rfl
        have ej : (tabs.map fun q => q.2.1)[j]? = some r.2.1 := by rw [List.getElem?_map, hj, h3]; rfl
        obtain ⟨i1, i2⟩ := List.getElem?_eq_some_iff.mp ei
        obtain ⟨j1, j2⟩ := List.getElem?_eq_some_iff.mp ej
        have := (List.getElem_inj nd).mp (i2.trans j2.symm)
        subst this
        rw [hi] at hj; exact Option.some.inj hj
      subst this
      rfl
  have HtA : ∀ b u, Ht b = some u → ∃ q ∈ tabs, b = q.2.1 ∧ u = .tbl q.2.2 := fun b u e => by
    have e : Option.map (fun q => HO.tbl q.2.2) (tabs.find? fun q => q.2.1 == b) = some u := e
    obtain ⟨q, hq, rfl⟩ := Option.map_eq_some_iff.mp e
    have h1 := List.find?_some hq
    exact ⟨q, List.mem_of_find?_eq_some hq, by have : q.2.1 = b := by simpa using h1
                                               exact this.symm, rfl⟩
  have tok : ∀ {H : Hp} {q}, q ∈ tabs → ObjOk P w H s₁.heap q.2.1 (.tbl q.2.2) := fun {H q} hq => ⟨#[], (hT q hq).2, trivial, fun _ _ _ => .inl rfl⟩
  cases hk : K.lookup a with
  | some o =>
    have e := KX a o hk
    rw [ha] at e
    cases e
    refine core Ht (.inr ⟨_, vs.toArray, _, hk, rfl, rfl, rfl, by rw [List.size_toArray, lenV]; exact hl, by simpa using rv⟩) HtP (fun b u z => .inr (HtA b u z)) fun b u z => ?_
    obtain ⟨q, hq, rfl, rfl⟩ := HtA b u z
    exact tok hq
  | none =>
    refine core (fun b => if b = a then some (.frz { cls := .type "list", data := .seq vs.toArray } (.lst (ns.map V.int))) else Ht b) (.inl (.inr ⟨{ cls := .type "list", data := .seq vs.toArray }, if_pos rfl⟩)) (fun q hq => (if_neg (aP q hq)).trans (HtP q hq)) (fun b u z => ?_) fun b u z => ?_
    · by_cases hb : b = a
      · have z' := (if_pos hb).symm.trans z
        cases z'
        exact .inl ⟨hb, hk, _, rfl⟩
      · exact .inr (HtA b u ((if_neg hb).symm.trans z))
    · by_cases hb : b = a
      · have z' := (if_pos hb).symm.trans z
        cases z'
        subst hb
        exact ⟨ha, by rw [List.length_map]; exact hl, vs, _, rv, ha⟩
      · obtain ⟨q, hq, rfl, rfl⟩ := HtA b u ((if_neg hb).symm.trans z)
        exact tok hq

theorem walk_ofC {l : PySem.W.OpenLaw} {n k : Nat} {q : Program} {loose : List Str} {XP : (Str → Option Value) → Heap → Prop} {YP : World → Heap → Prop} {d : DefRec} {K : Params → PySem.W.Frag} {CX : CXT} {sp : PySem.W.Frag → Sp} {x : Str} {tabs : List (Addr × Addr × List (Pos × Str))}
    (hn : l.most = some n) (hn2 : n ≤ sizeLine) (hdf : d.params.defaults = []) (hr : Room k callerA)
    (hY : ∀ (w : World) (h : Heap), YP w h → (K w.params).In h)
    (hT : ∀ (w : World) (h : Heap), YP w h → (K w.params).In h → ∀ t ∈ tabs, PySem.W.CodeHd h t.1 t.2.1 ∧ h.get? t.2.1 = some (PySem.W.tabObj #[])) (hnt : ∀ w : World, PySem.W.noTabs (K w.params) = true) (nd : (tabs.map fun q => q.2.1).Nodup)
    (F : ∀ (w : World) (mg : Str → Option Value) (fa : Addr) (h : Heap), (K w.params).In h → h.Ns mainGlobals mg → mg d.name = some (.ref fa) →
      ∃ fd : FuncData, (∀ (s : Shared) (u : Value), BindsTo s fd ⟨[u], []⟩ [(x, u)]) ∧
        ∀ base : Heap, (K w.params).In base → base.Ns mainGlobals mg → FnOk l.prog w (K w.params) mg base CX k fa fd [x] (sp (K w.params)))
    (hsp : ∀ (K : PySem.W.Frag) (H : Hp) (a : Addr) (ns : List Int), ns.length ≤ n → SqL K H a (ns.map V.int) → (∀ q ∈ tabs, H q.2.1 = some (.tbl q.2.2)) → sp K [.ref a] H (fun v _ => v = .bl true) fun _ _ _ => False)
    (hCX : ∀ (H : Hp) (s : Shared) (e : Value) (s' : Shared), CX [] H s (fun _ _ _ => False) e s' → False) :
    PySem.W.WalkO q loose XP YP l.row.toRowW d [] (fun f vs => PySem.call f vs) := by
  refine Att.attach_call hn hdf fun w s₀ s₁ mg mb fa o pm cd doc a vs ns G Y ho hd hcd hmg hobj hints hlen hg => ?_
  have KX := hY w _ Y
  obtain ⟨fd, hb, hF⟩ := F w mg fa _ KX G.T.g hmg
  exact law_callC KX G.T.g G.T.b G.T.builtins G.T.nolimit G.T.bmain hg hobj hints (Nat.le_trans hlen hn2) hr (hT w _ Y KX) (hnt w) nd hF hb (fun H hS hP => hsp (K w.params) H a ns hlen hS hP) fun H e s' => hCX H s₁ e s'
end L2

namespace L2
open PySem PySem.Spec PyProof.Rows

/-! ### calling a function that was made inside a def -/
/-  its names: parameters, the names it closes over, its own -/
structure CloScope (N ps fns : List Str) (sc : Scope) : Prop where
  kind : sc.kind = .function
  co : sc.isCoroutine = false
  gen : sc.isGenerator = false
  nd : N.Nodup
  pre : N.take (ps.length + fns.length) = ps ++ fns
  par : ∀ x ∈ ps, sc.names.lookup x = some .local
  fre : ∀ x ∈ fns, sc.names.lookup x = some .free
  nocell : ∀ y ∈ sc.names, y.2 ≠ .cell
def startC (N : List Str) (vs : List V) (fv : List (Str × V)) : St := vs.map some ++ fv.map (fun p => some p.2) ++ List.replicate (N.length - vs.length - fv.length) none
def cxClo (CX : CXT) (P : Program) (w : World) (K : PySem.W.Frag) (mg : Str → Option Value) (base : Heap) (N : List Str) (qual : Str) (scope : Scope) (f : Addr) (cd : Value) (clos : List (Str × Addr)) (A : Around) (outer : List Env) (s : Shared) (H : Hp) (E : XK) : Cx where
  prog := P
  w := w
  K := K
  mg := mg
  base := base
  A := A.deeper (PySem.W.envX qual scope s.heap.objs.size f cd clos)
  N := N
  s₀ := s
  H₀ := H
  env := PySem.W.envX qual scope s.heap.objs.size f cd clos
  outer := outer
  stack := PySem.W.envX qual scope s.heap.objs.size f cd clos :: outer
  ex := []
  calm := true
  cp := fun _ => false
  fn := fun _ => false
  pn := []
  xe := fun e s' => wpAny (model P w) (A.deeper (PySem.W.envX qual scope s.heap.objs.size f cd clos)) (leaving (PySem.W.envX qual scope s.heap.objs.size f cd clos) e) (fun _ s'' => CX outer H s E e s'') (fun e' s'' => CX outer H s E e' s'') s'

theorem lookup_nd {α : Type} : ∀ {l : List (Str × α)} {x : Str} {v : α}, (l.map (·.1)).Nodup → (x, v) ∈ l → l.lookup x = some v
  | [], _, _, _, m => by simp at m
  | (y, u) :: r, x, v, nd, m => by
    obtain ⟨n1, n2⟩ := List.nodup_cons.mp nd
    rw [List.lookup_cons]
    rcases List.mem_cons.mp m with e | m
    · cases e; simp
    · have : x ≠ y := fun e => n1 (by rw [← e]; exact List.mem_map_of_mem (f := (·.1)) m)
      rw [beq_false_of_ne this]
      exact lookup_nd n2 m
theorem zip_keys : ∀ {ps : List Str} {us : List Value}, us.length = ps.length → (ps.zip us).map (·.1) = ps
  | [], [], _ => rfl
  | p :: ps, u :: us, h => by simp [zip_keys (ps := ps) (us := us) (by simpa using h)]
  | [], _ :: _, h => by simp at h
  | _ :: _, [], h => by simp at h
theorem zip_rev_lookup {ps : List Str} {us : List Value} {i : Nat} {x : Str} {u : Value} (hl : us.length = ps.length) (nd : ps.Nodup) (h1 : ps[i]? = some x) (h2 : us[i]? = some u) : (ps.zip us).reverse.lookup x = some u := by
  refine lookup_nd ?_ (List.mem_reverse.mpr ?_)
  · rw [List.map_reverse, zip_keys hl]
    exact List.pairwise_reverse.mpr (nd.imp fun h => Ne.symm h)
  · refine List.mem_iff_getElem?.mpr ⟨i, ?_⟩
    rw [List.getElem?_zip_eq_some]
    exact ⟨h1, h2⟩

def codeOf (body : FuncBody) (env : Env) : Code := match body with
  | .stmts b => .func b env
  | .expr e => .expr e env
section
variable {CX : CXT} {P : Program} {w : World} {K : PySem.W.Frag} {mg : Str → Option Value} {base : Heap} {N ps fns : List Str} {nm qual : Str} {params : Arguments} {scope : Scope} {f : Addr} {cd : Value} {clos : List (Str × Addr)} {A : Around} {outer : List Env} {s : Shared} {H : Hp} {E : XK} {us : List Value} {vs : List V} {fv : List (Str × V)} {k : Nat}
theorem inv_startC {h' : Heap} {tk : Tok} (S : CloScope N ps fns scope) (hd : A.handled = none) (e0 : Env0 P w K mg base A outer s H) (hl : vs.length = ps.length) (r : Vals vs us) (hfv : fv.map (·.1) = fns)
    (hin : ∀ x y a, clos.lookup x = some a → clos.lookup y = some a → x = y) (hhas : ∀ x, (x, NameKind.free) ∈ scope.names → ∃ a, clos.lookup x = some a)
    (hval : ∀ x v, (x, v) ∈ fv → ∃ a, clos.lookup x = some a ∧ H a = some (.cel (some v))) (hall : ∀ x a, clos.lookup x = some a → ∃ v, H a = some (.cel (some v)))
    (hns : h'.Ns s.heap.objs.size fun x => (ps.zip us).reverse.lookup x) (hk : ∀ b o, s.heap.get? b = some o → h'.get? b = some o) :
    Inv (cxClo CX P w K mg base N qual scope f cd clos A outer s H E) [] (startC N vs fv) H { s with heap := h', toks := tk } := by
  have lenF : fv.length = fns.length := by rw [← hfv, List.length_map]
  have hpl : ps.length + fns.length ≤ N.length := by have := congrArg List.length S.pre; rw [List.length_take, List.length_append] at this; omega
  have noA : ∀ b : Addr, b ∉ (cxClo CX P w K mg base N qual scope f cd clos A outer s H E).ex := fun b z => absurd (show b ∈ ([] : List Addr) from z) (by simp)
  have lu : us.length = ps.length := by rw [← r.length]; exact hl
  have ndP : (ps ++ fns).Nodup := by rw [← S.pre]; exact S.nd.sublist (List.take_sublist _ _)
  refine ⟨⟨e0.mod, S.kind, rfl, rfl, Nat.le_refl _, fun y z c h1 h2 => hin y z c h1 h2, fun y hy => ?_, fun y c h _ => (Bool.false_ne_true h).elim, fun _ => hd, Around.frames_deeper e0.frames, .inr ⟨rfl, rfl⟩, fun b z => absurd z (noA b), e0.bs, e0.bsz, fun b _ _ => noA b, fun b z => absurd z (noA b), e0.funs, e0.frf, fun y c h _ => (Bool.false_ne_true h).elim, fun b hb => e0.hok.fresh hb⟩,
    rfl, e0.bare, Un.kept hk, ⟨_, hns, fun i y v h1 h2 h3 => ?_⟩, fun y c h => ?_, e0.hok.fresh (Nat.le_refl _), fun y c h => ?_, fun p hp => absurd (show p ∈ ([] : List (Addr × Obj)) from hp) (by simp), e0.hok.kept hk, ?_⟩
  · have hy : scope.names.lookup y = some .cell ∨ scope.names.lookup y = some .free := hy
    rcases hy with hy | hy
    · exact absurd rfl (S.nocell _ (PySem.mem_of_lookup hy))
    · exact hhas y (PySem.mem_of_lookup hy)
  · have h1 : N[i]? = some y := h1
    unfold startC at h2
    by_cases hi : i < vs.length
    · rw [List.getElem?_append_left (by simp; omega), List.getElem?_append_left (by simpa using hi), List.getElem?_map] at h2
      cases e : vs[i]? with
      | none => rw [e] at h2; cases h2
      | some a =>
        rw [e] at h2; cases h2
        obtain ⟨u, hu, rv⟩ := r.get e
        have hp : ps[i]? = some y := by
          have : (N.take (ps.length + fns.length))[i]? = some y := by rw [List.getElem?_take_of_lt (by omega)]; exact h1
          rw [S.pre, List.getElem?_append_left (by omega)] at this
          exact this
        exact ⟨u, rv, .inl ⟨S.par y (List.mem_of_getElem? hp), zip_rev_lookup lu (ndP.sublist (List.sublist_append_left _ _)) hp hu⟩⟩
    · by_cases hj : i < vs.length + fv.length
      · rw [List.getElem?_append_left (by simp; omega), List.getElem?_append_right (by simpa using hi), List.length_map, List.getElem?_map] at h2
        cases e : fv[i - vs.length]? with
        | none => rw [e] at h2; cases h2
        | some p =>
          obtain ⟨z, v'⟩ := p
          rw [e] at h2; cases h2
          have hp : fns[i - vs.length]? = some y := by
            have : (N.take (ps.length + fns.length))[i]? = some y := by rw [List.getElem?_take_of_lt (by omega)]; exact h1
            rw [S.pre, List.getElem?_append_right (by omega), ← hl] at this
            exact this
          have hz : z = y := by
            rw [← hfv, List.getElem?_map, e] at hp
            exact Option.some.inj hp
          subst hz
          obtain ⟨a, q1, q2⟩ := hval _ _ (List.mem_of_getElem? e)
          obtain ⟨u, q3, q4⟩ := e0.hok a _ q2
          obtain ⟨y', rfl, r'⟩ := q4 v' rfl
          exact ⟨y', r', .inr ⟨.inr (S.fre z (List.mem_of_getElem? hp)), a, q1, q3.keeps hk⟩⟩
      · rw [List.getElem?_append_right (by simp; omega), List.getElem?_replicate] at h2
        split at h2 <;> cases h2
  · obtain ⟨v, q2⟩ := hall y c h
    obtain ⟨u, q3, _⟩ := e0.hok c _ q2
    exact ⟨u, q3.keeps hk⟩
  · obtain ⟨v, q2⟩ := hall y c h
    exact .inr ⟨rfl, some v, q2, fun z => by cases z⟩
  · unfold startC
    show _ = N.length
    simp only [List.length_append, List.length_map, List.length_replicate]
    omega

/-  the promise of a function that was made inside a def: at the values it closes over -/
structure CloOk (P : Program) (w : World) (K : PySem.W.Frag) (mg : Str → Option Value) (base : Heap) (CX : CXT) (k : Nat) (nm qual : Str) (params : Arguments) (body : FuncBody) (scope : Scope) (ps : List Str) (sp : List (Str × V) → Sp) : Prop where
  len : ∀ fv vs H Q E, sp fv vs H Q E → vs.length = ps.length
  run : ∀ (A : Around) (outer : List Env) (s : Shared) (H : Hp) (f : Addr) (fv : List (Str × V)) (us : List Value) (vs : List V) (Q : VK) (E : XK), Room k A → Env0 P w K mg base A outer s H → CloAt H f nm qual params body scope fv → Vals vs us → sp fv vs H Q E →
    codeAny (model P w) A (.call (.ref f) ⟨us, []⟩) (CR CX outer P w H s Q E) s

theorem clo_entry {body : FuncBody} {sp : List (Str × V) → Sp} (S : CloScope N ps fns scope) (len : ∀ fv vs H Q E, sp fv vs H Q E → vs.length = ps.length ∧ fv.map (·.1) = fns)
    (hb : ∀ (clos : List (Str × Addr)) (doc pm cdv ctv : Value) (us : List Value), us.length = ps.length →
      bindArgs { name := nm, qualname := qual, params, body, scope, globals := mainGlobals, closure := clos, defaults := .none, kwdefaults := .none, doc, pyModule := pm, annotations := none, code := cdv, closureTuple := ctv, builtins := builtinsNs } ⟨us, []⟩ = pure (ps.zip us))
    (hgo : ∀ (A : Around) (outer : List Env) (s : Shared) (H : Hp) (f : Addr) (clos : List (Str × Addr)) (cdv : Value) (fv : List (Str × V)) (vs : List V) (Q : VK) (E : XK) (s1 : Shared), Room k (A.deeper (PySem.W.envX qual scope s.heap.objs.size f cdv clos)) → sp fv vs H Q E →
      Inv (cxClo CX P w K mg base N qual scope f cdv clos A outer s H E) [] (startC N vs fv) H s1 →
      codeAny (model P w) A (codeOf body (PySem.W.envX qual scope s.heap.objs.size f cdv clos)) (CR CX outer P w H s Q E) s1) :
    CloOk P w K mg base CX (k + 1) nm qual params body scope ps sp := by
  refine ⟨fun fv vs H Q E h => (len fv vs H Q E h).1, fun A outer s H f fv us vs Q E hr e0 hc r hsp => ?_⟩
  obtain ⟨clos, c, o, u, u', xs, t, doc, pm, ctv, h1, h2, h3, h4, h5, h6, h7, h8⟩ := hc
  obtain ⟨hl, hfv⟩ := len fv vs H Q E hsp
  have lu : us.length = ps.length := by rw [← r.length]; exact hl
  obtain ⟨hf, _⟩ := e0.hok f _ h1
  obtain ⟨hcO, _⟩ := e0.hok c _ h2
  have lim : s.heap.NoLimit := e0.mod.nolimit.keeps fun b o e => (e0.bs b o e).1
  have hloc : ∀ y ∈ ps.zip us, scope.names.lookup y.1 = some .local := fun ⟨n, v⟩ hy => S.par n (List.of_mem_zip hy).1
  have cr : s.heap.CodeRec (.ref c) qual := ⟨c, o, xs, t, rfl, hcO, h3, h4⟩
  have fin : wpAny (model P w) A.in1 (newFunctionEnv scope mainGlobals clos (ps.zip us) (qual ++ ".<locals>.") (some f) (.ref c) none builtinsNs)
      (fun env s₂ => s₂.heap.NoLimit ∧ codeAny (model P w) A (codeOf body env) (CR CX outer P w H s Q E) s₂) (fun e s' => CR CX outer P w H s Q E (.error e) s') s := by
    refine wpAny_newFunctionEnv S.nocell hloc (fun h' hns hsb => ?_) S.kind
    have hk : ∀ b o, s.heap.get? b = some o → h'.get? b = some o := fun b o e => hsb.extBut b o (Nat.ne_of_lt (Heap.lt_size e)) (Heap.get?_push_of_some _ e)
    exact ⟨lim.keeps hk, hgo A outer s H f clos (.ref c) fv vs Q E _ (hr.deeper _) hsp (inv_startC S hr.hd e0 hl r hfv h5 h6 h7 h8 hns hk)⟩
  cases body with
  | stmts b =>
    refine codeAny_call_function hr.depth hf rfl S.co S.gen rfl cr ?_
    rw [hb clos doc pm (.ref c) ctv us lu]
    exact wpAny_pure fin
  | expr e =>
    refine PySem.W.kla_callFunE hr.depth hf rfl S.co S.gen rfl cr ?_
    rw [hb clos doc pm (.ref c) ctv us lu]
    exact wpAny_pure fin

theorem clo_expr {e : Expr} {sp : List (Str × V) → Sp} (S : CloScope N ps fns scope) (len : ∀ fv vs H Q E, sp fv vs H Q E → vs.length = ps.length ∧ fv.map (·.1) = fns)
    (hb : ∀ (clos : List (Str × Addr)) (doc pm cdv ctv : Value) (us : List Value), us.length = ps.length →
      bindArgs { name := nm, qualname := qual, params, body := .expr e, scope, globals := mainGlobals, closure := clos, defaults := .none, kwdefaults := .none, doc, pyModule := pm, annotations := none, code := cdv, closureTuple := ctv, builtins := builtinsNs } ⟨us, []⟩ = pure (ps.zip us))
    (hbody : ∀ (A : Around) (outer : List Env) (s : Shared) (H : Hp) (f : Addr) (clos : List (Str × Addr)) (cdv : Value) (fv : List (Str × V)) (vs : List V) (Q : VK) (E : XK), Room k (A.deeper (PySem.W.envX qual scope s.heap.objs.size f cdv clos)) → sp fv vs H Q E →
      ∃ te, PE (cxClo CX0 P w K mg base N qual scope f cdv clos A outer s H E).nox e te ∧ te (startC N vs fv) H Q) : CloOk P w K mg base CX0 (k + 1) nm qual params (.expr e) scope ps sp :=
  clo_entry S len hb fun A outer s H f clos cdv fv vs Q E s1 hr hsp I => by
    obtain ⟨te, ht, hq⟩ := hbody A outer s H f clos cdv fv vs Q E hr hsp
    refine PySem.W.kla_codeExpr (wpAny_mono (ht [] s1 _ H Q (I.wish _) hq) (fun v s' ⟨x, H', J, rv, q⟩ => ?_) fun _ _ z => z.elim)
    exact ⟨x, H', J.os, J.bare, J.base, J.hok, rv, q⟩
end

section
variable {X : Cx} {CX : CXT} {k : Nat} {nm qual x : Str} {params : Arguments} {body : FuncBody} {scope : Scope} {ps : List Str} {sp : List (Str × V) → Sp} {p pos : Pos} {e : Expr} {es : List Expr} {t : TA} {E : XK} {i : Nat}
/-  f(e, ..) where the name f (slot i) holds a function that was made inside a def -/
def tCallV (nm qual : Str) (params : Arguments) (body : FuncBody) (scope : Scope) (sp : List (Str × V) → Sp) (E : XK) (i : Nat) (t : TA) : TE := fun σ H Q => ∃ f fv, σ[i]? = some (some (.ref f)) ∧ CloAt H f nm qual params body scope fv ∧ t σ H fun vs H1 => CloAt H1 f nm qual params body scope fv ∧ sp fv vs H1 Q E
end

/-! ### a def that makes functions: the names they close over (cap) are stored once -/
theorem Inv.capd {X : Cx} {pins : List (Addr × Obj)} {σ : St} {H : Hp} {s : Shared} (hfn : ∀ x, X.fn x = true) (I : Inv X pins σ H s) (g : Str → Bool) : Inv { X with fn := g } pins σ H s := by
  have ok := I.ok
  refine ⟨⟨ok.mod, ok.kind, ok.glob, ok.blt, ok.above, ok.inj, ok.has, fun x c _ h => ok.cab x c (hfn x) h, ok.hd, ok.frames, ok.stk, ok.exf, ok.bs, ok.bsz, ok.noex, ok.exfs, ok.funs, ok.frf, ok.cab2, ok.hz⟩, I.os, I.bare, I.base, I.loc, I.cell, I.free, fun x c e => ?_, I.pin, I.hok, I.len⟩
  rcases I.freeC x c e with z | ⟨z, _⟩
  · exact .inl z
  · rw [hfn x] at z; cases z
abbrev capFn (cap : List Str) : Str → Bool := fun x => !(cap.contains x)
abbrev cxCap (cap : List Str) (CX : CXT) (P : Program) (w : World) (K : PySem.W.Frag) (mg : Str → Option Value) (base : Heap) (N : List Str) (qual : Str) (scope : Scope) (f : Addr) (cd : Value) (A : Around) (outer : List Env) (s : Shared) (H : Hp) (E : XK) : Cx :=
  { cxOf CX P w K mg base N qual scope f cd A outer s H E with fn := capFn cap }
theorem Fun.okC {P : Program} {w : World} {K : PySem.W.Frag} {mg : Str → Option Value} {base : Heap} {x qual : Str} {st : Stmt} {f c : Addr} {fd : FuncData} {N ps : List Str} {k : Nat} {sp : Sp} (cap : List Str) (F : Fun K x qual st f fd) (hc : fd.code = .ref c) (S : FnScope N ps (defScope st)) (len : ∀ vs H Q E, sp vs H Q E → vs.length = ps.length)
    (hbody : ∀ (A : Around) (outer : List Env) (s : Shared) (H : Hp) (vs : List V) (Q : VK) (E : XK), Room k (A.deeper (envOfC qual (defScope st) s.heap.objs.size f (.ref c))) → sp vs H Q E →
      ∃ t, PSs (cxCap cap CX0 P w K mg base N qual (defScope st) f (.ref c) A outer s H E).nox (defBody st) t ∧ t { nx := fun _ H' => Q .non H', rt := Q } (start N vs) H) : FnOk P w K mg base CX0 (k + 1) f fd ps sp := by
  obtain ⟨oc, od, kV, doc, pm, an, cdv, ct, osl, rfl, lk, hcd⟩ := F.ex
  obtain rfl : cdv = .ref c := hc
  refine ⟨len, fun A outer s H args us vs Q E hr e0 hb r hsp => ?_⟩
  have hl := len _ _ _ _ hsp
  have KX : K.In s.heap := e0.mod.kin.keeps fun b o e => (e0.bs b o e).1
  have lim : s.heap.NoLimit := e0.mod.nolimit.keeps fun b o e => (e0.bs b o e).1
  have hkind : ∀ y ∈ ps.zip us, (defScope st).names.lookup y.1 = some .local ∨ ((defScope st).names.lookup y.1 = some .cell ∧ ((cellsFrom (s.heap.objs.size + 1) (defScope st).names []).lookup y.1).isSome = true) := fun ⟨n, v⟩ hy => by
    rcases S.par n (List.of_mem_zip hy).1 with q | q
    · exact .inl q
    · exact .inr ⟨q, PySem.W.cellsFrom_some _ _ _ (.inl q)⟩
  refine codeAny_call_function hr.depth (KX _ _ lk) rfl S.co S.gen rfl (PySem.W.codeRec_of KX hcd) (hb _ _ _ _ ?_)
  refine wpAny_newFunctionEnv_cells S.kind hkind fun env he s1 x => ?_
  subst he
  refine ⟨lim.keeps x.toInCall.keep, codeAny_func ?_⟩
  obtain ⟨t, ht, hq⟩ := hbody A outer s H vs Q E (hr.deeper _) hsp
  have I : Inv (cxOf CX0 P w K mg base N qual (defScope st) f (.ref c) A outer s H E) [] (start N vs) H s1 := inv_start S hr.hd e0 hl r x
  have I' : Inv (cxCap cap CX0 P w K mg base N qual (defScope st) f (.ref c) A outer s H E).nox [] (start N vs) H s1 := (I.capd (fun _ => rfl) (capFn cap)).wish _
  refine wpAny_mono (ht [] s1 (start N vs) H _ I' hq) (fun fl s' hs => ?_) fun e s' hs => hs.elim
  have fin : ∀ {σ' : St} {H' : Hp} {v : V} {u : Value}, Inv (cxCap cap CX0 P w K mg base N qual (defScope st) f (.ref c) A outer s H E).nox [] σ' H' s' → RelV v u → Q v H' → CE outer P w H s Q u s' :=
    fun {σ' H' v u} J rv q => ⟨v, H', J.os, J.bare, J.base, J.hok, rv, q⟩
  cases fl with
  | ret u =>
    obtain ⟨v, σ', H', J, rv, q⟩ := hs
    exact fin J rv q
  | next =>
    obtain ⟨σ', H', J, q⟩ := hs
    exact fin (v := V.non) (u := Value.none) J rfl q
  | brk =>
    obtain ⟨_, _, _, q⟩ := hs
    exact False.elim q
  | cont =>
    obtain ⟨_, _, _, q⟩ := hs
    exact False.elim q

section
variable {X : Cx} {c P : Addr} {qs : List (Pos × Str)} {name q : Str} {params : Arguments} {scope : Scope} {pos : Pos} {fns : List Str}
theorem ce_lambda {e : Expr} (hcode : X.env.code = .ref c) (T : TabK X.K c P) (hql : X.env.qual ++ "<lambda>" = q) (hq : (pos, q) ∈ qs) (hu : (qs.all fun p => !((pos.line == p.1.line) && (pos.col == p.1.col)) || (p.2 == q)) = true)
    (hfr : (scope.names.filter fun y => y.2 == .free).map (·.1) = fns) (hdef : defaultsOf params X.env = ([], []) := by rfl) :
    PE X (.Lambda params e scope pos) (tFn X P qs fns "<lambda>" q params (.expr e) scope) := by
  subst hql
  exact pe_lambda hcode T hq hu hfr hdef
end
/-  a code table of the written part -/
theorem tabK_of {K : PySem.W.Frag} {c P : Addr} (e : PySem.W.codeHdIn K c P = true) : TabK K c P := fun _ X => PySem.W.codeHd_of_K X e
end L2
namespace L2
open PySem PySem.Spec PyProof.Rows
end L2
namespace L2
open PySem PySem.Spec PyProof.Rows
/-  [f(x) for x in a list], f's values known -/
theorem comp_list {K : PySem.W.Frag} {l : Addr} {xs : List V} {te : TE} {caps : L2.St} {Q : VK} {H2 : Hp} (f : V → V) (hl : SqL K H2 l xs) (hn : xs.length ≤ sizeLine)
    (hs : ∀ (x : V) (H3 : Hp), x ∈ xs → Same H2 H3 → ∀ R : VK, (∀ H6, Same H3 H6 → R (f x) H6) → te (some x :: caps) H3 R)
    (hd : ∀ D H', H2 D = none → Same H2 H' → H' D = some (.lst (xs.map f)) → Q (.ref D) H') : CompAt (Itl K l) caps tAll te Q H2 := by
  unfold CompAt
  intro D hD
  refine ⟨fun i m acc H3 => m = xs.length - i ∧ i ≤ xs.length ∧ acc = (xs.take i).map f ∧ H3 D = some (.lst acc) ∧ Same H2 H3, ⟨xs.length, by simp, Nat.zero_le _, rfl, upd_same, Same.new hD⟩, ?_⟩
  rintro i m acc H3 ⟨rfl, hi, rfl, hD3, s3⟩
  refine ⟨hD3, ?_⟩
  have q := s3.seq hl
  by_cases hlt : i < xs.length
  · have hx : xs[i]? = some xs[i] := List.getElem?_eq_getElem hlt
    refine .inr ⟨⟨xs, xs[i], q, hx⟩, by simp; omega, fun v H4 y => ?_⟩
    obtain ⟨e, y⟩ := y
    have ev := y xs q
    rw [hx] at ev
    cases ev
    subst e
    refine ⟨fun _ => ?_, fun z => by cases z⟩
    refine hs _ _ (List.getElem_mem hlt) s3 _ fun H6 s6 => ⟨s6.at hD3, xs.length - (i + 1), by omega, rfl, hlt, ?_, upd_same, (s3.trans s6).put hD⟩
    rw [List.take_succ, hx, List.map_append]; rfl
  · have e : i = xs.length := by omega
    subst e
    rw [List.take_length] at hD3
    exact .inl ⟨⟨xs, q, Nat.le_refl _⟩, hd D H3 hD s3 hD3⟩
end L2

/-! SORTING: the comparison tree of the kit sorts, for any strict total order of the places -/
namespace L2
open PySem PySem.W PyProof.Rows
structure STO (lt : Nat → Nat → Bool) (n : Nat) : Prop where
  irr : ∀ i, i < n → lt i i = false
  tr : ∀ i j k, i < n → j < n → k < n → lt i j = true → lt j k = true → lt i k = true
  tot : ∀ i j, i < n → j < n → i ≠ j → lt i j = true ∨ lt j i = true
def Wp {α : Type} (lt : Nat → Nat → Bool) (n : Nat) : KasT α → (α → Prop) → Prop
  | .ret a, Q => Q a
  | .ask i j k, Q => i < n ∧ j < n ∧ Wp lt n (k (lt i j)) Q
section
variable {lt : Nat → Nat → Bool} {n : Nat} {α β : Type}
theorem Wp.bind {f : α → KasT β} {Q : β → Prop} : ∀ {t : KasT α}, Wp lt n t (fun a => Wp lt n (f a) Q) → Wp lt n (t.bind f) Q
  | .ret _, h => h
  | .ask _ _ _, ⟨h1, h2, h⟩ => ⟨h1, h2, Wp.bind h⟩
theorem Wp.kas {cmp : Nat → Nat → (Bool → Shared → Prop) → Shared → Prop} {Q : α → Shared → Prop} {s : Shared} (hc : ∀ i j (C : Bool → Shared → Prop), i < n → j < n → C (lt i j) s → cmp i j C s) : ∀ {t : KasT α}, Wp lt n t (fun a => Q a s) → t.kasWp cmp Q s
  | .ret _, h => h
  | .ask i j k, ⟨h1, h2, h⟩ => hc i j _ h1 h2 (Wp.kas hc h)
theorem wp_mono {Q Q' : α → Prop} : ∀ {t : KasT α}, Wp lt n t Q → (∀ a, Q a → Q' a) → Wp lt n t Q'
  | .ret _, h, k => k _ h
  | .ask _ _ _, ⟨h1, h2, h⟩, k => ⟨h1, h2, wp_mono h k⟩
structure Pm (n : Nat) (p : Array Nat) : Prop where
  size : p.size = n
  perm : p.toList.Perm (List.range n)
abbrev g0 (p : Array Nat) (i : Nat) : Nat := p.getD i 0
theorem g0_eq (p : Array Nat) (i : Nat) : g0 p i = (p[i]?).getD 0 := by unfold g0; rw [Array.getD_eq_getD_getElem?]
theorem Pm.bd {p : Array Nat} (P : Pm n p) {i : Nat} (h : i < n) : g0 p i < n := by
  have hi : i < p.size := by rw [P.size]; exact h
  have e : g0 p i = p[i] := by rw [g0_eq, Array.getElem?_eq_getElem hi]; rfl
  rw [e]
  exact List.mem_range.mp (P.perm.mem_iff.mp (Array.mem_toList_iff.mpr (Array.getElem_mem hi)))
theorem Pm.inj {p : Array Nat} (P : Pm n p) {i j : Nat} (h : i < n) (h' : j < n) (ne : i ≠ j) : g0 p i ≠ g0 p j := by
  have nd : p.toList.Nodup := P.perm.nodup_iff.mpr List.nodup_range
  have hi : i < p.toList.length := by rw [Array.length_toList, P.size]; exact h
  have hj : j < p.toList.length := by rw [Array.length_toList, P.size]; exact h'
  have e : ∀ k (hk : k < p.toList.length), g0 p k = p.toList[k] := fun k hk => by
    rw [g0_eq, ← Array.getElem?_toList, List.getElem?_eq_getElem hk]; rfl
  rw [e i hi, e j hj]
  exact fun z => ne ((List.getElem_inj nd).mp z)
def Up (lt : Nat → Nat → Bool) (p : Array Nat) (m : Nat) : Prop := ∀ i j, i < j → j < m → lt (g0 p i) (g0 p j) = true
def Dn (lt : Nat → Nat → Bool) (p : Array Nat) (m : Nat) : Prop := ∀ i j, i < j → j < m → lt (g0 p j) (g0 p i) = true
theorem Up.snoc (S : STO lt n) {p : Array Nat} (P : Pm n p) {m : Nat} (hm : m < n) (h1 : 1 ≤ m) (U : Up lt p m) (h : lt (g0 p (m - 1)) (g0 p m) = true) : Up lt p (m + 1) := fun i j hij hj => by
  by_cases e : j = m
  · subst e
    by_cases e2 : i = j - 1
    · subst e2; exact h
    · exact S.tr _ _ _ (P.bd (by omega)) (P.bd (by omega)) (P.bd hm) (U i (j - 1) (by omega) (by omega)) h
  · exact U i j hij (by omega)
theorem Dn.snoc (S : STO lt n) {p : Array Nat} (P : Pm n p) {m : Nat} (hm : m < n) (h1 : 1 ≤ m) (U : Dn lt p m) (h : lt (g0 p m) (g0 p (m - 1)) = true) : Dn lt p (m + 1) := fun i j hij hj => by
  by_cases e : j = m
  · subst e
    by_cases e2 : i = j - 1
    · subst e2; exact h
    · exact S.tr _ _ _ (P.bd hm) (P.bd (by omega)) (P.bd (by omega)) h (U i (j - 1) (by omega) (by omega))
  · exact U i j hij (by omega)
theorem wp_asc (S : STO lt n) {p : Array Nat} (P : Pm n p) {Q : Nat → Prop} : ∀ (f m : Nat), 1 ≤ m → m + f ≤ n → Up lt p m → (∀ m', m ≤ m' → m' ≤ m + f → Up lt p m' → (m' < m + f → lt (g0 p m') (g0 p (m' - 1)) = true) → Q m') → Wp lt n (kas_asc p f m) Q
  | 0, m, _, _, U, h => h m (Nat.le_refl _) (Nat.le_refl _) U (fun z => absurd z (by omega))
  | f + 1, m, h1, hf, U, h => by
    refine ⟨P.bd (by omega), P.bd (by omega), ?_⟩
    cases e : lt (p.getD m 0) (p.getD (m - 1) 0) with
    | true => exact h m (Nat.le_refl _) (by omega) U fun _ => e
    | false =>
      have e2 : lt (g0 p (m - 1)) (g0 p m) = true := (S.tot _ _ (P.bd (by omega)) (P.bd (by omega)) (P.inj (by omega) (by omega) (by omega))).resolve_right (by rw [show lt (g0 p m) (g0 p (m - 1)) = false from e]; simp)
      exact wp_asc S P f (m + 1) (by omega) (by omega) (U.snoc S P (by omega) h1 e2) fun m' a1 a2 a3 a4 => h m' (by omega) (by omega) a3 fun z => a4 (by omega)
theorem wp_desc (S : STO lt n) {p : Array Nat} (P : Pm n p) {Q : Array Nat × Nat × Nat → Prop} : ∀ (f m : Nat), 2 ≤ m → m + f ≤ n → Dn lt p m → (∀ m', 2 ≤ m' → m' ≤ n → Dn lt p m' → Q (p, m', 0)) → Wp lt n (kas_desc f p m 0) Q
  | 0, m, _, hf, U, h => h m (by omega) (by omega) U
  | f + 1, m, h1, hf, U, h => by
    refine ⟨P.bd (by omega), P.bd (by omega), ?_⟩
    cases e : lt (p.getD m 0) (p.getD (m - 1) 0) with
    | true => exact wp_desc S P f (m + 1) (by omega) (by omega) (U.snoc S P (by omega) (by omega) e) h
    | false =>
      have e2 : lt (g0 p (m - 1)) (g0 p m) = true := (S.tot _ _ (P.bd (by omega)) (P.bd (by omega)) (P.inj (by omega) (by omega) (by omega))).resolve_right (by rw [show lt (g0 p m) (g0 p (m - 1)) = false from e]; simp)
      refine ⟨P.bd (by omega), P.bd (by omega), ?_⟩
      rw [show lt (p.getD (m - 1) 0) (p.getD m 0) = true from e2]
      exact h m (by omega) (by omega) U
theorem Pm.rev {p : Array Nat} (P : Pm n p) (i j : Nat) : Pm n (kas_rev p i j) := ⟨by unfold kas_rev; rw [mirror_size]; exact P.size, (Array.perm_iff_toList_perm.mp (mirror_perm p i j ((j - i) / 2))).trans P.perm⟩
theorem Dn.rev {p : Array Nat} (P : Pm n p) {m : Nat} (hm : m ≤ n) (U : Dn lt p m) : Up lt (kas_rev p 0 m) m := fun i j hij hj => by
  have e : ∀ k, k < m → g0 (kas_rev p 0 m) k = g0 p (m - 1 - k) := fun k hk => by
    rw [g0_eq, g0_eq]
    unfold kas_rev
    rw [getElem?_mirror_all (by rw [P.size]; exact hm), if_pos ⟨Nat.zero_le _, hk⟩]
    congr 2
    omega
  rw [e i (by omega), e j hj]
  exact U (m - 1 - j) (m - 1 - i) (by omega) (by omega)
theorem wp_tail3 (S : STO lt n) {p : Array Nat} (P : Pm n p) {m : Nat} (h1 : 1 ≤ m) (hm : m ≤ n) (U : Dn lt p m) : Wp lt n (kas_tail3 m n p) (fun r => Pm n r.2 ∧ 1 ≤ r.1 ∧ r.1 ≤ n ∧ Up lt r.2 r.1) :=
  Wp.bind (wp_asc S (P.rev 0 m) (n - m) m h1 (by omega) (U.rev P hm) fun m' a1 a2 a3 _ => ⟨P.rev 0 m, by show 1 ≤ m'; omega, by show m' ≤ n; omega, a3⟩)
theorem wp_count (S : STO lt n) {p : Array Nat} (P : Pm n p) (h2 : 2 ≤ n) : Wp lt n (kas_count n p) (fun r => Pm n r.2 ∧ 1 ≤ r.1 ∧ r.1 ≤ n ∧ Up lt r.2 r.1) := by
  refine Wp.bind (wp_asc S P (n - 1) 1 (Nat.le_refl _) (by omega) (fun i j h1 h2 => absurd h2 (by omega)) fun m a1 a2 a3 a4 => ?_)
  by_cases e : (m == n) = true
  · rw [if_pos e]
    exact ⟨P, a1, by show m ≤ n; omega, a3⟩
  · rw [if_neg e]
    have hmn : m < n := by
      have : m ≠ n := by simpa using e
      omega
    by_cases e2 : m > 1
    · rw [if_pos e2]
      refine ⟨P.bd (by omega), P.bd (by omega), ?_⟩
      rw [show lt (p.getD 0 0) (p.getD (m - 1) 0) = true from a3 0 (m - 1) (by omega) (by omega)]
      exact ⟨P, a1, by show m ≤ n; omega, a3⟩
    · rw [if_neg e2]
      have e3 : m = 1 := by omega
      subst e3
      refine Wp.bind (wp_desc S P (n - 2) 2 (Nat.le_refl _) (by omega) (fun i j h1 h2 => ?_) fun m' b1 b2 b3 => ?_)
      · obtain rfl : j = 1 := by omega
        obtain rfl : i = 0 := by omega
        exact a4 (by omega)
      · exact wp_tail3 S P (by show 1 ≤ m'; omega) b2 b3
theorem wp_place (S : STO lt n) {p : Array Nat} (P : Pm n p) {k : Nat} (hk : k < n) {Q : Nat → Prop} (h : ∀ l, l ≤ k → (∀ i, i < l → lt (g0 p i) (g0 p k) = true) → (∀ i, l ≤ i → i < k → lt (g0 p k) (g0 p i) = true) → Q l) (U : Up lt p k) :
    ∀ (f l r : Nat), l ≤ r → r ≤ k → r - l ≤ f → (∀ i, i < l → lt (g0 p i) (g0 p k) = true) → (∀ i, r ≤ i → i < k → lt (g0 p k) (g0 p i) = true) → Wp lt n (kas_place p k f l r) Q
  | 0, l, r, a1, a2, a3, b1, b2 => h l (by omega) b1 fun i h1 h2 => b2 i (by omega) h2
  | f + 1, l, r, a1, a2, a3, b1, b2 => by
    unfold kas_place
    by_cases e : l ≥ r
    · rw [if_pos e]
      exact h l (by omega) b1 fun i h1 h2 => b2 i (by omega) h2
    · rw [if_neg e]
      have hm1 : (l + r) / 2 < r := by omega
      have hm2 : l ≤ (l + r) / 2 := by omega
      refine ⟨P.bd hk, P.bd (by omega), ?_⟩
      cases e2 : lt (p.getD k 0) (p.getD ((l + r) / 2) 0) with
      | true =>
        refine wp_place S P hk h U f l ((l + r) / 2) hm2 (by omega) (by omega) b1 fun i h1 h2 => ?_
        by_cases e3 : i = (l + r) / 2
        · subst e3; exact e2
        · exact S.tr _ _ _ (P.bd hk) (P.bd (by omega)) (P.bd (by omega)) e2 (U ((l + r) / 2) i (by omega) h2)
      | false =>
        have e4 : lt (g0 p ((l + r) / 2)) (g0 p k) = true := (S.tot _ _ (P.bd (by omega)) (P.bd hk) (P.inj (by omega) hk (by omega))).resolve_right (by rw [show lt (g0 p k) (g0 p ((l + r) / 2)) = false from e2]; simp)
        refine wp_place S P hk h U f ((l + r) / 2 + 1) r (by omega) a2 (by omega) (fun i h1 => ?_) b2
        by_cases e3 : i = (l + r) / 2
        · subst e3; exact e4
        · exact S.tr _ _ _ (P.bd (by omega)) (P.bd (by omega)) (P.bd hk) (U i ((l + r) / 2) (by omega) (by omega)) e4
theorem Up.ins {p : Array Nat} (P : Pm n p) {k l : Nat} (hk : k < n) (hl : l ≤ k) (U : Up lt p k) (b1 : ∀ i, i < l → lt (g0 p i) (g0 p k) = true) (b2 : ∀ i, l ≤ i → i < k → lt (g0 p k) (g0 p i) = true) : Up lt (bubble p k (k - l)) (k + 1) := fun i j hij hj => by
  have e : ∀ x, g0 (bubble p k (k - l)) x = if x = l then g0 p k else if l < x ∧ x ≤ k then g0 p (x - 1) else g0 p x := fun x => by
    rw [g0_eq, getElem?_bubble (by rw [P.size]; exact hk) (k - l) (by omega), show k - (k - l) = l by omega]
    by_cases h1 : x = l
    · rw [if_pos h1, if_pos h1, g0_eq]
    · rw [if_neg h1, if_neg h1]
      by_cases h2 : l < x ∧ x ≤ k
      · rw [if_pos h2, if_pos h2, g0_eq]
      · rw [if_neg h2, if_neg h2, g0_eq]
  rw [e i, e j]
  by_cases hi : i = l
  · rw [if_pos hi, if_neg (by omega), if_pos ⟨by omega, by omega⟩]
    exact b2 (j - 1) (by omega) (by omega)
  · rw [if_neg hi]
    by_cases hj' : j = l
    · rw [if_pos hj', if_neg (by omega)]
      exact b1 i (by omega)
    · rw [if_neg hj']
      by_cases h1 : l < i ∧ i ≤ k
      · rw [if_pos h1, if_pos ⟨by omega, by omega⟩]
        exact U (i - 1) (j - 1) (by omega) (by omega)
      · rw [if_neg h1]
        by_cases h2 : l < j ∧ j ≤ k
        · rw [if_pos h2]
          exact U i (j - 1) (by omega) (by omega)
        · rw [if_neg h2]
          exact U i j hij (by omega)
theorem Pm.bub {p : Array Nat} (P : Pm n p) (k d : Nat) : Pm n (bubble p k d) := ⟨by rw [bubble_size]; exact P.size, (Array.perm_iff_toList_perm.mp (bubble_perm p k d)).trans P.perm⟩
theorem wp_bin (S : STO lt n) : ∀ (f : Nat) (p : Array Nat) (k : Nat), k + f = n → Pm n p → Up lt p k → Wp lt n (kas_bin f p k) (fun q => Pm n q ∧ Up lt q n)
  | 0, p, k, e, P, U => ⟨P, by rw [show n = k by omega]; exact U⟩
  | f + 1, p, k, e, P, U => by
    refine Wp.bind (wp_place S P (by omega) (fun l hl b1 b2 => ?_) U k 0 k (Nat.zero_le _) (Nat.le_refl _) (by omega) (fun i h => absurd h (by omega)) fun i h1 h2 => absurd h2 (by omega))
    exact wp_bin S f _ (k + 1) (by omega) (P.bub k (k - l)) (U.ins P (by omega) hl b1 b2)
theorem wp_sort (S : STO lt n) (h2 : 2 ≤ n) : Wp lt n (kas_sort n) (fun q => Pm n q ∧ Up lt q n) := by
  have P0 : Pm n (List.toArray (List.range n)) := ⟨by simp, by simp⟩
  refine Wp.bind ?_
  refine wp_mono (wp_count S P0 h2) fun r hr => ?_
  obtain ⟨P, a1, a2, U⟩ := hr
  by_cases e : r.1 < n
  · rw [if_pos e, show max r.1 1 = r.1 by omega]
    exact wp_bin S (n - r.1) r.2 r.1 (by omega) P U
  · rw [if_neg e]
    exact ⟨P, by rw [show n = r.1 by omega]; exact U⟩
end
end L2

/-! sorted(a list of ints) -/
namespace L2
open PySem PySem.Spec PyProof.Rows
section
variable {X : Cx}
def rSortI (K : PySem.W.Frag) : List V → Hp → VK → Prop := fun xs H Q => ∃ p ns, xs = [.ref p] ∧ SqL K H p (ns.map V.int) ∧ ns.length < 64 ∧ ∀ (l : Addr) (ms : List Int), ms.Perm ns → ms.Pairwise (· ≤ ·) → H l = none → Q (.ref l) (upd H l (.lst (ms.map V.int)))
end
end L2

/-! what sorted takes out of a range -/
namespace PySem
open PyProof.Rows
section
variable {prog : Program} {w : World} {A : Around} {E : Value → Shared → Prop} {s : Shared}
theorem collect_rng {r : Addr} {a b c : Int} {t u v : Tok} {k : Nat} {Q : List Value → Shared → Prop} (hnd : A.handled = none) (hr : IsRange s.heap r a b c t u v)
    (hk : Builtin.Range.rangeSize a b c = k) (hle : k ≤ 2 ^ 24)
    (hQ : ∀ g tk xs m, (∀ b o, s.heap.get? b = some o → g.get? b = some o) → s.heap.objs.size < g.objs.size →
      g.get? s.heap.objs.size = some { cls := .type "list", dict := none, data := .seq xs m, slots := #[] } → ItemsOf (fun i v => ∃ t, v = .int (a + i * c) t) xs k → Q xs.toList { s with heap := g, toks := tk }) :
    wpAny (model prog w) A (collect (.ref r)) Q E s := by
  unfold collect
  refine wpAny_bind (wpAny_runValue (codeAny_builtin entry_proto_collect' ?_))
  show wpAny _ _ (do again (.builtin "list.__iadd__" ⟨[← newList [], .ref r], []⟩)) _ _ s
  refine wpAny_bind (wpAny_newList (wpAny_pure ⟨Code.quiet_builtin _ (by decide +kernel), codeAny_builtin entry_list_iadd' ?_⟩))
  show wpAny _ _ (Builtin.List.listExtendWith (.ref s.heap.objs.size) (.ref r) (.ref s.heap.objs.size)) _ _ { s with heap := s.heap.push (seqObj "list" #[] 0) }
  have hD : (s.heap.push (seqObj "list" #[] 0)).get? s.heap.objs.size = some { cls := .type "list", data := .seq #[] 0 } := Heap.get?_push_size _ rfl
  have old : ∀ b o, s.heap.get? b = some o → (s.heap.push (seqObj "list" #[] 0)).get? b = some o := fun b o e => Heap.get?_push_of_some _ e
  refine any_extend (prog := prog) (w := w) (A := A) (R := fun r s' => match r with | .ok (.ret v) => wpAny (model prog w) A (match v with | .ref a => do { let o ← load a; match o.data with | .seq xs _ => pure xs.toList | _ => unsupported "internal:collect" } | _ => unsupported "internal:collect") Q E s' | .ok _ => False | .error e => E e s') (s := { s with heap := s.heap.push (seqObj "list" #[] 0) }) hnd (old r _ hr) hk hle s.heap.objs.size (.ref s.heap.objs.size) 0 hD fun g tk xs m q1 q2 q3 => ?_
  show wpAny (model prog w) A (do
      let o ← load s.heap.objs.size
      match o.data with
      | .seq xs _ => pure xs.toList
      | _ => unsupported "internal:collect") Q E { s with heap := g, toks := tk }
  refine wpAny_bind (wpAny_load q2 ?_)
  exact wpAny_pure (hQ g tk xs m (fun b o e => q1 b o (Nat.ne_of_lt (Heap.lt_size e)) (old b o e)) (Heap.lt_size q2) q2 q3)
end
end PySem

/-! list < list, for lists of ints -/
namespace HT
open PySem PyProof.Rows
open PySem.SeqAt
open PySem.AutoSeq1 (wpAny_loadPart')
open PySem.MeetsSeq PySem.MeetsSeq2 PySem.MeetsSeq3
theorem ints_at {vs : List Value} {ns : List Int} (h : IntsAre vs ns) {i : Nat} (hi : i < ns.length) : ∃ t, vs[i]? = some (.int ns[i] t) := by
  have hx : (ns.map L2.V.int)[i]? = some (.int ns[i]) := by rw [List.getElem?_map, List.getElem?_eq_getElem hi]; rfl
  obtain ⟨u, h1, t, rfl⟩ := L2.Vals.get (L2.vals_ints h) hx
  exact ⟨t, h1⟩
theorem lt_loop (l b : Addr) (items items2 : Array Value) (n n2 : Nat) (dd dd2 : Option Addr) (sl sl2 : Array (Option Value)) (ns ms : List Int) (hi : IntsAre items.toList ns) (hj : IntsAre items2.toList ms) (k : Nat) :
    ∀ i : Nat, ns.length - i = k → i ≤ ns.length → i ≤ ms.length → Meets (Builtin.«list.__eq__.loop» ⟨[.ref l, .ref b, rawInt i, rawInt 0], []⟩)
      (fun A R s => s.heap.get? l = some { cls := .type "list", dict := dd, data := .seq items n, slots := sl } ∧ s.heap.get? b = some { cls := .type "list", dict := dd2, data := .seq items2 n2, slots := sl2 } ∧
        R (.ok (.ret (.bool (lexLt (ns.drop i) (ms.drop i))))) s) := by
  have z1 : items.size = ns.length := by rw [← hi.length]; simp
  have z2 : items2.size = ms.length := by rw [← hj.length]; simp
  induction k with
  | zero =>
    intro i hk h1 h2 prog w A R s h
    obtain ⟨hp, g, d, tk, os⟩ := s; obtain ⟨hl, hb, h⟩ := h
    wp_walk using wpAny_loadPart' hl, wpAny_loadPart' hb
    have hi1 : items[((i : Nat) : Int).toNat]? = none := by simp; omega
    rw [hi1]
    wp_walk using wpAny_loadPart' hl, wpAny_loadPart' hb
    show R (.ok (.ret (.bool (decide (items.size < items2.size))))) _
    rw [List.drop_of_length_le (by omega)] at h
    cases e : ms.drop i with
    | nil =>
      rw [e] at h
      have : ms.length ≤ i := List.drop_eq_nil_iff.mp e
      rw [decide_eq_false (by omega)]
      exact h
    | cons y r =>
      rw [e] at h
      have : ¬ ms.length ≤ i := fun z => by rw [List.drop_of_length_le z] at e; cases e
      rw [decide_eq_true (by omega)]
      exact h
  | succ k ih =>
    intro i hk h1 h2 prog w A R s h
    obtain ⟨hp, g, d, tk, os⟩ := s; obtain ⟨hl, hb, h⟩ := h
    have hlt : i < ns.length := by omega
    obtain ⟨t, ht⟩ := ints_at hi hlt
    have hi1 : items[((i : Nat) : Int).toNat]? = some (.int ns[i] t) := by simpa using ht
    wp_walk using wpAny_loadPart' hl, wpAny_loadPart' hb
    by_cases hlt2 : i < ms.length
    · obtain ⟨u, hu⟩ := ints_at hj hlt2
      have hi2 : items2[((i : Nat) : Int).toNat]? = some (.int ms[i] u) := by simpa using hu
      rw [hi1, hi2]
      have e1 : ns.drop i = ns[i] :: ns.drop (i + 1) := List.drop_eq_getElem_cons hlt
      have e2 : ms.drop i = ms[i] :: ms.drop (i + 1) := List.drop_eq_getElem_cons hlt2
      rw [e1, e2, lexLt_cons] at h
      have hc : ((i : Int) + 1) = ((i + 1 : Nat) : Int) := by push_cast; rfl
      obtain ⟨e, he, hiff⟩ := eqAt_int A.in1 ⟨hp, g, d, tk, os⟩ ns[i] t ms[i] u
      refine wpAny_bind (he prog w _ _ ?_)
      cases e with
      | true =>
        rw [if_pos (hiff.mp rfl)] at h
        wp_walk
        rw [hc]
        exact ⟨plainId_quiet plain_eq_loop _, codeAny_builtin entry_eq_loop (by
          rw [Around.under_plainId plain_eq_loop _]
          exact ih (i + 1) (by omega) (by omega) (by omega) prog w A R _ ⟨hl, hb, h⟩)⟩
      | false =>
        rw [if_neg (fun q => absurd (hiff.mpr q) Bool.false_ne_true)] at h
        wp_walk using wpAny_loadPart' hl, wpAny_loadPart' hb
        rw [hi1, hi2]
        have hri := rcLt_int A.in1 ⟨hp, g, d, tk, os⟩ ns[i] t ms[i] u prog w
        wp_walk using hri
        simpa using h
    · have hi2 : items2[((i : Nat) : Int).toNat]? = none := by simp; omega
      rw [hi1, hi2]
      wp_walk using wpAny_loadPart' hl, wpAny_loadPart' hb
      show R (.ok (.ret (.bool (decide (items.size < items2.size))))) _
      rw [decide_eq_false (by omega)]
      have e1 : ns.drop i = ns[i] :: ns.drop (i + 1) := List.drop_eq_getElem_cons hlt
      have e2 : ms.drop i = [] := List.drop_of_length_le (by omega)
      rw [e1, e2] at h
      exact h
theorem list_lt_ints (l b : Addr) (items items2 : Array Value) (n n2 : Nat) (dd dd2 : Option Addr) (sl sl2 : Array (Option Value)) (ns ms : List Int) (hi : IntsAre items.toList ns) (hj : IntsAre items2.toList ms) :
    Meets (Builtin.«list.__lt__» ⟨[.ref l, .ref b], []⟩)
      (fun _ R s => s.heap.get? l = some { cls := .type "list", dict := dd, data := .seq items n, slots := sl } ∧ s.heap.get? b = some { cls := .type "list", dict := dd2, data := .seq items2 n2, slots := sl2 } ∧
        R (.ok (.ret (.bool (lexLt ns ms)))) s) := by
  intro prog w A R s h
  obtain ⟨hp, g, d, tk, os⟩ := s; obtain ⟨hl, hb, h⟩ := h
  have f3 := AutoSeq1.sub_list_list
  wp_walk using wpAny_loadPart' hl, wpAny_loadPart' hb
  exact ⟨plainId_quiet plain_eq_loop _, codeAny_builtin entry_eq_loop (by
    rw [Around.under_plainId plain_eq_loop _]
    exact lt_loop l b items items2 n n2 dd dd2 sl sl2 ns ms hi hj _ 0 rfl (Nat.zero_le _) (Nat.zero_le _) prog w A R _ ⟨hl, hb, by simpa using h⟩)⟩
end HT
namespace HT
open PySem PyProof.Rows
section
variable {prog : Program} {w : World} {A : Around} {E : Value → Shared → Prop} {s : Shared}
theorem lt_listInts {l b : Addr} {items items2 : Array Value} {ns ms : List Int} {Q : Value → Shared → Prop} (hl : s.heap.IsList l items) (hb : s.heap.IsList b items2) (hi : IntsAre items.toList ns) (hj : IntsAre items2.toList ms)
    (hu : A.units < cLine) (h : Q (.bool (lexLt ns ms)) s) : wpAny (model prog w) A (compareOp .Lt (.ref l) (.ref b)) Q E s := by
  obtain ⟨⟨cls, dd, data, sl⟩, ho, hc, n, hd⟩ := id hl
  obtain ⟨⟨cls2, dd2, data2, sl2⟩, ho2, hc2, n2, hd2⟩ := id hb
  simp only at hc hd hc2 hd2
  subst hc hd hc2 hd2
  exact richCompare_meets_room (op := .Lt) ⟨_, ho, rfl⟩ ⟨_, ho2, rfl⟩ PySem.F.slot_list_lt PySem.F.entry_list_lt (PySem.F.args_list_lt_2 _ _) (list_lt_ints l b items items2 n n2 dd dd2 sl sl2 ns ms hi hj)
    ⟨ho, ho2, show Value.bool (lexLt ns ms) ≠ Value.notImplemented ∧ Q (.bool (lexLt ns ms)) s from ⟨(fun x => nomatch x), h⟩⟩ hu
end
end HT
namespace L2
open PySem PySem.Spec PyProof.Rows
section
variable {X : Cx}
def rLtL (K : PySem.W.Frag) : R2 := fun x y H Q => ∃ a b ns ms, x = .ref a ∧ y = .ref b ∧ SqL K H a (ns.map V.int) ∧ SqL K H b (ms.map V.int) ∧ Q (.bl (HT.lexLt ns ms)) H
theorem op_ltL (hu : X.A.units < cLine) : OpR X (compareOp .Lt) (rLtL X.K) := by
  intro pins s σ H x y v u Q I rx ry h
  obtain ⟨a, b, ns, ms, rfl, rfl, ha, hb, q⟩ := h
  cases rx
  cases ry
  obtain ⟨its, r1, p1, _⟩ := I.list ha
  obtain ⟨its2, r2, p2, _⟩ := I.list hb
  have i1 : IntsAre its.toArray.toList ns := intsAre_of r1
  have i2 : IntsAre its2.toArray.toList ms := intsAre_of r2
  exact HT.lt_listInts p1.isList p2.isList i1 i2 hu ⟨.bl (HT.lexLt ns ms), H, I, rfl, q⟩
end
end L2
namespace HT
open PySem PyProof.Rows
section
variable {prog : Program} {w : World} {A : Around} {E : Value → Shared → Prop} {s : Shared}
theorem oneLt_listInts {l b : Addr} {items items2 : Array Value} {ns ms : List Int} {Q : Bool → Shared → Prop} (hl : s.heap.IsList l items) (hb : s.heap.IsList b items2) (hi : IntsAre items.toList ns) (hj : IntsAre items2.toList ms)
    (hu : A.units < cLine) (h : Q (lexLt ns ms) s) : wpAny (model prog w) A (oneLt' true (.ref l) (.ref b)) Q E s := by
  obtain ⟨⟨cls, dd, data, sl⟩, ho, hc, n, hd⟩ := id hl
  obtain ⟨⟨cls2, dd2, data2, sl2⟩, ho2, hc2, n2, hd2⟩ := id hb
  simp only at hc hd hc2 hd2
  subst hc hd hc2 hd2
  rw [oneLt'_eq]
  simp only [if_true]
  refine wpAny_bind (wpAny_cRoomFor hu ?_)
  refine wpAny_bind (wpAny_callSpecialIfBound?_slot (T := "list") ⟨_, ho, rfl⟩ PySem.F.slot_list_lt (call_meets PySem.F.slot_list_lt ⟨_, ho, rfl⟩ PySem.F.entry_list_lt (PySem.F.args_list_lt_2 _ _) (list_lt_ints l b items items2 n n2 dd dd2 sl sl2 ns ms hi hj) ⟨ho, ho2, ?_⟩))
  exact wpAny_truthy_bool h
end
end HT

/-! dead statements; all, any of a list of bools; sum of a list of ints; xs.insert(i, y); len of what is a list or a tuple -/
namespace L2
open PySem PySem.Spec PyProof.Rows
section
variable {X : Cx}
def rAllB (K : PySem.W.Frag) (f : List Bool → Bool) : List V → Hp → VK → Prop := fun xs H Q => ∃ p bs, xs = [.ref p] ∧ SqL K H p (bs.map V.bl) ∧ Q (.bl (f bs)) H
/-  sum of a list of ints -/
def rSumI (K : PySem.W.Frag) : List V → Hp → VK → Prop := fun xs H Q => ∃ (p : Addr) (ns : List Int), xs = [.ref p] ∧ SqL K H p (ns.map V.int) ∧ Q (.int ns.sum) H
/-  xs.insert(i, y), i among the places -/
def rInsert : V → List V → Hp → VK → Prop := fun x vs H Q => ∃ l xs y, ∃ j : Nat, x = .ref l ∧ vs = [.int j, y] ∧ H l = some (.lst xs) ∧ xs.length < sizeLine ∧ j ≤ xs.length ∧ Q .non (upd H l (.lst (xs.take j ++ y :: xs.drop j)))
end
end L2

/-! enumerate(a list), and a list comprehension whose clause has two names: for i, x in .. -/
namespace L2
open PySem PySem.Spec PyProof.Rows
section
variable {X : Cx} {pins : List (Addr × Obj)} {σ : St} {H : Hp} {s : Shared} {h' : Heap}
/-  untracked records of ours (iterators) have turned, and an object was laid -/
end
/-  enumerate of the list at a: at each turn a new tuple -/
def Ite (K : PySem.W.Frag) (a : Addr) : It :=
  ⟨fun i H => ∃ xs x, SqL K H a xs ∧ xs[i]? = some x, fun i H v H' => ∃ T x, v = .ref T ∧ H T = none ∧ H' = upd H T (.tup [.int i, x]) ∧ ∀ xs, SqL K H a xs → xs[i]? = some x, fun i H => ∃ xs, SqL K H a xs ∧ xs.length ≤ i⟩
section
variable {X : Cx} {es : List Expr} {k : Nat} {tp : Pos}
def iEnum (K : PySem.W.Frag) (ta : TA) : TI := fun σ H R => ta σ H fun vs H1 => ∃ a, vs = [.ref a] ∧ (∃ xs, SqL K H1 a xs) ∧ R (Ite K a) H1
end
structure BlkOk2 (X : Cx) (scope : Scope) (x1 x2 : Str) (cap : List Nat) (ys : List Str) : Prop where
  kind : scope.kind = .function
  nocell : ∀ y ∈ scope.names, y.2 ≠ .cell
  locs : ∀ y ∈ scope.names, y.2 = .local → scope.names.lookup y.1 = some .local
  lx1 : scope.names.lookup x1 = some .local
  lx2 : scope.names.lookup x2 = some .local
  fr : ∀ y ∈ scope.names, y.2 = .free → X.env.kindOf y.1 = some .cell ∨ X.env.kindOf y.1 = some .free
  cap : CapOk X scope cap ys
  nd : (x1 :: x2 :: ys).Nodup
section
variable {X : Cx} {scope : Scope} {x1 x2 : Str} {cap : List Nat} {ys : List Str}
/-  the block's first state -/
/-  the frame around it, behind the block -/
end

/-  what a comprehension asks, from its iterator on; opened by CompAt2.mk alone -/
@[irreducible] def CompAt2 (K : PySem.W.Frag) (J : It) (caps : St) (tt : TT) (te : TE) (Q : VK) (H2 : Hp) : Prop := ∀ D, H2 D = none → ∃ W : CW, (∃ m, W 0 m [] (upd H2 D (.lst []))) ∧
  ∀ i m acc H3, W i m acc H3 → H3 D = some (.lst acc) ∧ ((J.stop i H3 ∧ Q (.ref D) H3) ∨ (J.go i H3 ∧ acc.length < sizeLine ∧ ∀ v H4, J.yld i H3 v H4 → ∃ T v1 v2, v = .ref T ∧ SqT K H4 T [v1, v2] ∧ tt (some v1 :: some v2 :: caps) H4 fun b H5 =>
    (b = true → te (some v1 :: some v2 :: caps) H5 fun u H6 => H6 D = some (.lst acc) ∧ ∃ m', m' < m ∧ W (i + 1) m' (acc ++ [u]) (upd H6 D (.lst (acc ++ [u])))) ∧ (b = false → ∃ m', m' < m ∧ W (i + 1) m' acc H5)))
/-  [e for x in it if c] -/
def tComp2 (K : PySem.W.Frag) (cap : List Nat) (wi : TI) (tt : TT) (te : TE) : TE := fun σ H Q => wi σ H fun J H2 => CompAt2 K J (capV σ cap) tt te Q H2
section
variable {X : Cx} {scope : Scope} {x1 x2 : Str} {cap : List Nat} {ys : List Str} {elt iter : Expr} {ifs : List Expr} {px1 px2 px pos : Pos} {kx : Nat} {wi : TI} {tt : TT} {te : TE}
/-  the block itself: from the iterator on -/
/-  name = [e for x in it if c], stored ahead of the block's end -/
end
end L2

/-! comprehensions by an invariant of what was made; with a test; over enumerate; the same data on both sides of == -/
namespace L2
open PySem PySem.Spec PyProof.Rows
theorem paired_snoc {α β : Type} {F : α → β → Prop} {a : α} {b : β} (h : F a b) : ∀ {as : List α} {bs : List β}, Paired F as bs → Paired F (as ++ [a]) (bs ++ [b])
  | _, _, .nil => .cons h .nil
  | _, _, .cons x xs => .cons x (paired_snoc h xs)
theorem paired_get1 {α β : Type} {F : α → β → Prop} : ∀ {as : List α} {bs : List β} {i : Nat} {a : α}, Paired F as bs → as[i]? = some a → ∃ b, bs[i]? = some b ∧ F a b
  | _, _, i, b, .nil, h => by simp at h
  | _, _, 0, b, .cons x xs, h => by simp at h; subst h; exact ⟨_, rfl, x⟩
  | _, _, i + 1, b, .cons x xs, h => by obtain ⟨a, h1, h2⟩ := paired_get1 (i := i) xs (by simpa using h); exact ⟨a, by simpa using h1, h2⟩
/-  the heap without D -/
def del (H : Hp) (D : Addr) : Hp := fun b => if b = D then none else H b
theorem del_self {H : Hp} {D : Addr} : del H D D = none := by unfold del; rw [if_pos rfl]
theorem del_ne {H : Hp} {D b : Addr} (h : b ≠ D) : del H D b = H b := by unfold del; rw [if_neg h]
theorem del_same {H : Hp} {D : Addr} : Same (del H D) H := fun b u e => by
  by_cases h : b = D
  · rw [h, del_self] at e; cases e
  · rw [del_ne h] at e; exact e
theorem del_upd {H : Hp} {D : Addr} {o : HO} : del (upd H D o) D = del H D := by
  funext b
  by_cases h : b = D
  · rw [h, del_self, del_self]
  · rw [del_ne h, del_ne h, upd_ne h]
theorem del_none {H : Hp} {D : Addr} (h : H D = none) : del H D = H := by
  funext b
  by_cases e : b = D
  · rw [e, del_self, h]
  · rw [del_ne e]
theorem same_del {H H' : Hp} {D : Addr} (s : Same H H') : Same (del H D) (del H' D) := fun b u e => by
  by_cases h : b = D
  · rw [h, del_self] at e; cases e
  · rw [del_ne h] at e ⊢; exact s b u e
/-  [e for x in range(..)]: an invariant of what was made -/
theorem comp_listP {K : PySem.W.Frag} {l : Addr} {xs : List V} {te : TE} {caps : L2.St} {Q : VK} {H2 : Hp} (Pv : Nat → List V → Hp → Prop) (hl : SqL K H2 l xs) (hn : xs.length ≤ sizeLine) (h0 : Pv 0 [] H2)
    (hs : ∀ (i : Nat) x acc H3 H3', xs[i]? = some x → Same H2 H3 → Same H3 H3' → Pv i acc H3 → ∀ R : VK, (∀ u H6', Same H3' H6' → (∀ H6, Same H3 H6 → (∀ p o, (H3' p = none ∨ ∀ ys, o ≠ HO.lst ys) → H6' p = some o → H6 p = some o) → Pv (i + 1) (acc ++ [u]) H6) → R u H6') → te (some x :: caps) H3' R)
    (hd : ∀ D acc H H', H2 D = none → H D = none → Same H2 H → Same H H' → Pv xs.length acc H → acc.length = xs.length → H' D = some (.lst acc) → Q (.ref D) H') : CompAt (Itl K l) caps tAll te Q H2 := by
  unfold CompAt
  intro D hD
  refine ⟨fun i m acc H3 => m = xs.length - i ∧ i ≤ xs.length ∧ acc.length = i ∧ H3 D = some (.lst acc) ∧ Same H2 (del H3 D) ∧ Pv i acc (del H3 D), ⟨xs.length, by simp, Nat.zero_le _, rfl, upd_same, ?_, ?_⟩, ?_⟩
  · rw [del_upd, del_none hD]; exact Same.refl _
  · rw [del_upd, del_none hD]; exact h0
  rintro i m acc H3 ⟨rfl, hi, hacc, hD3, s3, p3⟩
  refine ⟨hD3, ?_⟩
  have q := (s3.trans del_same).seq hl
  by_cases hlt : i < xs.length
  · have hx : xs[i]? = some xs[i] := List.getElem?_eq_getElem hlt
    refine .inr ⟨⟨xs, xs[i], q, hx⟩, by omega, fun v H4 y => ?_⟩
    obtain ⟨e, y⟩ := y
    have ev := y xs q
    rw [hx] at ev
    cases ev
    subst e
    refine ⟨fun _ => ?_, fun z => by cases z⟩
    refine hs i _ acc _ _ hx s3 del_same p3 _ fun u H6' s6 k => ⟨s6.at hD3, xs.length - (i + 1), by omega, rfl, hlt, by simp [hacc], upd_same, ?_, ?_⟩
    · rw [del_upd]; exact s3.trans (same_del s6)
    · rw [del_upd]
      refine k _ (same_del s6) fun p o q1 q2 => ?_
      rw [del_ne (fun z => by
        rcases q1 with q1 | q1
        · rw [z, hD3] at q1; cases q1
        · rw [z, s6.at hD3] at q2; cases q2; exact q1 _ rfl)]
      exact q2
  · have e : i = xs.length := by omega
    subst e
    exact .inl ⟨⟨xs, q, Nat.le_refl _⟩, hd D acc _ H3 hD del_self s3 del_same p3 hacc hD3⟩
/-  [x for x in xs if p(x)] -/
theorem comp_listF {K : PySem.W.Frag} {l : Addr} {xs : List V} {tt : TT} {te : TE} {caps : L2.St} {Q : VK} {H2 : Hp} (p : V → Bool) (f : V → V) (hl : SqL K H2 l xs) (hn : xs.length < sizeLine)
    (ht : ∀ (x : V) (H3 : Hp), x ∈ xs → Same H2 H3 → ∀ R : Bool → Hp → Prop, (∀ H6, Same H3 H6 → R (p x) H6) → tt (some x :: caps) H3 R)
    (hs : ∀ (x : V) (H3 : Hp), x ∈ xs → p x = true → Same H2 H3 → ∀ R : VK, (∀ H6, Same H3 H6 → R (f x) H6) → te (some x :: caps) H3 R)
    (hd : ∀ D H', H2 D = none → Same H2 H' → H' D = some (.lst ((xs.filter p).map f)) → Q (.ref D) H') : CompAt (Itl K l) caps tt te Q H2 := by
  unfold CompAt
  intro D hD
  refine ⟨fun i m acc H3 => m = xs.length - i ∧ i ≤ xs.length ∧ acc = ((xs.take i).filter p).map f ∧ H3 D = some (.lst acc) ∧ Same H2 H3, ⟨xs.length, by simp, Nat.zero_le _, rfl, upd_same, Same.new hD⟩, ?_⟩
  rintro i m acc H3 ⟨rfl, hi, rfl, hD3, s3⟩
  refine ⟨hD3, ?_⟩
  have q := s3.seq hl
  by_cases hlt : i < xs.length
  · have hx : xs[i]? = some xs[i] := List.getElem?_eq_getElem hlt
    have hle : (((xs.take i).filter p).map f).length < sizeLine := by
      rw [List.length_map]
      refine Nat.lt_of_le_of_lt (List.length_filter_le _ _) ?_
      rw [List.length_take]; omega
    have et : xs.take (i + 1) = xs.take i ++ [xs[i]] := by rw [List.take_succ, hx]; rfl
    refine .inr ⟨⟨xs, xs[i], q, hx⟩, hle, fun v H4 y => ?_⟩
    obtain ⟨e, y⟩ := y
    have ev := y xs q
    rw [hx] at ev
    cases ev
    subst e
    refine ht _ _ (List.getElem_mem hlt) s3 _ fun H5 s5 => ⟨fun hp => ?_, fun hp => ?_⟩
    · refine hs _ _ (List.getElem_mem hlt) hp (s3.trans s5) _ fun H6 s6 => ⟨s6.at (s5.at hD3), xs.length - (i + 1), by omega, rfl, hlt, ?_, upd_same, (s3.trans (s5.trans s6)).put hD⟩
      rw [et, List.filter_append, List.map_append]
      simp [hp]
    · refine ⟨xs.length - (i + 1), by omega, rfl, hlt, ?_, s5.at hD3, s3.trans s5⟩
      rw [et, List.filter_append, List.map_append]
      simp [hp]
  · have e : i = xs.length := by omega
    subst e
    rw [List.take_length] at hD3 ⊢
    exact .inl ⟨⟨xs, q, Nat.le_refl _⟩, hd D H3 hD s3 hD3⟩
/-  [i for i, x in enumerate(xs) if p(i, x)] -/
/-  == of what has the same data -/
theorem deq_same {K : PySem.W.Frag} {f : Bool → Bool} {x y : V} {H : Hp} {Q : VK} {d : PyData} (hx : Rp K H x d) (hy : Rp K H y d) (hd : SeqAt.shaped d = true) (q : Q (.bl (f true)) H) : rDeq K f x y H Q :=
  ⟨d, d, hx, hy, hd, hd, by rw [PySem.SeqAt.eqv_refl d (SeqAt.canLay_of_shaped hd)]; exact q⟩
end L2
namespace L2
open PySem PySem.Spec PyProof.Rows
section
variable {X : Cx} {K : PySem.W.Frag}
/-! the same rules in a block, with the fragment by its name -/
theorem sl_listK (e : X.K = K) : SlR X (rSlL K) := e ▸ sl_list
theorem deqK (e : X.K = K) (hu : X.A.units + 64 < cLine) : OpR X (compareOp .Eq) (rDeq K fun b => b) := e ▸ o_deq hu
end
end L2
namespace L2
open PySem PySem.Spec PyProof.Rows
theorem cutV_ints (es : List Int) (lo hi : Option Int) : cutV (es.map V.int) lo hi = ((es.drop (HT.sIx es.length 0 lo)).take (HT.sIx es.length es.length hi - HT.sIx es.length 0 lo)).map V.int := by
  unfold cutV
  rw [List.length_map, ← List.map_drop, ← List.map_take]
end L2
namespace L2
open PySem PySem.Spec PyProof.Rows
theorem sIx_nn {n d : Nat} {i : Int} (h0 : 0 ≤ i) : HT.sIx n d (some i) = min i.toNat n := by
  show (if i < 0 then (i + (n : Int)).toNat else min i.toNat n) = _
  rw [if_neg (by omega)]
end L2

/-! a walk over what is a list or a tuple; xs.insert(i, y); pairs and permutations; places of lambdas -/
namespace L2
open PySem PySem.Spec PyProof.Rows
section
variable {X : Cx}
def rInsertI : V → List V → Hp → VK → Prop := fun x vs H Q => ∃ (l : Addr) (xs : List V) (y : V) (k : Int), x = .ref l ∧ vs = [.int k, y] ∧ H l = some (.lst xs) ∧ xs.length < sizeLine ∧ 0 ≤ k ∧ k ≤ xs.length ∧ Q .non (upd H l (.lst (xs.take k.toNat ++ y :: xs.drop k.toNat)))
end
/-! the way to a lambda in a text -/
def forBody : Stmt → List Stmt
  | .For _ _ b _ _ => b
  | _ => []
def asgVal : Stmt → Expr
  | .Assign _ v _ => v
  | _ => .Constant .none 0 ⟨0, 0, 0, 0⟩
def retVal : Stmt → Expr
  | .Return (some v) _ => v
  | _ => .Constant .none 0 ⟨0, 0, 0, 0⟩
def callArg (i : Nat) : Expr → Expr
  | .Call _ as _ _ => as.getD i (.Constant .none 0 ⟨0, 0, 0, 0⟩)
  | _ => .Constant .none 0 ⟨0, 0, 0, 0⟩
def lamArgs : Expr → Arguments
  | .Lambda a _ _ _ => a
  | _ => defArgs (.Pass ⟨0, 0, 0, 0⟩)
def lamBody : Expr → Expr
  | .Lambda _ b _ _ => b
  | e => e
def lamScope : Expr → Scope
  | .Lambda _ _ s _ => s
  | _ => defScope (.Pass ⟨0, 0, 0, 0⟩)
theorem atI_in {xs : List Int} {x v : Int} (h0 : 0 ≤ x) (h : xs[x.toNat]? = some v) : atI (xs.map V.int) x = some (.int v) := by
  have := atI_nat (xs := xs.map V.int) (j := x.toNat) (v := .int v) (by rw [List.getElem?_map, h]; rfl)
  rwa [Int.toNat_of_nonneg h0] at this
end L2

/-! list(reversed(xs)); min, max of a list of ints; xs.index(i); len(set(xs)) of ints -/
namespace PySem
open Sem (wp)
open PyProof.Rows
namespace F
end F
section
variable {prog : Program} {w : World} {A : Around} {E : Value → Shared → Prop} {s : Shared}
end
end PySem
namespace L2
open PySem PySem.Spec PyProof.Rows
theorem log2_small {n : Nat} (h : n < 2 ^ 64) : n.log2 ≤ 64 := by
  by_cases h0 : n = 0
  · subst h0; decide
  · exact Nat.le_of_lt ((Nat.log2_lt h0).mpr h)
section
variable {X : Cx}
/-  list(reversed(e)) -/
def tRevL (K : PySem.W.Frag) (te : TE) : TE := fun σ H Q => te σ H fun x H1 => ∃ l ys, x = .ref l ∧ SqL K H1 l ys ∧ ∀ d, H1 d = none → Q (.ref d) (upd H1 d (.lst ys.reverse))
/-  min, max of a list of ints -/
def rMinI (K : PySem.W.Frag) : List V → Hp → VK → Prop := fun xs H Q => ∃ (p : Addr) (ns : List Int), xs = [.ref p] ∧ SqL K H p (ns.map V.int) ∧ ns ≠ [] ∧ ∀ m, m ∈ ns → (∀ x ∈ ns, m ≤ x) → Q (.int m) H
def rMaxI (K : PySem.W.Frag) : List V → Hp → VK → Prop := fun xs H Q => ∃ (p : Addr) (ns : List Int), xs = [.ref p] ∧ SqL K H p (ns.map V.int) ∧ ns ≠ [] ∧ ∀ m, m ∈ ns → (∀ x ∈ ns, x ≤ m) → Q (.int m) H
theorem call_minI (hc : X.calm = true) : CallR X (.builtin "min") (rMinI X.K) := by
  intro pins s σ H xs us Q I r h
  obtain ⟨p, ns, rfl, hq, hne, q⟩ := h
  obtain ⟨u, rfl, rx⟩ := vals1 r
  cases rx
  obtain ⟨its, r', pl, hz⟩ := I.list hq
  have hi := intsAre_of r'
  have hL := pl.isList
  have hn := hi.numsOf
  obtain ⟨ys, e⟩ := hi.allInts.items
  rw [e] at hL
  have e2 : numsOf its = numsOf (intItems ys).toList := by rw [← e]
  rw [e2, nums_intItems] at hn
  have hlen := congrArg List.length hn
  rw [List.length_map, Array.length_toList] at hlen
  have hpos : 0 < ns.length := List.length_pos_iff.mpr hne
  refine min_intList (I.ok.hd hc) hL (by omega) fun v h' tk hv hk => ?_
  obtain ⟨t, rfl⟩ := intItems_at hv
  obtain ⟨h1, h2⟩ := argBest_lt (numAt ys) (ys.size - 1)
  refine ⟨.int _, H, I.kept (t' := tk) hk, ⟨t, rfl⟩, q _ ?_ fun a ha => ?_⟩
  · rw [← hn, numAt_eq]; exact getD_mem (by rw [List.length_map, Array.length_toList]; omega)
  · rw [← hn] at ha
    obtain ⟨j, hj, rfl⟩ := mem_getD ha
    rw [List.length_map, Array.length_toList] at hj
    rw [← numAt_eq]; exact h2 j (by omega)
/-  xs.index(i) of ints, i among them -/
def rIndexI : V → List V → Hp → VK → Prop := fun x vs H Q => ∃ (l : Addr) (ns : List Int) (i : Int), x = .ref l ∧ vs = [.int i] ∧ H l = some (.lst (ns.map V.int)) ∧ i ∈ ns ∧ ns.length ≤ 1000 ∧ (∀ x ∈ ns, x.natAbs < 2 ^ 64) ∧ Q (.int (ns.idxOf i : Nat)) H
/-  set(a list of ints without doubles), and its len -/
def rSetN (K : PySem.W.Frag) : List V → Hp → VK → Prop := fun xs H Q => ∃ (p : Addr) (ns : List Int), xs = [.ref p] ∧ SqL K H p (ns.map V.int) ∧ ns.Nodup ∧ ns.length ≤ 1000 ∧ ∀ (d : Addr) (S : Int → Bool), H d = none → Q (.ref d) (upd H d (.set S ns.length))
end
end L2
namespace L2
open PySem PySem.Spec PyProof.Rows
section
variable {X : Cx} {K : PySem.W.Frag}
end
end L2
namespace L2
open PySem PySem.Spec PyProof.Rows
/-  a loop by an invariant with a measure -/
theorem whileAt_inv {c : TT} {tb : TS} {D : Ends} {σ : St} {H : Hp} (Pv : Nat → St → Hp → Prop) {m : Nat} (h0 : Pv m σ H)
    (hs : ∀ m σ H, Pv m σ H → c σ H fun b H1 => (b = true → ∃ N : St → Hp → Prop, (∀ σ' H', N σ' H' → ∃ m', m' < m ∧ Pv m' σ' H') ∧ tb { D with nx := N, ct := N, bk := D.nx } σ H1) ∧ (b = false → D.nx σ H1)) : WhileAt c tb D σ H := by
  unfold WhileAt
  exact ⟨Pv, ⟨m, h0⟩, hs⟩
/-  [x for x in range(..) if p(x)] -/
end L2

/-! sorted(.., key=f): the keys are lists; by plain heaps -/
namespace PySem.W
open PySem PySem.Calls PyProof.Rows
def AreLists (h : Heap) (ks : List Value) : Prop := ∀ v ∈ ks, ∃ a o, v = .ref a ∧ h.get? a = some o ∧ o.cls = .type "list"
section
variable {M : Model} {A : Around} {E : Value → Shared → Prop} {s : Shared}
theorem kl_firsts : ∀ (vs : List Value) {Q : List (Option Value) → Shared → Prop}, AreLists s.heap vs → Q (vs.map fun _ => none) s → wpAny M A (vs.mapM firstOfTuple') Q E s
  | [], _, _, h => by rw [List.mapM_nil]; exact wpAny_pure h
  | v :: vs, Q, t, h => by
    obtain ⟨a, o, rfl, ho, hc⟩ := t v List.mem_cons_self
    rw [List.mapM_cons]
    refine wpAny_bind ?_
    rw [kas_first_eq]
    refine wpAny_bind (Looks.here (show Looks M s.heap (typeOf (.ref a)) o.cls from (Looks.ld ho).andThen .now) ?_)
    rw [hc, if_pos (by first | decide | simp)]
    refine wpAny_pure ?_
    exact wpAny_bind (kl_firsts vs (Q := fun bs s' => wpAny M A (pure (none :: bs)) Q E s') (fun v hv => t v (List.mem_cons_of_mem _ hv)) (wpAny_pure h))
theorem kl_kind {vs : List Value} {Q : SortKind → Shared → Prop} (hne : 0 < vs.length) (t : AreLists s.heap vs) (h : Q oneType' s) : wpAny M A (keyKind' vs.toArray) Q E s := by
  obtain ⟨f₁, fr, rfl⟩ : ∃ f₁ fr, vs = f₁ :: fr := by
    match vs, hne with
    | f₁ :: fr, _ => exact ⟨f₁, fr, rfl⟩
  rw [kat_kind_eq, List.mapM_toArray, map_eq_pure_bind]
  refine wpAny_bind (wpAny_bind (kl_firsts _ t (wpAny_pure ?_)))
  have h1 : ((((f₁ :: fr).map fun _ => (none : Option Value)).toArray).all fun x => x.isSome) = false := by simp
  rw [if_neg (by rw [h1]; decide)]
  have h2 : ((((f₁ :: fr).map fun _ => (none : Option Value)).toArray)[0]?.bind id).isSome = false := by simp
  rw [if_neg (by rw [h2]; decide)]
  rw [oneTypeOnly'_eq, List.mapM_toArray, map_eq_pure_bind]
  refine wpAny_bind (wpAny_bind (wpAny_bind (kas_mapM (r := Value.type "list") _ (fun v hv Q' hq => ?_) (wpAny_pure ?_))))
  · obtain ⟨a, o, rfl, ho, hc⟩ := t v hv
    refine Looks.here (show Looks M s.heap (typeOf (.ref a)) o.cls from (Looks.ld ho).andThen .now) ?_
    rw [hc]; exact hq
  · have hall2 : ((List.map (fun _ => Value.type "list") (f₁ :: fr)).toArray.all fun x => x == Value.type "list") = true := by
      simp only [List.all_toArray, List.all_map, List.all_eq_true]
      intro _ _
      rfl
    have h0 : (List.map (fun _ => Value.type "list") (f₁ :: fr)).toArray[0]? = some (Value.type "list") := by simp
    rw [h0]
    dsimp only
    rw [if_pos hall2]
    exact wpAny_pure (wpAny_pure h)
end
section
variable {prog : Program} {w : World} {A : Around} {E : Value → Shared → Prop} {s : Shared} {a kS : Addr} {vs : List Value} {e1 : Nat} {f : Value} {P : PySem.Fin → Shared → Prop}
/-  what is due when all keys are there -/
def SrtEnd (prog : Program) (w : World) (A : Around) (kS a : Addr) (vs : List Value) (P : PySem.Fin → Shared → Prop) (ks : List Value) (s : Shared) : Prop :=
  ∃ lt : Nat → Nat → Bool, L2.STO lt vs.length ∧ AreLists s.heap ks ∧ (∀ i j (C : Bool → Shared → Prop), i < vs.length → j < vs.length → C (lt i j) s → wpAny (model prog w) A (keyLt' oneType' (ks.getD i Value.none) (ks.getD j Value.none)) C (fun _ _ => False) s) ∧
  ∀ p : Array Nat, L2.Pm vs.length p → L2.Up lt p vs.length → ∀ h' c, (∀ b o, b ≠ kS → b ≠ a → s.heap.get? b = some o → h'.get? b = some o) → h'.get? a = some (seqObj "list" (List.toArray (p.toList.map fun i => vs.getD i Value.none)) c) → P (.done (.ret .none)) { s with heap := h' }
def SrtKeys (prog : Program) (w : World) (A : Around) (kS a : Addr) (e1 : Nat) (f : Value) (vs : List Value) (P : PySem.Fin → Shared → Prop) : List Value → List Value → Shared → Prop
  | [], ks, s => s.heap.get? a = some (seqObj "list" #[] e1) ∧ SrtEnd prog w A kS a vs P ks s
  | v :: r, ks, s => wpAny (model prog w) A (call f [v]) (fun k s' => (∃ e, s'.heap.get? kS = some (seqObj "list" (List.toArray ks) e)) ∧ ∀ h' c, (∀ b o, b ≠ kS → s'.heap.get? b = some o → h'.get? b = some o) → h'.get? kS = some (seqObj "list" (List.toArray (ks ++ [k])) c) → SrtKeys prog w A kS a e1 f vs P r (ks ++ [k]) { s' with heap := h' }) (fun _ _ => False) s
theorem srt_tail {st : SortSt} {out ks : List Value} {e : Nat} (hak : a ≠ kS) (hout : (arrOf st).map (·.2) = List.toArray out) (hz : out.length < 64) (hkz : ks.length < 64) (hf : failedOf st = none)
    (ha : s.heap.get? a = some (seqObj "list" #[] e1)) (hk : s.heap.get? kS = some (seqObj "list" (List.toArray ks) e))
    (h : ∀ h' c, (∀ b o, b ≠ kS → b ≠ a → s.heap.get? b = some o → h'.get? b = some o) → h'.get? a = some (seqObj "list" (List.toArray out) c) → P (.done (.ret .none)) { s with heap := h' }) : wpAny (model prog w) A (ksk_tail a false e1 (.ref kS) st) P E s := by
  have s1 := Heap.SameBut.update s.heap kS (Obj.mapSeq fun _ => (#[] : Array Value))
  have ha1 : (s.heap.update kS (Obj.mapSeq fun _ => (#[] : Array Value))).get? a = some (seqObj "list" #[] e1) := (s1.2 a hak).trans ha
  have s2 := Heap.SameBut.update (s.heap.update kS (Obj.mapSeq fun _ => (#[] : Array Value))) a (Obj.mapSeq fun _ => List.toArray out)
  obtain ⟨c2, hc2⟩ : ∃ c2, ((s.heap.update kS (Obj.mapSeq fun _ => (#[] : Array Value))).update a (Obj.mapSeq fun _ => List.toArray out)).get? a = some (seqObj "list" (List.toArray out) c2) := ⟨_, get?_update_seq ha1 fun _ => List.toArray out⟩
  have hsz : (List.toArray out).size = out.length := List.size_toArray
  unfold ksk_tail
  try dsimp only
  rw [hout]
  refine wpAny_bind (listUpdate_at hk rfl ?_ (by rw [List.size_toArray, sizeLine_eq]; omega) (Nat.zero_le _))
  refine wpAny_bind (wpAny_letGo ?_)
  refine wpAny_bind (seqEpoch_at ha1 rfl ?_)
  refine wpAny_bind (listUpdate_at ha1 rfl ?_ (Nat.zero_le _) (Nat.le_trans (Nat.le_of_eq hsz) (by rw [sizeLine_eq]; omega)))
  rw [hf]
  simp only [bne_self_eq_false, Bool.false_eq_true, if_false]
  exact wpAny_pure (h _ c2 (fun b o h1 h2 q => (s2.2 b h2).trans ((s1.2 b h1).trans q)) hc2)
theorem srt_end {ks : List Value} {e : Nat} (hak : a ≠ kS) (hl : ks.length = vs.length) (h64 : vs.length < 64) (ha : s.heap.get? a = some (seqObj "list" #[] e1)) (hk : s.heap.get? kS = some (seqObj "list" (List.toArray ks) e))
    (h : SrtEnd prog w A kS a vs P ks s) : wpAny (model prog w) A (ksk_end a false vs.toArray e1 (.ref kS) (List.toArray ks)) P E s := by
  obtain ⟨lt, S, hL, hcmp, fin⟩ := h
  unfold ksk_end
  try dsimp only
  by_cases h2 : 2 ≤ vs.length
  · have hn2 : ¬ vs.toArray.size < 2 := by rw [List.size_toArray]; omega
    have hk1 : wpAny (model prog w) A (keyKind' (List.toArray ks)) (fun κ s' => κ = oneType' ∧ s = s') (fun _ _ => False) s := kl_kind (by omega) hL ⟨rfl, rfl⟩
    simp only [Bool.false_eq_true, if_false]
    rw [if_neg hn2, if_neg hn2]
    refine wpAny_bind (wpAny_mono hk1 (fun κ s0 hk => ?_) fun _ _ x => x.elim)
    obtain ⟨rfl, rfl⟩ := hk
    have hw : (kas_sort vs.length).kasWp (kas_ask prog w A oneType' ks) (fun p s'' => s = s'' ∧ L2.Pm vs.length p ∧ L2.Up lt p vs.length) s := by
      refine L2.Wp.kas (lt := lt) (n := vs.length) (fun i j C hi hj hc => hcmp i j C hi hj hc) ?_
      exact L2.wp_mono (L2.wp_sort S h2) fun q hq => ⟨rfl, hq⟩
    refine wpAny_bind (wpAny_mono (kat_run (Q := fun st' s' => ∃ p : Array Nat, arrOf st' = p.map (kas_item ((List.toArray ks).zip (List.toArray vs))) ∧ failedOf st' = none ∧ s = s' ∧ L2.Pm vs.length p ∧ L2.Up lt p vs.length)
      hl h2 h64 (fun p' st' s' a1 a2 a3 a4 => ⟨p', a2, a3, a4⟩) hw) ?_ fun _ _ x => x)
    rintro ⟨⟨⟩, st'⟩ s' ⟨p, har, hf, rfl, hp, hu⟩
    try dsimp only
    refine srt_tail hak (kat_snds hl har) (by rw [List.length_map, Array.length_toList, hp.size]; exact h64) (by omega) hf ha hk fun h' c k1 k2 => fin p hp hu h' c k1 k2
  · have hn2 : vs.toArray.size < 2 := by rw [List.size_toArray]; omega
    simp only [Bool.false_eq_true, if_false]
    rw [if_pos hn2, if_pos hn2]
    refine wpAny_bind (wpAny_pure ?_)
    refine wpAny_bind (wpAny_pure ?_)
    try dsimp only
    have hsn : (arrOf (SortSt.mk' general' ((List.toArray ks).zip (List.toArray vs)) #[] 7 none)).map (·.2) = List.toArray vs := by
      show ((List.toArray ks).zip (List.toArray vs)).map (·.2) = List.toArray vs
      apply Array.toList_inj.mp
      simp [List.map_snd_zip, hl]
    refine srt_tail hak hsn h64 (by omega) rfl ha hk fun h' c k1 k2 => fin (List.toArray (List.range vs.length)) ⟨by simp, by simp⟩ (fun i j hij hj => by omega) h' c k1 ?_
    have e : ((List.toArray (List.range vs.length)).toList.map fun i => vs.getD i Value.none) = vs := by
      apply List.ext_getElem?
      intro i
      by_cases hi : i < vs.length
      · simp [hi]
      · simp [hi]
    rw [e]; exact k2
theorem srt_fold {n : Nat} {body : Value → PUnit → Sem (ForInStep PUnit)} (hn : n < 64)
    (hb : ∀ x ks (s : Shared) (C : Value → Nat → Shared → Prop), List.length ks < 64 → wpAny (model prog w) A (call f [x]) (fun k s' => (∃ e, s'.heap.get? kS = some (seqObj "list" (List.toArray ks) e)) ∧ ∀ h' c, (∀ b o, b ≠ kS → s'.heap.get? b = some o → h'.get? b = some o) → h'.get? kS = some (seqObj "list" (List.toArray (ks ++ [k])) c) → C k c { s' with heap := h' }) (fun _ _ => False) s →
      wpAny (model prog w) A (body x ⟨⟩) (fun r s' => r = .yield ⟨⟩ ∧ ∃ k c, s'.heap.get? kS = some (seqObj "list" (List.toArray (ks ++ [k])) c) ∧ C k c s') E s) : ∀ (r ks : List Value) (e : Nat) (s : Shared), ks.length + r.length = n →
      s.heap.get? kS = some (seqObj "list" (List.toArray ks) e) → SrtKeys prog w A kS a e1 f vs P r ks s →
      wpAny (model prog w) A (forIn r PUnit.unit body) (fun _ s' => ∃ ks e, s'.heap.get? kS = some (seqObj "list" (List.toArray ks) e) ∧ ks.length = n ∧ s'.heap.get? a = some (seqObj "list" #[] e1) ∧ SrtEnd prog w A kS a vs P ks s') E s
  | [], ks, e, s, hl, hk, h => by
    rw [List.forIn_nil]
    exact wpAny_pure ⟨ks, e, hk, by simpa using hl, h⟩
  | x :: r, ks, e, s, hl, hk, h => by
    rw [List.length_cons] at hl
    rw [List.forIn_cons]
    have h' := h
    unfold SrtKeys at h'
    refine wpAny_bind (wpAny_mono (hb x ks s (fun k c s' => SrtKeys prog w A kS a e1 f vs P r (ks ++ [k]) s') (by omega) (wpAny_mono h' (fun k s' hq => hq) fun _ _ x => x)) (fun q s' hq => ?_) fun _ _ x => x)
    obtain ⟨rfl, k, c, hk', h2⟩ := hq
    show wpAny (model prog w) A (forIn r PUnit.unit body) _ E s'
    exact srt_fold hn hb r (ks ++ [k]) c s' (by rw [List.length_append, List.length_singleton]; omega) hk' h2
theorem srt_keyed {n : Nat} (ho : s.heap.get? a = some (seqObj "list" vs.toArray n)) (h64 : vs.length < 64)
    (h : ∀ kS e1 h', (∀ b o, b ≠ a → s.heap.get? b = some o → h'.get? b = some o) → h'.get? a = some (seqObj "list" #[] e1) → h'.get? kS = some (seqObj "list" #[] 0) → s.heap.objs.size ≤ kS → SrtKeys prog w A kS a e1 f vs P vs [] { s with heap := h' }) :
    wpAny (model prog w) A (ksk_tree a f false) P E s := by
  have ha : a < s.heap.objs.size := Heap.lt_size ho
  have s1 := Heap.SameBut.update s.heap a (Obj.mapSeq fun _ => (#[] : Array Value))
  obtain ⟨e1, ho1⟩ : ∃ e1, (s.heap.update a (Obj.mapSeq fun _ => (#[] : Array Value))).get? a = some (seqObj "list" #[] e1) := ⟨_, get?_update_seq ho fun _ => #[]⟩
  have hkS : ((s.heap.update a (Obj.mapSeq fun _ => (#[] : Array Value))).push (seqObj "tuple" vs.toArray 0)).objs.size = s.heap.objs.size + 1 := by rw [size_push', Heap.size_update]
  unfold ksk_tree
  refine wpAny_bind (listItems_at ho rfl ?_)
  refine wpAny_bind (listUpdate_at ho rfl ?_ (by rw [List.size_toArray, sizeLine_eq]; omega) (Nat.zero_le _))
  refine wpAny_bind (seqEpoch_at ho1 rfl ?_)
  refine wpAny_bind (wpAny_newTuple ?_ (by show vs.length ≤ _; rw [sizeLine_eq]; omega))
  refine wpAny_bind (wpAny_newList ?_ (Nat.zero_le _))
  refine wpAny_holding ?_
  generalize hK : ((s.heap.update a (Obj.mapSeq fun _ => (#[] : Array Value))).push (seqObj "tuple" vs.toArray 0)).objs.size = kS at hkS
  generalize hh : ((s.heap.update a (Obj.mapSeq fun _ => (#[] : Array Value))).push (seqObj "tuple" vs.toArray 0)).push (seqObj "list" #[] 0) = h1
  have hk0 : h1.get? kS = some (seqObj "list" #[] 0) := by rw [← hh, ← hK]; exact Heap.get?_push_size _ rfl
  have hk := h kS e1 h1 (fun b o hb q => by rw [← hh]; exact Heap.get?_push_of_some _ (Heap.get?_push_of_some _ ((s1.2 b hb).trans q))) (by rw [← hh]; exact Heap.get?_push_of_some _ (Heap.get?_push_of_some _ ho1)) hk0 (by rw [hkS]; exact Nat.le_succ _)
  have hak : a ≠ kS := Nat.ne_of_lt (by rw [hkS]; exact Nat.lt_succ_of_lt ha)
  unfold ksk_rest
  refine wpAny_bind (wpAny_rule ?_)
  first
    | rw [List.forIn_toArray]
    | (rw [← Array.forIn_toList]; simp only [List.toList_toArray])
    | rw [← Array.forIn_toList]
  refine wpAny_bind (wpAny_mono (srt_fold h64 (fun x ks s' C hz hx => ?_) vs [] 0 { s with heap := h1 } (by simp) hk0 hk) (fun _ s' hd => ?_) fun _ _ x => x)
  · refine wpAny_bind (wpAny_attempt (wpAny_mono hx (fun k s'' hk => ?_) fun _ _ hF => hF.elim))
    obtain ⟨⟨e, nk⟩, c⟩ := hk
    have s1 := Heap.SameBut.update s''.heap kS (Obj.mapSeq (·.push k))
    have ea : (List.toArray ks).push k = List.toArray (ks ++ [k]) := by simp
    obtain ⟨c2, hc2⟩ : ∃ c2, (s''.heap.update kS (Obj.mapSeq (·.push k))).get? kS = some (seqObj "list" (List.toArray (ks ++ [k])) c2) := ⟨_, by rw [← ea]; exact get?_update_seq nk (·.push k)⟩
    try dsimp only
    refine wpAny_bind (listUpdate_at nk rfl ?_ (by rw [List.size_toArray, sizeLine_eq]; omega) (Nat.le_trans (Nat.le_of_eq (Array.size_push ..)) (by rw [List.size_toArray, sizeLine_eq]; omega)))
    exact wpAny_pure ⟨rfl, k, c2, hc2, c _ c2 (fun b o hb q => (s1.2 b hb).trans q) hc2⟩
  · obtain ⟨ks, e, hk', hl, ha', fin⟩ := hd
    try dsimp only
    refine wpAny_bind (listItems_at hk' rfl ?_)
    exact srt_end hak hl h64 ha' hk' fin
end
end PySem.W

/-! sorted(range(n), key=a function made inside the def), whose keys are new lists of ints -/
namespace L2
open PySem PySem.Spec PyProof.Rows PySem.W
structure KeyJ (X : Cx) (H2 : Hp) (s2 : Shared) (kk : Nat → List Int) (D kS : Addr) (e1 : Nat) (ks : List Value) (G : Hp) (s' : Shared) : Prop where
  os : s'.os = s2.os
  bare : AllBare s'.gens
  un : Un (frs X.stack) [] H2 G s2.heap s'.heap
  hok : HOk X.prog X.w G s'.heap
  same : Same H2 G
  keys : ∀ i, i < ks.length → ∃ d, ks[i]? = some (.ref d) ∧ G d = some (.lst ((kk i).map V.int))
  atD : s'.heap.get? D = some (seqObj "list" #[] e1)
  fD : G D = none
  fk : G kS = none
section
variable {X : Cx} {k : Nat} {nm qual : Str} {params : Arguments} {body : FuncBody} {scope : Scope} {ps : List Str} {sp : List (Str × V) → Sp} {pins : List (Addr × Obj)} {σ : St} {H2 : Hp} {s2 : Shared} {f D kS : Addr} {fv : List (Str × V)} {kk : Nat → List Int} {vs : List Value} {P : PySem.Fin → Shared → Prop} {e1 : Nat}
theorem Inv.young (I : Inv X pins σ H2 s2) {b : Addr} (h : s2.heap.objs.size ≤ b) : b ∉ frs X.stack := fun z => by
  rcases List.mem_cons.mp (I.stkSub b z) with q | q
  · exact absurd I.lt (by rw [← q]; exact Nat.not_lt.mpr h)
  · exact I.nofs h q
/-  an untracked list of ours has changed -/
theorem hok_turn {P : Program} {w : World} {G : Hp} {h h' : Heap} {b : Addr} (x : HOk P w G h) (fb : G b = none) (k : ∀ c o, c ≠ b → h.get? c = some o → h'.get? c = some o) : HOk P w G h' := fun a o e =>
  (x a o e).stay (fun c u hc q => k c u (by
    rintro rfl
    rcases hc with z | z
    · rw [← z, fb] at e; cases e
    · rw [fb] at z; cases z) q) (fun _ q => q) fun _ _ q _ => q
theorem srt_keys (F : CloOk X.prog X.w X.K X.mg X.base CX0 k nm qual params body scope ps sp) (hr : Room (k + 2) X.A) (I : Inv X pins σ H2 s2) (hc : CloAt H2 f nm qual params body scope fv)
    (hsp : ∀ i, i < vs.length → ∀ H3, Same H2 H3 → sp fv [.int (i : Nat)] H3 (fun v H4 => Same H3 H4 ∧ ∃ d, v = .ref d ∧ H4 d = some (.lst ((kk i).map V.int))) E0)
    (hv : ∀ (i : Nat) v, vs[i]? = some v → ∃ t, v = .int (i : Nat) t) (hD : s2.heap.objs.size ≤ D) (hk : s2.heap.objs.size ≤ kS) (hDk : D ≠ kS) (h64 : vs.length < 64)
    (S : STO (fun i j => HT.lexLt (kk i) (kk j)) vs.length)
    (fin : ∀ p : Array Nat, Pm vs.length p → Up (fun i j => HT.lexLt (kk i) (kk j)) p vs.length → ∀ sF G', Inv X pins σ G' sF → Same H2 G' → G' D = some (.lst (p.toList.map fun (i : Nat) => V.int i)) → P (.done (.ret .none)) sF) :
    ∀ (r ks : List Value) (s' : Shared) (G : Hp), r = vs.drop ks.length → ks.length ≤ vs.length → KeyJ X H2 s2 kk D kS e1 ks G s' → (∃ e, s'.heap.get? kS = some (seqObj "list" (List.toArray ks) e)) →
      SrtKeys X.prog X.w X.A.in1.in1 kS D e1 (.ref f) vs P r ks s'
  | [], ks, s', G, hr0, hle, J, hkS => by
    have hlen : ks.length = vs.length := by
      have := congrArg List.length hr0
      simp at this
      omega
    unfold SrtKeys
    refine ⟨J.atD, fun i j => HT.lexLt (kk i) (kk j), S, fun v hvm => ?_, fun i j C hi hj hC => ?_, fun p hp hu h' c keep hDc => ?_⟩
    · obtain ⟨i, hi, rfl⟩ := List.mem_iff_getElem.mp hvm
      obtain ⟨d, h1, h2⟩ := J.keys i hi
      rw [List.getElem?_eq_getElem hi] at h1
      obtain ⟨_, its, n, _, e⟩ := J.hok d _ h2
      exact ⟨d, _, Option.some.inj h1, e, rfl⟩
    · obtain ⟨d1, a1, a2⟩ := J.keys i (by omega)
      obtain ⟨d2, b1, b2⟩ := J.keys j (by omega)
      have g1 : ks.getD i Value.none = .ref d1 := by simp [List.getD, a1]
      have g2 : ks.getD j Value.none = .ref d2 := by simp [List.getD, b1]
      rw [g1, g2, keyLt'_oneType]
      obtain ⟨_, its1, n1, r1, e1'⟩ := J.hok d1 _ a2
      obtain ⟨_, its2, n2, r2, e2'⟩ := J.hok d2 _ b2
      exact HT.oneLt_listInts ⟨_, e1', rfl, _, rfl⟩ ⟨_, e2', rfl, _, rfl⟩ (intsAre_of r1) (intsAre_of r2) hr.in1.in1.units0 hC
    · have lenp : p.toList.length = vs.length := by rw [Array.length_toList]; exact hp.size
      have hvals : Vals (p.toList.map fun (i : Nat) => V.int i) (p.toList.map fun i => vs.getD i Value.none) := by
        refine vals_of_get (by simp) fun j x u e1 e2 => ?_
        rw [List.getElem?_map] at e1 e2
        cases q : p.toList[j]? with
        | none => rw [q] at e1; cases e1
        | some m =>
          rw [q] at e1 e2
          cases e1
          have hm : m < vs.length := List.mem_range.mp (hp.perm.mem_iff.mp (List.mem_of_getElem? q))
          obtain ⟨t, ht⟩ := hv m vs[m] (List.getElem?_eq_getElem hm)
          have : vs.getD m Value.none = .int (m : Nat) t := by simp [List.getD, hm, ht]
          cases e2
          show RelV (.int (m : Nat)) (vs.getD m Value.none)
          rw [this]
          exact ⟨t, rfl⟩
      have newD : ObjOk X.prog X.w (upd G D (.lst (p.toList.map fun (i : Nat) => V.int i))) h' D (.lst (p.toList.map fun (i : Nat) => V.int i)) := ⟨by rw [List.length_map, lenp, sizeLine_eq]; omega, _, c, hvals, hDc⟩
      have hokF : HOk X.prog X.w (upd G D (.lst (p.toList.map fun (i : Nat) => V.int i))) h' := fun b u e => by
        by_cases hb : b = D
        · subst hb; rw [upd_same] at e; cases e; exact newD
        · rw [upd_ne hb] at e
          refine (J.hok b u e).stay (fun c' v hc' q => keep c' v ?_ ?_ q) (fun c' q => by rw [upd_ne (ne_of_none q J.fD)]; exact q) fun c' xs q _ => by rw [upd_ne (ne_of_none q J.fD)]; exact q
          · rintro rfl
            rcases hc' with z | z
            · rw [← z, J.fk] at e; cases e
            · rw [J.fk] at z; cases z
          · rintro rfl
            rcases hc' with z | z
            · exact hb z.symm
            · rw [J.fD] at z; cases z
      have lt2 : ∀ b o, s2.heap.get? b = some o → b ≠ D ∧ b ≠ kS := fun b o q => ⟨Nat.ne_of_lt (Nat.lt_of_lt_of_le (Heap.lt_size q) hD), Nat.ne_of_lt (Nat.lt_of_lt_of_le (Heap.lt_size q) hk)⟩
      have un2 : Un (frs X.stack) [] H2 (upd G D (.lst (p.toList.map fun (i : Nat) => V.int i))) s2.heap h' := by
        refine ⟨fun b o q n1 n2 n3 => keep b o (lt2 b o q).2 (lt2 b o q).1 (J.un.keep b o q n1 n2 n3), fun b o q n1 n2 n3 => ?_, fun b o q n1 n3 => by rw [upd_ne (lt2 b o q).1]; exact J.un.free b o q n1 n3, fun b o q n3 => ?_, fun b u q fx => ?_⟩
        · obtain ⟨sl, e⟩ := J.un.slot b o q n1 n2 n3
          exact ⟨sl, keep b _ (lt2 b o q).2 (lt2 b o q).1 e⟩
        · obtain ⟨o', e⟩ := J.un.there b o q n3
          exact ⟨o', keep b _ (lt2 b o q).2 (lt2 b o q).1 e⟩
        · have := J.un.fix b u q fx
          rw [upd_ne (ne_of_none this J.fD)]; exact this
      have IF : Inv X pins σ (upd G D (.lst (p.toList.map fun (i : Nat) => V.int i))) { s' with heap := h' } := I.call' (s' := { s' with heap := h' }) (ch := []) J.os un2 hokF J.bare fun b z => absurd z (by simp)
      refine fin p hp hu _ _ IF (fun b u q => ?_) upd_same
      have := J.same b u q
      rw [upd_ne (ne_of_none this J.fD)]; exact this
  | x :: r, ks, s', G, hr0, hle, J, hkS => by
    have hlt : ks.length < vs.length := by
      have := congrArg List.length hr0
      simp at this
      omega
    have hx : vs[ks.length]? = some x := by
      have := congrArg (fun l => l[0]?) hr0
      simp at this
      exact this.symm
    have hr1 : r = vs.drop (ks.length + 1) := by
      have := congrArg List.tail hr0
      simpa using this
    obtain ⟨t, rfl⟩ := hv _ x hx
    have Iu : Inv X pins σ G s' := I.call' (s' := s') (ch := []) J.os J.un J.hok J.bare fun b z => absurd z (by simp)
    have E0' : Env0 X.prog X.w X.K X.mg X.base X.A.in1.in1 X.stack s' G := by
      have e := Iu.env0
      exact ⟨e.frames, e.mod, e.bs, e.bsz, e.funs, e.frf, e.hok, e.bare⟩
    unfold SrtKeys
    refine wpAny_call (codeAny_mono (F.run X.A.in1.in1 X.stack s' G f fv _ [.int (ks.length : Nat)] _ E0 hr.in1.in1 E0' (hc.same J.same) (.cons ⟨t, rfl⟩ .nil) (hsp ks.length hlt G J.same)) fun rr s'' hq => ?_)
    cases rr with
    | error e => exact hq.elim
    | ok fl =>
      cases fl with
      | next => exact hq.elim
      | brk => exact hq.elim
      | cont => exact hq.elim
      | ret u =>
        obtain ⟨v, H', hos, hbare, hun, hhok, hrv, hS, d, rfl, hd⟩ := hq
        cases hrv
        obtain ⟨e, hkSe⟩ := hkS
        have hDs : D ∉ frs X.stack := I.young hD
        have hks : kS ∉ frs X.stack := I.young hk
        have kD := hun.keep D _ J.atD J.fD hDs (by simp)
        have kk2 := hun.keep kS _ hkSe J.fk hks (by simp)
        refine ⟨⟨e, kk2⟩, fun h' c keep hnew => ?_⟩
        refine srt_keys F hr I hc hsp hv hD hk hDk h64 S fin r (ks ++ [.ref d]) { s'' with heap := h' } H' (by rw [hr1, List.length_append]; rfl) (by rw [List.length_append]; exact hlt) ⟨hos.trans J.os, hbare, ?_, ?_, J.same.trans hS, fun i hi => ?_, keep D _ hDk kD, hun.free D _ J.atD J.fD (by simp), hun.free kS _ hkSe J.fk (by simp)⟩ ⟨c, hnew⟩
        · have u2 := J.un.trans hun
          have lt2 : ∀ b o, s2.heap.get? b = some o → b ≠ kS := fun b o q => Nat.ne_of_lt (Nat.lt_of_lt_of_le (Heap.lt_size q) hk)
          refine ⟨fun b o q n1 n2 n3 => keep b o (lt2 b o q) (u2.keep b o q n1 n2 n3), fun b o q n1 n2 n3 => ?_, u2.free, fun b o q n3 => ?_, u2.fix⟩
          · obtain ⟨sl, e⟩ := u2.slot b o q n1 n2 n3
            exact ⟨sl, keep b _ (lt2 b o q) e⟩
          · obtain ⟨o', e⟩ := u2.there b o q n3
            exact ⟨o', keep b _ (lt2 b o q) e⟩
        · exact hok_turn hhok (hun.free kS _ hkSe J.fk (by simp)) fun c' o hcb q => keep c' o hcb q
        · rw [List.length_append, List.length_singleton] at hi
          by_cases hij : i = ks.length
          · subst hij
            exact ⟨d, by rw [List.getElem?_append_right (Nat.le_refl _)]; simp, hd⟩
          · obtain ⟨d', g1, g2⟩ := J.keys i (by omega)
            exact ⟨d', by rw [List.getElem?_append_left (by omega)]; exact g1, hS.at g2⟩
theorem up_pairwise {lt : Nat → Nat → Bool} {n : Nat} {p : Array Nat} (hp : Pm n p) (hu : Up lt p n) : p.toList.Pairwise fun i j => lt i j = true := by
  refine List.pairwise_iff_getElem.mpr fun i j hi hj hij => ?_
  rw [Array.length_toList] at hi hj
  have := hu i j hij (by rw [← hp.size]; exact hj)
  rw [g0_eq, g0_eq, Array.getElem?_eq_getElem hi, Array.getElem?_eq_getElem hj] at this
  simpa using this
/-  sorted(range(n), key=f) -/
def tSortK (nm qual : Str) (params : Arguments) (body : FuncBody) (scope : Scope) (sp : List (Str × V) → Sp) (ta : TA) (tf : TE) : TE := fun σ H Q => ta σ H fun xs H1 => tf σ H1 fun y H2 =>
  ∃ (r f : Addr) (n : Nat) (fv : List (Str × V)) (kk : Nat → List Int), xs = [.ref r] ∧ y = .ref f ∧ H2 r = some (.rng 0 n) ∧ n < 64 ∧ CloAt H2 f nm qual params body scope fv ∧
  (∀ i, i < n → ∀ H3, Same H2 H3 → sp fv [.int (i : Nat)] H3 (fun v H4 => Same H3 H4 ∧ ∃ d, v = .ref d ∧ H4 d = some (.lst ((kk i).map V.int))) E0) ∧ STO (fun i j => HT.lexLt (kk i) (kk j)) n ∧
  ∀ (l : Addr) (p : List Nat) (H' : Hp), Same H2 H' → H2 l = none → H' l = some (.lst (p.map fun (i : Nat) => V.int i)) → p.Perm (List.range n) → (p.Pairwise fun i j => HT.lexLt (kk i) (kk j) = true) → Q (.ref l) H'
theorem pe_sortedK {e fe : Expr} {ta : TA} {tf : TE} {p pos kp : Pos} (F : CloOk X.prog X.w X.K X.mg X.base CX0 k nm qual params body scope ps sp) (hr : Room (k + 2) X.A) (hc : X.calm = true) (hg : Gl X "sorted") (hm : X.mg "sorted" = none) (ha : PA X [e] ta) (hf : PE X fe tf)
    (he : backTo pos (starEach [e] X.env) = (false, eval e X.env) :: backTo pos (starEach [] X.env) := by rfl) :
    PE X (.Call (.Name "sorted" p) [e] [⟨some "key", fe, kp⟩] pos) (tSortK nm qual params body scope sp ta tf) := by
  intro pins s σ H Q I h
  refine wpAny_Call_Name_kw (ld_blt I hg hm bt_sorted ?_ (by decide) (by decide))
  refine callWith_kw (thn (ha pos pins s σ H _ I h) fun us s1 ⟨xs, H1, I1, r1, q1⟩ => ?_) he (by rw [he]; rfl) rfl rfl
  refine kws_cons (thn (hf pins s1 σ H1 _ I1 q1) fun fu s2 ⟨y, H2, I2, r2, q2⟩ => kws_nil ?_)
  obtain ⟨r, f, n, fv, kk, rfl, rfl, hrng, h64, hcl, hsp, S, q⟩ := q2
  obtain ⟨u, rfl, ru⟩ := Vals.one r1
  cases ru
  cases r2
  obtain ⟨t1, t2, t3, hR⟩ := I2.hok r _ hrng
  show wpAny _ _ (call (.builtin "sorted") [.ref r] [(Str.ofString "key", .ref f)]) _ _ s2
  refine call_function_entry_kw kind_sorted plain_sorted entry_sorted (ksk_s1 _ _) ?_
  unfold Builtin.«sorted»
  refine wpAny_bind (m := checkCount "sorted" 1 1 _) (wpAny_pure ?_)
  have hsize : Builtin.Range.rangeSize 0 (n : Int) 1 = (n : Nat) := by rw [rangeSize_one]; split <;> omega
  refine wpAny_bind (collect_rng (A := X.A.in1) (I.ok.hd hc) hR hsize (by omega) fun g tk xs m keep hlt hget items => ?_)
  obtain ⟨hxs, hit⟩ := items
  have hxl : xs.toList.length = n := by rw [Array.length_toList]; exact hxs
  refine wpAny_bind (wpAny_newList ?_ (by rw [hxl, sizeLine_eq]; omega))
  have hoL : (g.push (seqObj "list" xs.toList.toArray 0)).get? g.objs.size = some (seqObj "list" xs.toList.toArray 0) := Heap.get?_push_size _ rfl
  refine wpAny_bind (wpAny_holding (wpAny_call_entry_kw slot_list_sort ⟨_, hoL, rfl⟩ entry_list_sort ?body (ksk_l1 _ _)))
  case body =>
    show wpAny (model X.prog X.w) X.A.in1.in1 (Builtin.«list.sort» ⟨[.ref g.objs.size], [(Str.ofString "key", .ref f)]⟩) _ _ _
    rw [ksk_t1]
    have h64' : xs.toList.length < 64 := by rw [hxl]; exact h64
    have hsg : s2.heap.objs.size ≤ g.objs.size := Nat.le_of_lt hlt
    refine srt_keyed (s := { s2 with heap := g.push (seqObj "list" xs.toList.toArray 0), toks := tk }) hoL h64' fun kS e1 h' keep2 atD atk hkS => ?_
    have hkS' : g.objs.size < kS := Nat.lt_of_lt_of_le (by show g.objs.size < (g.push _).objs.size; rw [Heap.size_push]; exact Nat.lt_succ_self _) hkS
    have old : ∀ b o, s2.heap.get? b = some o → h'.get? b = some o := fun b o e => keep2 b o (Nat.ne_of_lt (Nat.lt_of_lt_of_le (Heap.lt_size e) hsg)) (Heap.get?_push_of_some _ (keep b o e))
    refine srt_keys (kk := kk) F hr I2 hcl (fun i hi => hsp i (by rw [hxl] at hi; exact hi)) (fun i v e => ?_) hsg (Nat.le_trans hsg (Nat.le_of_lt hkS')) (Nat.ne_of_lt hkS') h64' (by rw [hxl]; exact S) (fun p hp hu sF G' IF sm hDv => ?_) xs.toList [] _ H2 rfl (Nat.zero_le _)
      ⟨rfl, I2.bare, Un.kept old, I2.hok.kept old, Same.refl _, fun i hi => absurd hi (Nat.not_lt_zero _), atD, I2.hok.fresh hsg, I2.hok.fresh (Nat.le_trans hsg (Nat.le_of_lt hkS'))⟩ ⟨0, atk⟩
    · obtain ⟨t, ht⟩ := hit i v (by simpa using e)
      exact ⟨t, by rw [ht]; congr 1; omega⟩
    · rw [hxl] at hp hu
      exact ⟨_, rfl, wpAny_pure ⟨_, rfl, .ref g.objs.size, G', IF, rfl, q _ p.toList G' sm (I2.hok.fresh hsg) hDv hp.perm (up_pairwise hp hu)⟩⟩
end
end L2
namespace L2
open PySem
def kwVal : Expr → Expr
  | .Call _ _ (k :: _) _ => k.value
  | e => e
end L2

/-! max(a list of ints, default=d); xs[::-1] -/
namespace L2
open PySem PySem.Spec PyProof.Rows PySem.W
def bstIts : Option (Int × Tok) → Array Value
  | none => #[]
  | some (m, t) => #[.int m t, .int m t]
def BstOf (f : Nat → Int) (j : Nat) : Option (Int × Tok) → Prop
  | none => j = 0
  | some (m, _) => (∃ i, i < j ∧ f i = m) ∧ ∀ i, i < j → f i ≤ m
/-  what max with a default answers -/
def MaxOut (f : Nat → Int) (n : Nat) (d v : Value) : Prop := (n = 0 → v = d) ∧ (0 < n → ∃ m t, v = .int m t ∧ (∃ i, i < n ∧ f i = m) ∧ ∀ i, i < n → f i ≤ m)
theorem mxd_args (a v : Value) : argsOk "max" ⟨[a], [(Str.ofString "default", v)]⟩ := by unfold argsOk; kernel_rfl
section
variable {prog : Program} {w : World} {A : Around} {R : Result → Shared → Prop} {I : Addr} {fp wr : List Addr} {n : Nat} {P : Nat → Value → Prop} {St : Nat → Heap → Prop}
theorem mxd_loop (W : Walks prog w A.in1 I fp wr n P St) (f : Nat → Int) (hP : ∀ i v, P i v → ∃ t, v = .int (f i) t) (S : Addr) (hSf : S ∉ fp) (d : Value) : ∀ (k j : Nat) (s : Shared) (b : Option (Int × Tok)) (c : Nat), n - j = k → j ≤ n → St j s.heap →
    s.heap.get? S = some { cls := .type "list", dict := none, data := .seq (bstIts b) c, slots := #[] } → BstOf f j b →
    (∀ v h' tk, MaxOut f n d v → (∀ b o, b ∉ wr → b ≠ S → s.heap.get? b = some o → h'.get? b = some o) → R (.ok (.ret v)) { s with heap := h', toks := tk }) →
    codeAny (model prog w) A (.builtin "max.loop" ⟨[.ref I, .none, .ref S], [(Str.ofString "default", d)]⟩) R s
  | 0, j, s, b, c, hk, hj, hst, hS, hb, hR => by
    have hin : j = n := by omega
    subst hin
    have hSw : S ∉ wr := fun h => hSf (W.sub _ h)
    refine codeAny_builtin F.entry_max_loop ?_
    rw [Around.under_plainId F.plain_max_loop _]
    show wpAny _ A.in1 (seqItems? (.ref S) >>= _) _ _ s
    refine wpAny_bind (wpAny_seqItems hS rfl ?_)
    show wpAny _ A.in1 (tryCatch (pyNext (.ref I)) _ >>= _) _ _ s
    refine wpAny_bind (wpAny_tryCatch (W.done s _ _ hst fun h' tk hk' => ?_))
    have hS' := hk' S _ hSw hS
    cases b with
    | none =>
      cases hb
      exact wpAny_bind (m := rule _) (wpAny_rule (wpAny_pure (hR d _ tk ⟨fun _ => rfl, fun q => absurd q (Nat.lt_irrefl _)⟩ fun b o hbw _ e => hk' b o hbw e)))
    | some p =>
      obtain ⟨m, t⟩ := p
      show wpAny _ A.in1 (updateSeq S (fun _ => #[]) >>= _) _ _ _
      refine wpAny_bind (wpAny_updateSeq hS' rfl (wpAny_bind (wpAny_letGo (wpAny_pure ?_))) (by show (2 : Nat) ≤ _; decide))
      refine hR _ _ tk ⟨fun q => ?_, fun _ => ⟨m, t, rfl, hb⟩⟩ fun b o hbw hbS e => (Heap.get?_update_other _ _ (Ne.symm hbS)).trans (hk' b o hbw e)
      obtain ⟨⟨i, hi, _⟩, _⟩ := hb
      omega
  | k + 1, j, s, b, c, hk, hj, hst, hS, hb, hR => by
    have hlt : j < n := by omega
    have hSw : S ∉ wr := fun h => hSf (W.sub _ h)
    have hname : (toString "max" ++ toString ".loop" : String) = "max.loop" := by decide
    refine codeAny_builtin F.entry_max_loop ?_
    rw [Around.under_plainId F.plain_max_loop _]
    show wpAny _ A.in1 (seqItems? (.ref S) >>= _) _ _ s
    refine wpAny_bind (wpAny_seqItems hS rfl ?_)
    show wpAny _ A.in1 (tryCatch (pyNext (.ref I)) _ >>= _) _ _ s
    refine wpAny_bind (wpAny_tryCatch (W.item j s _ _ hlt hst fun v h' tk hv hst' hk' => ?_))
    have hS' := hk' S _ hSw hS
    obtain ⟨t, rfl⟩ := hP _ _ hv
    have turned : ∀ (g : Array Value → Array Value), (∀ b ∈ fp, ∀ o, h'.get? b = some o → (h'.update S (Obj.mapSeq g)).get? b = some o) := fun g b hbf o e => (Heap.get?_update_other _ _ (fun h : S = b => hSf (by rw [h]; exact hbf))).trans e
    cases b with
    | none =>
      cases hb
      show wpAny _ A.in1 (updateSeq S (fun _ => #[.int (f 0) t, .int (f 0) t]) >>= _) _ _ _
      refine wpAny_bind (wpAny_updateSeq hS' rfl ?_)
      rw [hname]
      refine wpAny_pure ⟨plainId_quiet F.plain_max_loop _, mxd_loop W f hP S hSf d k 1 _ (some (f 0, t)) (c + 1) (by omega) (by omega) (W.frame _ _ _ hst' (turned _)) ?_ ⟨⟨0, by omega, rfl⟩, fun i hi => ?_⟩ fun v' h'' tk'' ho hk'' => ?_⟩
      · exact (Heap.get?_update_self _ hS' rfl).trans rfl
      · rw [show i = 0 by omega]; exact Int.le_refl _
      exact hR v' h'' tk'' ho fun b o hbw hbS e => hk'' b o hbw hbS ((Heap.get?_update_other _ _ (Ne.symm hbS)).trans (hk' b o hbw e))
    | some p =>
      obtain ⟨m, u⟩ := p
      obtain ⟨⟨i0, hi0, e0⟩, hle⟩ := hb
      show wpAny _ A.in1 (tryCatch (holding [.int (f j) t, .int (f j) t] (richCompare .Gt (.int (f j) t) (.int m u) >>= _)) _ >>= _) _ _ _
      have hcmp := CmpOf.ints_gt (prog := prog) (w := w) (A := A.in1) (P := fun i v => ∃ t, v = .int (if i = 0 then f j else m) t) (fun i => if i = 0 then f j else m) (fun i v e => e)
      refine wpAny_bind (wpAny_tryCatch (wpAny_holding (wpAny_bind (hcmp 0 1 _ _ _ _ _ ⟨t, rfl⟩ ⟨u, rfl⟩ ?_))))
      refine wpAny_bind (wpAny_holding (wpAny_truthy_bool ?_))
      refine wpAny_bind (wpAny_letGo (wpAny_pure ?_))
      by_cases hb : f j > m
      · show wpAny _ _ (if decide (f j > m) = true then _ else _) _ _ _
        rw [if_pos (decide_eq_true hb)]
        refine wpAny_bind (wpAny_updateSeq hS' rfl (wpAny_bind (wpAny_letGo ?_)) (by show (2 : Nat) ≤ _; decide))
        rw [hname]
        obtain ⟨c', e'⟩ : ∃ c', (h'.update S (Obj.mapSeq fun _ => #[.int (f j) t, .int (f j) t])).get? S = some { cls := .type "list", dict := none, data := .seq #[.int (f j) t, .int (f j) t] c', slots := #[] } := ⟨_, Heap.get?_update_self _ hS' rfl⟩
        refine wpAny_pure ⟨plainId_quiet F.plain_max_loop _, mxd_loop W f hP S hSf d k (j + 1) _ (some (f j, t)) c' (by omega) hlt (W.frame _ _ _ hst' (turned _)) e' ⟨⟨j, by omega, rfl⟩, fun i hi => ?_⟩ fun v' h'' tk'' ho hk'' => ?_⟩
        · by_cases q : i = j
          · subst q; exact Int.le_refl _
          · have := hle i (by omega)
            omega
        · exact hR v' h'' tk'' ho fun b o hbw hbS e => hk'' b o hbw hbS ((Heap.get?_update_other _ _ (Ne.symm hbS)).trans (hk' b o hbw e))
      · show wpAny _ _ (if decide (f j > m) = true then _ else _) _ _ _
        rw [if_neg (by rw [decide_eq_false hb]; exact Bool.false_ne_true)]
        refine wpAny_bind (wpAny_letGo ?_)
        rw [hname]
        refine wpAny_pure ⟨plainId_quiet F.plain_max_loop _, mxd_loop W f hP S hSf d k (j + 1) _ (some (m, u)) c (by omega) hlt hst' hS' ⟨⟨i0, by omega, e0⟩, fun i hi => ?_⟩ fun v' h'' tk'' ho hk'' => hR v' h'' tk'' ho fun b o hbw hbS e => hk'' b o hbw hbS (hk' b o hbw e)⟩
        by_cases q : i = j
        · subst q; omega
        · exact hle i (by omega)
theorem mxd_call {E : Value → Shared → Prop} {s : Shared} {l : Addr} {xs : Array (Int × Tok)} {d : Value} {Q : Value → Shared → Prop} (hh : A.handled = none) (hl : s.heap.IsList l (intItems xs))
    (h : ∀ v h' tk, MaxOut (numAt xs) xs.size d v → (∀ b o, s.heap.get? b = some o → h'.get? b = some o) → Q v { s with heap := h', toks := tk }) :
    wpAny (model prog w) A (call (.builtin "max") [.ref l] [(Str.ofString "default", d)]) Q E s := by
  have hname : (toString "max" ++ toString ".loop" : String) = "max.loop" := by decide
  refine kmk_tree F.kind_max F.plain_max F.entry_max (mxd_args _ _) ?_
  show wpAny _ A.in1 (Builtin.Builtins.bindParams "max" ["key", "default"] 0 ⟨[], [(Str.ofString "default", d)]⟩ >>= _) _ _ s
  refine wpAny_bind (wpAny_of_eq (show Builtin.Builtins.bindParams "max" ["key", "default"] 0 ⟨[], [(Str.ofString "default", d)]⟩ = pure [none, some d] from rfl) ?_)
  refine wpAny_bind (wpAny_pure (wpAny_bind (iter_intList hl fun s₂ e st hfp hlI => ?_)))
  subst e
  refine wpAny_bind (wpAny_newObj_type ?_)
  rw [hname]
  have W := Walks.list (prog := prog) (w := w) (A := A.in1) hh s.heap.objs.size l hlI (intItems xs)
  have hsz : (intItems xs).size = xs.size := by simp [intItems]
  refine wpAny_pure ⟨plainId_quiet F.plain_max_loop _, mxd_loop W (numAt xs) (fun i v e => intItems_at e) _ (fun hm => Nat.lt_irrefl _ (hfp _ hm)) d _ 0 _ none 0 rfl (Nat.zero_le _) (W.frame _ _ _ st fun b _ o e => Heap.get?_push_of_some _ e) (Heap.get?_push_size _ rfl) rfl fun v h' tk ho hk => ?_⟩
  rw [hsz] at ho
  exact h v h' tk ho (old_kept fun b o hbw e => hk b o hbw (Nat.ne_of_lt (Heap.lt_size e)) (Heap.get?_push_of_some _ e))
end
section
variable {X : Cx}
/-  max(e, default=fe) -/
def tMaxD (K : PySem.W.Frag) (ta : TA) (tf : TE) : TE := fun σ H Q => ta σ H fun xs H1 => tf σ H1 fun y H2 =>
  ∃ (l : Addr) (ns : List Int) (z : Int), xs = [.ref l] ∧ y = .int z ∧ SqL K H2 l (ns.map V.int) ∧ ∀ m, (ns = [] → m = z) → (ns ≠ [] → m ∈ ns ∧ ∀ a ∈ ns, a ≤ m) → Q (.int m) H2
theorem pe_maxD {e fe : Expr} {ta : TA} {tf : TE} {p pos kp : Pos} (hc : X.calm = true) (hg : Gl X "max") (hm : X.mg "max" = none) (ha : PA X [e] ta) (hf : PE X fe tf)
    (he : backTo pos (starEach [e] X.env) = (false, eval e X.env) :: backTo pos (starEach [] X.env) := by rfl) :
    PE X (.Call (.Name "max" p) [e] [⟨some "default", fe, kp⟩] pos) (tMaxD X.K ta tf) := by
  intro pins s σ H Q I h
  refine wpAny_Call_Name_kw (ld_blt I hg hm bt_max ?_ (by decide) (by decide))
  refine callWith_kw (thn (ha pos pins s σ H _ I h) fun us s1 ⟨xs, H1, I1, r1, q1⟩ => ?_) he (by rw [he]; rfl) rfl rfl
  refine kws_cons (thn (hf pins s1 σ H1 _ I1 q1) fun fu s2 ⟨y, H2, I2, r2, q2⟩ => kws_nil ?_)
  obtain ⟨l, ns, z, rfl, rfl, hl, q⟩ := q2
  obtain ⟨u, rfl, ru⟩ := Vals.one r1
  cases ru
  obtain ⟨tz, rfl⟩ := r2
  obtain ⟨its, r', pl, hz⟩ := I2.list hl
  have hi := intsAre_of r'
  have hL := pl.isList
  have hn := hi.numsOf
  obtain ⟨ys, e⟩ := hi.allInts.items
  rw [e] at hL
  have e2 : numsOf its = numsOf (intItems ys).toList := by rw [← e]
  rw [e2, nums_intItems] at hn
  have hlen := congrArg List.length hn
  rw [List.length_map, Array.length_toList] at hlen
  show wpAny _ _ (call (.builtin "max") [.ref l] [(Str.ofString "default", .int z tz)]) _ _ s2
  refine mxd_call (I.ok.hd hc) hL fun v h' tk ho hk => ?_
  by_cases hne : ns = []
  · have h0 : ys.size = 0 := by rw [hlen, hne]; rfl
    have := ho.1 h0
    subst this
    exact ⟨.int z, H2, I2.kept (t' := tk) hk, ⟨tz, rfl⟩, q z (fun _ => rfl) fun x => absurd hne x⟩
  · have hpos : 0 < ns.length := List.length_pos_iff.mpr hne
    obtain ⟨m, t, rfl, ⟨i, hi', ei⟩, hle⟩ := ho.2 (by omega)
    refine ⟨.int m, H2, I2.kept (t' := tk) hk, ⟨t, rfl⟩, q m (fun x => absurd x hne) fun _ => ⟨?_, fun a ha' => ?_⟩⟩
    · rw [← hn, ← ei, numAt_eq]; exact getD_mem (by rw [List.length_map, Array.length_toList]; omega)
    · rw [← hn] at ha'
      obtain ⟨j, hj, rfl⟩ := mem_getD ha'
      rw [List.length_map, Array.length_toList] at hj
      rw [← numAt_eq]; exact hle j hj
/-  e[::st], st = -1, of a list -/
def tRevS (K : PySem.W.Frag) (te : TE) (ts : TO) : TE := fun σ H Q => te σ H fun x H1 => ts σ H1 fun o H2 => ∃ a xs, x = .ref a ∧ o = some (-1) ∧ SqL K H2 a xs ∧ ∀ p, H2 p = none → Q (.ref p) (upd H2 p (.lst xs.reverse))
theorem pe_revS {e : Expr} {te : TE} {st : Expr} {ts : TO} {pos p2 : Pos} (he : PE X e te) (hs : PO X (some st) ts) : PE X (.Subscript e (.Slice none none (some st) p2) pos) (tRevS X.K te ts) := by
  intro pins s σ H Q I h
  refine Subscript_ (thn (he pins s σ H _ I h) fun v s1 ⟨x, H1, I1, r1, q1⟩ => ?_)
  refine wpAny_Slice ?_
  rw [evalPart_none]
  refine wpAny_pure (wpAny_pure (thn (hs pins s1 σ H1 _ I1 q1) fun vk s3 ⟨o, H3, I3, pk, q3⟩ => ?_))
  obtain ⟨a, xs, rfl, rfl, hx, q⟩ := q3
  cases r1
  have I4 : Inv X pins σ H3 { s3 with heap := s3.heap.push { cls := .type "slice", data := .fields #[.none, .none, vk] } } := I3.kept (t' := s3.toks) fun b ob q => Heap.get?_push_of_some _ q
  obtain ⟨its, r, ht, hz⟩ := I4.list hx
  have hlen := r.length
  show wpAny (model X.prog X.w) X.A (subscriptTail e (.Slice none none (some st) p2) (.ref a) (.ref s3.heap.objs.size)) (EP X pins σ Q) X.xe { s3 with heap := s3.heap.push { cls := .type "slice", data := .fields #[.none, .none, vk] } }
  refine tail_any (ops := [.ref a, .ref s3.heap.objs.size]) ht.isList.typeIs slot_list_getitem.lookup ?_ (by with_unfolding_all rfl)
  refine wpAny_getItem_list_slice ht.isList (Heap.IsSliceOf.new ..) .none .none pk (by decide) ?_ (by rw [List.size_toArray] <;> omega)
  rw [krv_pick]
  refine ⟨.ref _, _, I4.laid (t' := s3.toks) (o := .lst xs.reverse) (fun b ob q => Heap.get?_push_of_some _ q) (Nat.le_refl _) ?_, rfl, q _ (I4.hok.fresh (Nat.le_refl _))⟩
  exact ⟨by rw [List.length_reverse]; exact hz, _, 0, r.reverse, Heap.get?_push_size _ rfl⟩
end
end L2

/-! defs with defaults -/
namespace L2
open PySem PySem.Spec PyProof.Rows PySem.W
structure FunD (K : PySem.W.Frag) (x qual : Str) (st : Stmt) (f : Addr) (fd : FuncData) (ds : List Value) : Prop where
  ex : ∃ (oc : Value) (od : Option Addr) (dT : Addr) (o : Obj) (n : Nat) (kV doc pm : Value) (an : Option Addr) (cdv ct : Value) (osl : Array (Option Value)),
    fd = PySem.W.fnOf x qual (defArgs st) (defBody st) (defScope st) (.ref dT) kV doc pm an cdv ct ∧ K.lookup f = some ⟨oc, od, .func fd, osl⟩ ∧ PySem.W.codeIn K cdv qual = true ∧ K.lookup dT = some o ∧ o.data = .seq ds.toArray n
  kp : PySem.W.keepIn K (.ref f) = true
section
variable {P : Program} {w : World} {K : PySem.W.Frag} {mg : Str → Option Value} {base : Heap}
theorem FunD.ok {x qual : Str} {st : Stmt} {f : Addr} {fd : FuncData} {ds : List Value} {N ps : List Str} {k : Nat} {sp : Sp} (F : FunD K x qual st f fd ds) (S : FnScope N ps (defScope st)) (len : ∀ vs H Q E, sp vs H Q E → vs.length = ps.length)
    (hbody : ∀ (cdv : Value) (A : Around) (outer : List Env) (s : Shared) (H : Hp) (vs : List V) (Q : VK) (E : XK), Room k (A.deeper (envOfC qual (defScope st) s.heap.objs.size f cdv)) → sp vs H Q E →
      ∃ t, PSs (cxOf CX0 P w K mg base N qual (defScope st) f cdv A outer s H E).nox (defBody st) t ∧ t { nx := fun _ H' => Q .non H', rt := Q } (start N vs) H) : FnOk P w K mg base CX0 (k + 1) f fd ps sp := by
  obtain ⟨oc, od, dT, o, n, kV, doc, pm, an, cdv, ct, osl, rfl, lk, hcd, _⟩ := F.ex
  refine fn_of lk hcd S len fun A outer s H vs Q E hr hsp => ?_
  obtain ⟨t, h, q⟩ := hbody cdv A outer s H vs Q E hr hsp
  exact ⟨t, h.nox, q⟩
/-  how its arguments bind, the last ones left out or not: h₁ and h₂ by rfl at each count -/
theorem FunD.binds {x qual : Str} {st : Stmt} {f : Addr} {fd : FuncData} {ps : List Str} {ds es : List Value} (F : FunD K x qual st f fd ds) (n : Nat) (hn : n + es.length = ps.length)
    (h : ∀ (dT : Addr) (kV doc pm : Value) (an : Option Addr) (cdv ct : Value) (us : List Value), us.length = n →
      ∃ k : Option (Array Value) → Sem (List (Str × Value)), bindArgs (PySem.W.fnOf x qual (defArgs st) (defBody st) (defScope st) (.ref dT) kV doc pm an cdv ct) ⟨us, []⟩ = seqItems? (.ref dT) >>= k ∧ k (some ds.toArray) = pure (ps.zip (us ++ es))) : Binds K fd ps es := by
  obtain ⟨oc, od, dT, o, n, kV, doc, pm, an, cdv, ct, osl, rfl, lk, hcd, ho, hs⟩ := F.ex
  intro s us X hl
  obtain ⟨k, h1, h2⟩ := h dT kV doc pm an cdv ct us (by rw [List.length_append] at hl; omega)
  exact binds_K X rfl ho hs h1 h2
theorem fund_mk {x qual : Str} {st : Stmt} {f dT : Addr} {oc : Value} {od an dod : Option Addr} {osl dsl : Array (Option Value)} {kV doc pm cdv ct dc : Value} {ds : List Value} {n : Nat} (l : K.lookup f = some ⟨oc, od, .func (PySem.W.fnOf x qual (defArgs st) (defBody st) (defScope st) (.ref dT) kV doc pm an cdv ct), osl⟩)
    (c : PySem.W.codeIn K cdv qual = true) (k : PySem.W.keepIn K (.ref f) = true) (d : K.lookup dT = some ⟨dc, dod, .seq ds.toArray n, dsl⟩) : FunD K x qual st f (PySem.W.fnOf x qual (defArgs st) (defBody st) (defScope st) (.ref dT) kV doc pm an cdv ct) ds :=
  ⟨⟨oc, od, dT, _, n, kV, doc, pm, an, cdv, ct, osl, rfl, l, c, d, rfl⟩, k⟩
end
end L2

namespace K36
open PySem PySem.Spec PyProof.Rows L2
/-! the text by places -/
def top (i : Nat) : Stmt := PySem.Challenge.pw_oneroom_k36_rows_found.main.body.getD i (.Pass ⟨0, 0, 0, 0⟩)
abbrev s_endings : Stmt := top 2
abbrev s_longest : Stmt := top 3
abbrev s_how_many_less : Stmt := top 4
abbrev s_agreeing : Stmt := top 5
abbrev s_Row_init : Stmt := inClass (top 7) 0
abbrev s_Take_init : Stmt := inClass (top 8) 0
abbrev s_Take_told : Stmt := inClass (top 8) 8
abbrev s_Put_init : Stmt := inClass (top 9) 0
abbrev s_Put_told : Stmt := inClass (top 9) 6
abbrev s_found : Stmt := top 11
abbrev s_rows_found : Stmt := top 12
abbrev s_put_ending_at : Stmt := top 13
abbrev s_cell_at : Stmt := top 15
abbrev s_draw : Stmt := top 16
abbrev s_digits : Stmt := top 17
abbrev s_elder : Stmt := top 18
abbrev s_newer : Stmt := top 19
abbrev s_alike : Stmt := top 20
abbrev s_law_longest : Stmt := top 21
abbrev s_put_is_right : Stmt := top 22
abbrev s_right : Stmt := top 23
abbrev s_law : Stmt := top 24
abbrev c_endings : Addr := 27
abbrev P_endings : Addr := 23
def qs_endings : List (Pos × Str) := [(⟨6, 40, 6, 60⟩, "endings.<locals>.<lambda>")]
structure Adr where
  f_endings : Addr
  d_endings : FuncData
  f_longest : Addr
  d_longest : FuncData
  f_how_many_less : Addr
  d_how_many_less : FuncData
  f_agreeing : Addr
  d_agreeing : FuncData
  f_Row_init : Addr
  d_Row_init : FuncData
  f_Take_init : Addr
  d_Take_init : FuncData
  f_Take_told : Addr
  d_Take_told : FuncData
  f_Put_init : Addr
  d_Put_init : FuncData
  f_Put_told : Addr
  d_Put_told : FuncData
  f_found : Addr
  d_found : FuncData
  u_found_0 : Tok
  f_rows_found : Addr
  d_rows_found : FuncData
  f_put_ending_at : Addr
  d_put_ending_at : FuncData
  f_cell_at : Addr
  d_cell_at : FuncData
  f_draw : Addr
  d_draw : FuncData
  f_digits : Addr
  d_digits : FuncData
  f_elder : Addr
  d_elder : FuncData
  f_newer : Addr
  d_newer : FuncData
  f_alike : Addr
  d_alike : FuncData
  f_law_longest : Addr
  d_law_longest : FuncData
  f_put_is_right : Addr
  d_put_is_right : FuncData
  f_right : Addr
  d_right : FuncData
  f_law : Addr
  d_law : FuncData
  C_Row : Addr
  C_Take : Addr
  C_Put : Addr
structure Txt (K : PySem.W.Frag) (mg : Str → Option Value) (a : Adr) : Prop where
  F_endings : Fun K "endings" "endings" s_endings a.f_endings a.d_endings
  b_endings : Binds K a.d_endings ["text"] []
  m_endings : mg "endings" = some (.ref a.f_endings)
  tk_endings : TabK K c_endings P_endings
  cd_endings : a.d_endings.code = .ref c_endings
  F_longest : Fun K "longest" "longest" s_longest a.f_longest a.d_longest
  b_longest : Binds K a.d_longest ["text", "table", "part"] []
  m_longest : mg "longest" = some (.ref a.f_longest)
  F_how_many_less : Fun K "how_many_less" "how_many_less" s_how_many_less a.f_how_many_less a.d_how_many_less
  b_how_many_less : Binds K a.d_how_many_less ["text", "table", "part"] []
  m_how_many_less : mg "how_many_less" = some (.ref a.f_how_many_less)
  F_agreeing : Fun K "agreeing" "agreeing" s_agreeing a.f_agreeing a.d_agreeing
  b_agreeing : Binds K a.d_agreeing ["text", "at", "part"] []
  m_agreeing : mg "agreeing" = some (.ref a.f_agreeing)
  F_Row_init : Fun K "__init__" "Row.__init__" s_Row_init a.f_Row_init a.d_Row_init
  b_Row_init : Binds K a.d_Row_init ["self", "to"] []
  F_Take_init : Fun K "__init__" "Take.__init__" s_Take_init a.f_Take_init a.d_Take_init
  b_Take_init : Binds K a.d_Take_init ["self", "to", "start", "count"] []
  F_Take_told : Fun K "told" "Take.told" s_Take_told a.f_Take_told a.d_Take_told
  b_Take_told : Binds K a.d_Take_told ["self"] []
  F_Put_init : Fun K "__init__" "Put.__init__" s_Put_init a.f_Put_init a.d_Put_init
  b_Put_init : Binds K a.d_Put_init ["self", "to", "signs"] []
  F_Put_told : Fun K "told" "Put.told" s_Put_told a.f_Put_told a.d_Put_told
  b_Put_told : Binds K a.d_Put_told ["self"] []
  F_found : FunD K "found" "found" s_found a.f_found a.d_found [.int 6 a.u_found_0]
  bd_found : Binds K a.d_found ["elder", "newer", "least"] [.int 6 a.u_found_0]
  b_found : Binds K a.d_found ["elder", "newer", "least"] []
  m_found : mg "found" = some (.ref a.f_found)
  F_rows_found : Fun K "rows_found" "rows_found" s_rows_found a.f_rows_found a.d_rows_found
  b_rows_found : Binds K a.d_rows_found ["elder", "newer", "least"] []
  m_rows_found : mg "rows_found" = some (.ref a.f_rows_found)
  F_put_ending_at : Fun K "put_ending_at" "put_ending_at" s_put_ending_at a.f_put_ending_at a.d_put_ending_at
  b_put_ending_at : Binds K a.d_put_ending_at ["end", "signs"] []
  m_put_ending_at : mg "put_ending_at" = some (.ref a.f_put_ending_at)
  F_cell_at : Fun K "_law_cell_at" "_law_cell_at" s_cell_at a.f_cell_at a.d_cell_at
  b_cell_at : Binds K a.d_cell_at ["_law_script", "_law_k"] []
  m_cell_at : mg "_law_cell_at" = some (.ref a.f_cell_at)
  F_draw : Fun K "_law_draw" "_law_draw" s_draw a.f_draw a.d_draw
  b_draw : Binds K a.d_draw ["_law_cell", "_law_k"] []
  m_draw : mg "_law_draw" = some (.ref a.f_draw)
  F_digits : Fun K "_law_digits" "_law_digits" s_digits a.f_digits a.d_digits
  b_digits : Binds K a.d_digits ["_law_cell", "_law_base", "_law_many"] []
  m_digits : mg "_law_digits" = some (.ref a.f_digits)
  F_elder : Fun K "_law_elder" "_law_elder" s_elder a.f_elder a.d_elder
  b_elder : Binds K a.d_elder ["_law_script"] []
  m_elder : mg "_law_elder" = some (.ref a.f_elder)
  F_newer : Fun K "_law_newer" "_law_newer" s_newer a.f_newer a.d_newer
  b_newer : Binds K a.d_newer ["_law_script", "_law_elder_here"] []
  m_newer : mg "_law_newer" = some (.ref a.f_newer)
  F_alike : Fun K "_law_alike" "_law_alike" s_alike a.f_alike a.d_alike
  b_alike : Binds K a.d_alike ["_law_text", "_law_at", "_law_part"] []
  m_alike : mg "_law_alike" = some (.ref a.f_alike)
  F_law_longest : Fun K "_law_longest" "_law_longest" s_law_longest a.f_law_longest a.d_law_longest
  b_law_longest : Binds K a.d_law_longest ["_law_elder_here", "_law_part"] []
  m_law_longest : mg "_law_longest" = some (.ref a.f_law_longest)
  F_put_is_right : Fun K "_law_put_is_right" "_law_put_is_right" s_put_is_right a.f_put_is_right a.d_put_is_right
  b_put_is_right : Binds K a.d_put_is_right ["_law_row", "_law_elder_here", "_law_newer_here", "_law_least"] []
  m_put_is_right : mg "_law_put_is_right" = some (.ref a.f_put_is_right)
  F_right : Fun K "_law_right" "_law_right" s_right a.f_right a.d_right
  b_right : Binds K a.d_right ["_law_rows", "_law_elder_here", "_law_newer_here", "_law_least"] []
  m_right : mg "_law_right" = some (.ref a.f_right)
  F_law : Fun K "law" "law" s_law a.f_law a.d_law
  b_law : Binds K a.d_law ["_law_script"] []
  m_Row : mg "Row" = some (.ref a.C_Row)
  c_Row : Cls K a.C_Row
  na_Row_count : NoAttr K a.C_Row "count"
  na_Row_to : NoAttr K a.C_Row "to"
  m_Take : mg "Take" = some (.ref a.C_Take)
  c_Take : Cls K a.C_Take
  na_Take_count : NoAttr K a.C_Take "count"
  na_Take_source : NoAttr K a.C_Take "source"
  na_Take_to : NoAttr K a.C_Take "to"
  mk_Take : Mk K a.C_Take a.f_Take_init
  m_Put : mg "Put" = some (.ref a.C_Put)
  c_Put : Cls K a.C_Put
  na_Put_count : NoAttr K a.C_Put "count"
  na_Put_signs : NoAttr K a.C_Put "signs"
  na_Put_to : NoAttr K a.C_Put "to"
  mk_Put : Mk K a.C_Put a.f_Put_init
  me_Put_told : Meth K a.C_Put "told" a.f_Put_told
  me_Take_told : Meth K a.C_Take "told" a.f_Take_told
  cm_Row_init : ClsM K a.C_Row "__init__" a.f_Row_init
  n_isinstance : mg "isinstance" = none
  n_len : mg "len" = none
  n_list : mg "list" = none
  n_max : mg "max" = none
  n_min : mg "min" = none
  n_range : mg "range" = none
  n_sorted : mg "sorted" = none
  n_tuple : mg "tuple" = none
theorem sc_endings : FnScope ["text"] ["text"] (defScope s_endings) := ⟨rfl, rfl, rfl, by decide +kernel, rfl, by decide +kernel, by decide +kernel⟩
theorem sc_longest : FnScope ["text", "table", "part", "less", "count", "beginning"] ["text", "table", "part"] (defScope s_longest) := ⟨rfl, rfl, rfl, by decide +kernel, rfl, by decide +kernel, by decide +kernel⟩
theorem sc_how_many_less : FnScope ["text", "table", "part", "low", "high", "middle"] ["text", "table", "part"] (defScope s_how_many_less) := ⟨rfl, rfl, rfl, by decide +kernel, rfl, by decide +kernel, by decide +kernel⟩
theorem sc_agreeing : FnScope ["text", "at", "part", "count"] ["text", "at", "part"] (defScope s_agreeing) := ⟨rfl, rfl, rfl, by decide +kernel, rfl, by decide +kernel, by decide +kernel⟩
theorem sc_Row_init : FnScope ["self", "to"] ["self", "to"] (defScope s_Row_init) := ⟨rfl, rfl, rfl, by decide +kernel, rfl, by decide +kernel, by decide +kernel⟩
theorem sc_Take_init : FnScope ["self", "to", "start", "count"] ["self", "to", "start", "count"] (defScope s_Take_init) := ⟨rfl, rfl, rfl, by decide +kernel, rfl, by decide +kernel, by decide +kernel⟩
theorem sc_Take_told : FnScope ["self"] ["self"] (defScope s_Take_told) := ⟨rfl, rfl, rfl, by decide +kernel, rfl, by decide +kernel, by decide +kernel⟩
theorem sc_Put_init : FnScope ["self", "to", "signs"] ["self", "to", "signs"] (defScope s_Put_init) := ⟨rfl, rfl, rfl, by decide +kernel, rfl, by decide +kernel, by decide +kernel⟩
theorem sc_Put_told : FnScope ["self"] ["self"] (defScope s_Put_told) := ⟨rfl, rfl, rfl, by decide +kernel, rfl, by decide +kernel, by decide +kernel⟩
theorem sc_found : FnScope ["elder", "newer", "least"] ["elder", "newer", "least"] (defScope s_found) := ⟨rfl, rfl, rfl, by decide +kernel, rfl, by decide +kernel, by decide +kernel⟩
theorem sc_rows_found : FnScope ["elder", "newer", "least", "table", "rows", "signs", "place", "best", "count"] ["elder", "newer", "least"] (defScope s_rows_found) := ⟨rfl, rfl, rfl, by decide +kernel, rfl, by decide +kernel, by decide +kernel⟩
theorem sc_put_ending_at : FnScope ["end", "signs"] ["end", "signs"] (defScope s_put_ending_at) := ⟨rfl, rfl, rfl, by decide +kernel, rfl, by decide +kernel, by decide +kernel⟩
theorem sc_cell_at : FnScope ["_law_script", "_law_k"] ["_law_script", "_law_k"] (defScope s_cell_at) := ⟨rfl, rfl, rfl, by decide +kernel, rfl, by decide +kernel, by decide +kernel⟩
theorem sc_draw : FnScope ["_law_cell", "_law_k", "_law_number"] ["_law_cell", "_law_k"] (defScope s_draw) := ⟨rfl, rfl, rfl, by decide +kernel, rfl, by decide +kernel, by decide +kernel⟩
theorem sc_digits : FnScope ["_law_cell", "_law_base", "_law_many", "_law_signs", "_law_k"] ["_law_cell", "_law_base", "_law_many"] (defScope s_digits) := ⟨rfl, rfl, rfl, by decide +kernel, rfl, by decide +kernel, by decide +kernel⟩
theorem sc_elder : FnScope ["_law_script", "_law_first", "_law_text", "_law_k", "_law_draw_here"] ["_law_script"] (defScope s_elder) := ⟨rfl, rfl, rfl, by decide +kernel, rfl, by decide +kernel, by decide +kernel⟩
theorem sc_newer : FnScope ["_law_script", "_law_elder_here", "_law_cell", "_law_text", "_law_k", "_law_draw_here", "_law_at", "_law_many"] ["_law_script", "_law_elder_here"] (defScope s_newer) := ⟨rfl, rfl, rfl, by decide +kernel, rfl, by decide +kernel, by decide +kernel⟩
theorem sc_alike : FnScope ["_law_text", "_law_at", "_law_part", "_law_many"] ["_law_text", "_law_at", "_law_part"] (defScope s_alike) := ⟨rfl, rfl, rfl, by decide +kernel, rfl, by decide +kernel, by decide +kernel⟩
theorem sc_law_longest : FnScope ["_law_elder_here", "_law_part", "_law_best", "_law_at", "_law_many"] ["_law_elder_here", "_law_part"] (defScope s_law_longest) := ⟨rfl, rfl, rfl, by decide +kernel, rfl, by decide +kernel, by decide +kernel⟩
theorem sc_put_is_right : FnScope ["_law_row", "_law_elder_here", "_law_newer_here", "_law_least", "_law_to", "_law_k"] ["_law_row", "_law_elder_here", "_law_newer_here", "_law_least"] (defScope s_put_is_right) := ⟨rfl, rfl, rfl, by decide +kernel, rfl, by decide +kernel, by decide +kernel⟩
theorem sc_right : FnScope ["_law_rows", "_law_elder_here", "_law_newer_here", "_law_least", "_law_at", "_law_word", "_law_row", "_law_best"] ["_law_rows", "_law_elder_here", "_law_newer_here", "_law_least"] (defScope s_right) := ⟨rfl, rfl, rfl, by decide +kernel, rfl, by decide +kernel, by decide +kernel⟩
theorem sc_law : FnScope ["_law_script", "_law_elder_here", "_law_newer_here", "_law_handed", "_law_least", "_law_rows", "_law_kept"] ["_law_script"] (defScope s_law) := ⟨rfl, rfl, rfl, by decide +kernel, rfl, by decide +kernel, by decide +kernel⟩
/-! rows as data -/
def takeF (to st c : Int) : List (Str × V) := [("to", .int to), ("count", .int c), ("source", .int st)]
def putFs (to : Int) (t : Addr) (n : Int) : List (Str × V) := [("to", .int to), ("count", .int n), ("signs", .ref t)]
def rngI (lo : Int) (n : Nat) : List Int := (List.range n).map fun (i : Nat) => lo + (i : Int)
theorem rngV_eq (lo : Int) (n : Nat) : rngV lo n = (rngI lo n).map V.int := by simp [rngV, rngI, Function.comp_def]
theorem rngI_length (lo : Int) (n : Nat) : (rngI lo n).length = n := by simp [rngI]
theorem mem_rngI {x lo : Int} {n : Nat} : x ∈ rngI lo n ↔ lo ≤ x ∧ x < lo + n := by
  unfold rngI
  rw [List.mem_map]
  constructor
  · rintro ⟨i, hi, rfl⟩
    have := List.mem_range.mp hi
    omega
  · rintro ⟨h1, h2⟩
    exact ⟨(x - lo).toNat, List.mem_range.mpr (by omega), by omega⟩
inductive RowD where
  | take (to st c : Int)
  | put (to : Int) (sg : List Int)
def RowD.isTake : RowD → Bool
  | .take .. => true
  | .put .. => false
/-- the row's tuple -/
def TupAt (K : PySem.W.Frag) (H : Hp) (t : Addr) : RowD → Prop
  | .take to st c => H t = some (.tup [.str "take", .int to, .int st, .int c])
  | .put to sg => ∃ u, H t = some (.tup [.str "put", .int to, .ref u]) ∧ H u = some (.tup (sg.map V.int))
theorem TupAt.same {K : PySem.W.Frag} {H H' : Hp} {t : Addr} {r : RowD} (h : TupAt K H t r) (s : Same H H') : TupAt K H' t r := by
  cases r with
  | take to st c => exact s.at h
  | put to sg => obtain ⟨u, h1, h2⟩ := h; exact ⟨u, s.at h1, s.at h2⟩
/-- the row's tuple, made behind H -/
def TupNew (H H' : Hp) (t : Addr) : RowD → Prop
  | .take to st c => H t = none ∧ H' t = some (.tup [.str "take", .int to, .int st, .int c])
  | .put to sg => H t = none ∧ ∃ u, H' t = some (.tup [.str "put", .int to, .ref u]) ∧ H u = none ∧ H' u = some (.tup (sg.map V.int))
theorem TupNew.at {K : PySem.W.Frag} {H H' H6 : Hp} {t : Addr} {r : RowD} (h : TupNew H H' t r) (k : ∀ p o, (H p = none ∨ ∀ ys, o ≠ HO.lst ys) → H' p = some o → H6 p = some o) : TupAt K H6 t r := by
  cases r with
  | take to st c => exact k _ _ (.inl h.1) h.2
  | put to sg => obtain ⟨h0, u, h1, h2, h3⟩ := h; exact ⟨u, k _ _ (.inl h0) h1, k _ _ (.inl h2) h3⟩
/-- the row's object -/
def ObjAt (K : PySem.W.Frag) (a : Adr) (H : Hp) (o : Addr) : RowD → Prop
  | .take to st c => ∃ dx, H o = some (.ins a.C_Take dx (takeF to st c))
  | .put to sg => ∃ dx u, H o = some (.ins a.C_Put dx (putFs to u sg.length)) ∧ H u = some (.tup (sg.map V.int))
theorem ObjAt.same {K : PySem.W.Frag} {a : Adr} {H H' : Hp} {o : Addr} {r : RowD} (h : ObjAt K a H o r) (s : Same H H') : ObjAt K a H' o r := by
  cases r with
  | take to st c => obtain ⟨dx, h⟩ := h; exact ⟨dx, s.at h⟩
  | put to sg => obtain ⟨dx, u, h1, h2⟩ := h; exact ⟨dx, u, s.at h1, s.at h2⟩
theorem ObjAt.mv {K : PySem.W.Frag} {a : Adr} {H H' H6 : Hp} {o : Addr} {r : RowD} (h : ObjAt K a H' o r) (k : ∀ p o, (H p = none ∨ ∀ ys, o ≠ HO.lst ys) → H' p = some o → H6 p = some o) : ObjAt K a H6 o r := by
  cases r with
  | take to st c => obtain ⟨dx, h⟩ := h; exact ⟨dx, k _ _ (.inr fun ys z => by cases z) h⟩
  | put to sg => obtain ⟨dx, u, h1, h2⟩ := h; exact ⟨dx, u, k _ _ (.inr fun ys z => by cases z) h1, k _ _ (.inr fun ys z => by cases z) h2⟩
theorem TupAt.mv {K : PySem.W.Frag} {H H' H6 : Hp} {t : Addr} {r : RowD} (h : TupAt K H' t r) (k : ∀ p o, (H p = none ∨ ∀ ys, o ≠ HO.lst ys) → H' p = some o → H6 p = some o) : TupAt K H6 t r := by
  cases r with
  | take to st c => exact k _ _ (.inr fun ys z => by cases z) h
  | put to sg => obtain ⟨u, h1, h2⟩ := h; exact ⟨u, k _ _ (.inr fun ys z => by cases z) h1, k _ _ (.inr fun ys z => by cases z) h2⟩
def RowD.ok : RowD → Prop
  | .take to st c => 0 ≤ to ∧ 0 ≤ st ∧ 1 ≤ c
  | .put to sg => 0 ≤ to ∧ sg ≠ [] ∧ sg.length ≤ 100000 ∧ ∀ x ∈ sg, (x.natAbs : Int) < 10 ^ 60
def RowD.dat : RowD → PyData
  | .take to st c => .tuple [.str "take", .int to, .int st, .int c]
  | .put to sg => .tuple [.str "put", .int to, .tuple (sg.map PyData.int)]
theorem rps_ints {K : PySem.W.Frag} {H : Hp} : ∀ xs : List Int, Rps K H (xs.map V.int) (xs.map PyData.int)
  | [] => .nil
  | x :: xs => .cons (.int x) (rps_ints xs)
theorem TupAt.rp {K : PySem.W.Frag} {H : Hp} {t : Addr} {r : RowD} (h : TupAt K H t r) : Rp K H (.ref t) r.dat := by
  cases r with
  | take to st c => exact .tup (SqT.of h) (.cons (.str _) (.cons (.int _) (.cons (.int _) (.cons (.int _) .nil))))
  | put to sg => obtain ⟨u, h1, h2⟩ := h; exact .tup (SqT.of h1) (.cons (.str _) (.cons (.int _) (.cons (.tup (SqT.of h2) (rps_ints sg)) .nil)))
theorem dat_can (r : RowD) : PyData.canLay0 r.dat = true := by
  cases r with
  | take to st c => simp [RowD.dat, PyData.canLay0, PyData.canLayAll0]; decide +kernel
  | put to sg => simp [RowD.dat, PyData.canLay0, PyData.canLayAll0, PySem.W.ke_canLayAll0 sg]; decide +kernel
theorem dat_depth (r : RowD) : PyData.depth r.dat ≤ 2 := by
  cases r with
  | take to st c => simp [RowD.dat, PyData.depth, PyData.depthAll]
  | put to sg => simp [RowD.dat, PyData.depth, PyData.depthAll, PySem.W.ke_depthAll sg]
theorem dats_can : ∀ rs : List RowD, PyData.canLayAll0 (rs.map RowD.dat) = true
  | [] => by simp [PyData.canLayAll0]
  | x :: r => by simp only [List.map_cons, PyData.canLayAll0, dat_can, dats_can r, Bool.and_true]
theorem dats_depth : ∀ rs : List RowD, PyData.depthAll (rs.map RowD.dat) ≤ 2
  | [] => by simp [PyData.depthAll]
  | x :: r => by
    simp only [List.map_cons, PyData.depthAll]
    have := dat_depth x
    have := dats_depth r
    omega
theorem dats_shaped (rs : List RowD) : SeqAt.shaped (.list (rs.map RowD.dat)) = true := by
  unfold SeqAt.shaped
  have h1 : PyData.canLay0 (.list (rs.map RowD.dat)) = true := by unfold PyData.canLay0; exact dats_can rs
  have h2 : PyData.depth (.list (rs.map RowD.dat)) ≤ 64 := by unfold PyData.depth; have := dats_depth rs; omega
  rw [h1, decide_eq_true h2]; rfl
/-- a list of rows' tuples, of rows' objects -/
def TupsAt (K : PySem.W.Frag) (H : Hp) (l : Addr) (rs : List RowD) : Prop := ∃ ts : List Addr, SqL K H l (ts.map V.ref) ∧ Paired (TupAt K H) ts rs
def ObjsAt (K : PySem.W.Frag) (a : Adr) (H : Hp) (l : Addr) (rs : List RowD) : Prop := ∃ ts : List Addr, SqL K H l (ts.map V.ref) ∧ Paired (ObjAt K a H) ts rs
theorem TupsAt.same {K : PySem.W.Frag} {H H' : Hp} {l : Addr} {rs : List RowD} (h : TupsAt K H l rs) (s : Same H H') : TupsAt K H' l rs := by
  obtain ⟨ts, h1, h2⟩ := h; exact ⟨ts, s.seq h1, L2.Paired.imp' (fun _ _ z => z.same s) h2⟩
theorem ObjsAt.same {K : PySem.W.Frag} {a : Adr} {H H' : Hp} {l : Addr} {rs : List RowD} (h : ObjsAt K a H l rs) (s : Same H H') : ObjsAt K a H' l rs := by
  obtain ⟨ts, h1, h2⟩ := h; exact ⟨ts, s.seq h1, L2.Paired.imp' (fun _ _ z => z.same s) h2⟩
theorem tups_rp {K : PySem.W.Frag} {H : Hp} : ∀ {ts : List Addr} {rs : List RowD}, Paired (TupAt K H) ts rs → Rps K H (ts.map V.ref) (rs.map RowD.dat)
  | _, _, .nil => .nil
  | _, _, .cons x xs => .cons x.rp (tups_rp xs)
theorem TupsAt.rp {K : PySem.W.Frag} {H : Hp} {l : Addr} {rs : List RowD} (h : TupsAt K H l rs) : Rp K H (.ref l) (.list (rs.map RowD.dat)) := by
  obtain ⟨ts, h1, h2⟩ := h
  exact .lst h1 (tups_rp h2)
theorem sqT_wr {K : PySem.W.Frag} {H : Hp} {t p C dx : Addr} {xs : List V} {fs : List (Str × V)} {o : HO} (h : SqT K H t xs) (hp : H p = some (.ins C dx fs)) : SqT K (upd H p o) t xs := by
  rcases h with (h | ⟨ob, h⟩) | h
  · exact .inl (.inl (by rw [upd_ne (ne_of h hp (by intro z; cases z))]; exact h))
  · exact .inl (.inr ⟨ob, by rw [upd_ne (ne_of h hp (by intro z; cases z))]; exact h⟩)
  · exact .inr h
/-! the promises -/
def sp_Row_init (K : PySem.W.Frag) : Sp := fun vs H Q _ => ∃ (p C dx : Addr) (to : Int), vs = [.ref p, .int to] ∧ H p = some (.ins C dx []) ∧ Cls K C ∧ NoAttr K C "to" ∧ NoAttr K C "count" ∧ Q .non (upd H p (.ins C dx [("to", .int to), ("count", .int 0)]))
def sp_Take_init (a : Adr) : Sp := fun vs H Q _ => ∃ (p dx : Addr) (to st c : Int), vs = [.ref p, .int to, .int st, .int c] ∧ H p = some (.ins a.C_Take dx []) ∧ Q .non (upd H p (.ins a.C_Take dx (takeF to st c)))
def sp_Put_init (K : PySem.W.Frag) (a : Adr) : Sp := fun vs H Q _ => ∃ (p dx t : Addr) (to : Int) (xs : List V), vs = [.ref p, .int to, .ref t] ∧ H p = some (.ins a.C_Put dx []) ∧ SqT K H t xs ∧ Q .non (upd H p (.ins a.C_Put dx (putFs to t xs.length)))
/-- a new list of the ints ns -/
def newL (H : Hp) (Q : VK) (ns : List Int) : Prop := ∀ (l : Addr) (H' : Hp), Same H H' → H l = none → H' l = some (.lst (ns.map V.int)) → Q (.ref l) H'
def sp_stays (a : Adr) : Sp := fun vs H Q _ => ∃ (p dx : Addr) (to st c : Int), vs = [.ref p] ∧ H p = some (.ins a.C_Take dx (takeF to st c)) ∧ Q (.bl (decide (st = to))) H
def sp_is_whole : Sp := fun vs H Q _ => ∃ i : Int, vs = [.int i] ∧ Q (.bl true) H
def sp_is_whole_from : Sp := fun vs H Q _ => ∃ l i : Int, vs = [.int l, .int i] ∧ Q (.bl (decide (l ≤ i))) H
def sp_is_sign : Sp := fun vs H Q _ => ∃ i : Int, vs = [.int i] ∧ (i.natAbs : Int) < 10 ^ 60 ∧ Q (.bl true) H
def sp_are_signs (K : PySem.W.Frag) : Sp := fun vs H Q _ => ∃ (u : Addr) (sg : List Int), vs = [.ref u] ∧ H u = some (.tup (sg.map V.int)) ∧ sg ≠ [] ∧ sg.length ≤ 100000 ∧ (∀ x ∈ sg, (x.natAbs : Int) < 10 ^ 60) ∧ ∀ H', Same H H' → Q (.bl true) H'
def sp_tells_take (K : PySem.W.Frag) : Sp := fun vs H Q _ => ∃ (t : Addr) (r : RowD), vs = [.ref t] ∧ TupAt K H t r ∧ r.ok ∧ Q (.bl r.isTake) H
def sp_tells_put (K : PySem.W.Frag) : Sp := fun vs H Q _ => ∃ (t : Addr) (to : Int) (sg : List Int), vs = [.ref t] ∧ TupAt K H t (.put to sg) ∧ RowD.ok (.put to sg) ∧ ∀ H', Same H H' → Q (.bl true) H'
def sp_row_of (K : PySem.W.Frag) (a : Adr) : Sp := fun vs H Q _ => ∃ (t : Addr) (r : RowD), vs = [.ref t] ∧ TupAt K H t r ∧ r.ok ∧ ∀ (o : Addr) (H' : Hp), Same H H' → H o = none → ObjAt K a H' o r → Q (.ref o) H'
def sp_Ttold (a : Adr) : Sp := fun vs H Q _ => ∃ (o dx : Addr) (to st c : Int), vs = [.ref o] ∧ H o = some (.ins a.C_Take dx (takeF to st c)) ∧ ∀ t, H t = none → Q (.ref t) (upd H t (.tup [.str "take", .int to, .int st, .int c]))
def sp_Ptold (a : Adr) : Sp := fun vs H Q _ => ∃ (o dx u : Addr) (to n : Int), vs = [.ref o] ∧ H o = some (.ins a.C_Put dx (putFs to u n)) ∧ ∀ t, H t = none → Q (.ref t) (upd H t (.tup [.str "put", .int to, .ref u]))
/-! endings -/
theorem lex_irr : ∀ xs : List Int, HT.lexLt xs xs = false
  | [] => rfl
  | x :: xs => by rw [HT.lexLt_cons, if_pos rfl]; exact lex_irr xs
theorem lex_tr : ∀ {xs ys zs : List Int}, HT.lexLt xs ys = true → HT.lexLt ys zs = true → HT.lexLt xs zs = true
  | [], [], _, h, _ => by cases h
  | _ :: _, [], _, h, _ => by cases h
  | [], _ :: _, [], _, h => by cases h
  | [], _ :: _, _ :: _, _, _ => rfl
  | _ :: _, _ :: _, [], _, h => by cases h
  | x :: xs, y :: ys, z :: zs, h1, h2 => by
    rw [HT.lexLt_cons] at h1 h2 ⊢
    split at h1
    · rename_i e1
      subst e1
      split at h2
      · rename_i e2; rw [if_pos e2]; exact lex_tr h1 h2
      · rename_i e2; rw [if_neg e2]; exact h2
    · rename_i e1
      have g1 := of_decide_eq_true h1
      split at h2
      · rename_i e2; subst e2; rw [if_neg e1]; exact h1
      · have g2 := of_decide_eq_true h2
        rw [if_neg (by omega)]
        exact decide_eq_true (by omega)
theorem lex_tot : ∀ {xs ys : List Int}, xs.length ≠ ys.length → HT.lexLt xs ys = true ∨ HT.lexLt ys xs = true
  | [], [], h => absurd rfl h
  | [], _ :: _, _ => .inl rfl
  | _ :: _, [], _ => .inr rfl
  | x :: xs, y :: ys, h => by
    rw [HT.lexLt_cons, HT.lexLt_cons]
    by_cases e : x = y
    · rw [if_pos e, if_pos e.symm]
      exact lex_tot (by simpa using h)
    · rw [if_neg e, if_neg (fun z => e z.symm)]
      rcases Int.lt_or_lt_of_ne e with z | z
      · exact .inl (decide_eq_true z)
      · exact .inr (decide_eq_true z)
theorem end_sto (es : List Int) : STO (fun i j => HT.lexLt (es.drop i) (es.drop j)) es.length where
  irr := fun i _ => lex_irr _
  tr := fun i j k _ _ _ h1 h2 => lex_tr h1 h2
  tot := fun i j hi hj hne => lex_tot (by rw [List.length_drop, List.length_drop]; omega)
/-- the table of endings -/
def IsTab (es : List Int) (p : List Nat) : Prop := p.Perm (List.range es.length) ∧ p.Pairwise fun i j => HT.lexLt (es.drop i) (es.drop j) = true
theorem sorted_uniq {lt : Nat → Nat → Bool} (asy : ∀ i j, lt i j = true → lt j i = true → False) : ∀ {p q : List Nat}, p.Perm q → p.Pairwise (fun i j => lt i j = true) → q.Pairwise (fun i j => lt i j = true) → p = q
  | [], q, h, _, _ => (List.nil_perm.mp h).symm
  | x :: p, [], h, _, _ => absurd h.length_eq (by simp)
  | x :: p, y :: q, h, h1, h2 => by
    have e : x = y := by
      by_cases e : x = y
      · exact e
      · exfalso
        have hx : x ∈ y :: q := h.mem_iff.mp List.mem_cons_self
        have hy : y ∈ x :: p := h.mem_iff.mpr List.mem_cons_self
        have hx' : x ∈ q := (List.mem_cons.mp hx).resolve_left e
        have hy' : y ∈ p := (List.mem_cons.mp hy).resolve_left (fun z => e z.symm)
        exact asy x y ((List.pairwise_cons.mp h1).1 y hy') ((List.pairwise_cons.mp h2).1 x hx')
    subst e
    rw [sorted_uniq asy (List.perm_cons x |>.mp h) (List.pairwise_cons.mp h1).2 (List.pairwise_cons.mp h2).2]
theorem IsTab.uniq {es : List Int} {p q : List Nat} (hp : IsTab es p) (hq : IsTab es q) : p = q :=
  sorted_uniq (lt := fun i j => HT.lexLt (es.drop i) (es.drop j)) (fun i j h1 h2 => by have := lex_tr h1 h2; rw [lex_irr] at this; cases this) (hp.1.trans hq.1.symm) hp.2 hq.2
abbrev e_lam : Expr := kwVal (retVal ((defBody s_endings).getD 0 (.Pass ⟨0, 0, 0, 0⟩)))
theorem sc_lam : CloScope ["at", "text"] ["at"] ["text"] (lamScope e_lam) := ⟨rfl, rfl, rfl, by decide +kernel, rfl, by decide +kernel, by decide +kernel, by decide +kernel⟩
def sp_lam : List (Str × V) → Sp := fun fv vs H Q _ => ∃ (e : Addr) (es : List Int) (i : Int), fv = ([("text", .ref e)] : List (Str × V)) ∧ vs = [.int i] ∧ H e = some (.lst (es.map V.int)) ∧ 0 ≤ i ∧ ∀ d, H d = none → Q (.ref d) (upd H d (.lst ((es.drop i.toNat).map V.int)))
def sp_endings : Sp := fun vs H Q _ => ∃ (e : Addr) (es : List Int), vs = [.ref e] ∧ H P_endings = some (.tbl qs_endings) ∧ H e = some (.lst (es.map V.int)) ∧ es.length < 64 ∧ ∀ (l : Addr) (p : List Nat) (H' : Hp), Same H H' → H l = none → H' l = some (.lst (p.map fun (i : Nat) => V.int i)) → IsTab es p → Q (.ref l) H'
/-! the longest beginning that stands -/
def lcp : List Int → List Int → Nat
  | x :: xs, y :: ys => if x = y then lcp xs ys + 1 else 0
  | _, _ => 0
theorem lcp_nil (xs : List Int) : lcp xs [] = 0 := by cases xs <;> rfl
theorem lcp_cons (x y : Int) (xs ys : List Int) : lcp (x :: xs) (y :: ys) = if x = y then lcp xs ys + 1 else 0 := rfl
theorem lcp_le : ∀ xs ys : List Int, lcp xs ys ≤ ys.length
  | [], _ => Nat.zero_le _
  | _ :: _, [] => Nat.le_refl _
  | x :: xs, y :: ys => by
    rw [lcp_cons]
    have := lcp_le xs ys
    split <;> simp <;> omega
theorem lcp_up : ∀ {a b c : List Int}, HT.lexLt a b = true → HT.lexLt b c = true → lcp a c ≤ lcp b c
  | [], _, _, _, _ => Nat.zero_le _
  | _ :: _, [], _, h, _ => by cases h
  | _ :: _, _ :: _, [], _, h => by cases h
  | x :: a, y :: b, z :: c, h1, h2 => by
    rw [HT.lexLt_cons] at h1 h2
    rw [lcp_cons, lcp_cons]
    by_cases e : x = z
    · subst e
      rw [if_pos rfl]
      by_cases e1 : x = y
      · subst e1
        rw [if_pos rfl] at h1 h2 ⊢
        have := lcp_up h1 h2
        omega
      · rw [if_neg e1] at h1
        rw [if_neg (fun q => e1 q.symm)] at h2
        have := of_decide_eq_true h1
        have := of_decide_eq_true h2
        omega
    · rw [if_neg e]
      exact Nat.zero_le _
theorem lcp_down : ∀ {a b c : List Int}, HT.lexLt b a = true → HT.lexLt b c = false → lcp a c ≤ lcp b c
  | [], _, _, _, _ => Nat.zero_le _
  | _ :: _, _, [], _, _ => Nat.zero_le _
  | _ :: _, [], _ :: _, _, h => by cases h
  | x :: a, y :: b, z :: c, h1, h2 => by
    rw [HT.lexLt_cons] at h1 h2
    rw [lcp_cons, lcp_cons]
    by_cases e : x = z
    · subst e
      rw [if_pos rfl]
      by_cases e1 : y = x
      · subst e1
        rw [if_pos rfl] at h1 h2 ⊢
        have := lcp_down h1 h2
        omega
      · rw [if_neg e1] at h1 h2
        rw [h1] at h2
        cases h2
    · rw [if_neg e]
      exact Nat.zero_le _
theorem lcp_take : ∀ {m : Nat} {xs ys : List Int}, m ≤ ys.length → (xs.take m = ys.take m ↔ m ≤ lcp xs ys)
  | 0, xs, ys, _ => by simp
  | m + 1, xs, [], h => by simp at h
  | m + 1, [], y :: ys, _ => by simp [lcp]
  | m + 1, x :: xs, y :: ys, h => by
    have := lcp_take (m := m) (xs := xs) (ys := ys) (by simpa using h)
    rw [List.take_succ_cons, List.take_succ_cons, lcp_cons]
    by_cases e : x = y
    · subst e
      rw [if_pos rfl]
      simp [this]
    · rw [if_neg e]
      simp [e]
/-- one step of the walk that counts -/
theorem lcp_step {xs ys : List Int} {k : Nat} (hk : xs.take k = ys.take k) (h1 : k < xs.length) (h2 : k < ys.length) : (xs[k] = ys[k] ↔ xs.take (k + 1) = ys.take (k + 1)) := by
  rw [List.take_succ_eq_append_getElem h1, List.take_succ_eq_append_getElem h2, hk]
  refine ⟨fun e => by rw [e], fun e => ?_⟩
  have := List.append_cancel_left e
  simpa using this
theorem lcp_stop {xs ys : List Int} {k : Nat} (hk : xs.take k = ys.take k) (hy : k ≤ ys.length) (hn : k < xs.length → k < ys.length → xs.take (k + 1) ≠ ys.take (k + 1)) (hx : k ≤ xs.length) : lcp xs ys = k := by
  have h1 := (lcp_take hy).mp hk
  by_cases h : lcp xs ys ≤ k
  · omega
  · have hl := lcp_le xs ys
    have h2 := (lcp_take (m := k + 1) (xs := xs) (ys := ys) (by omega)).mpr (by omega)
    have hlen := congrArg List.length h2
    rw [List.length_take, List.length_take] at hlen
    exact absurd h2 (hn (by omega) (by omega))
/-- how many endings of the table are less than the part -/
def IsLess (es : List Int) (p : List Nat) (ps : List Int) (L : Nat) : Prop := L ≤ p.length ∧ (∀ i, i < L → HT.lexLt (es.drop (p.getD i 0)) ps = true) ∧ ∀ i, L ≤ i → i < p.length → HT.lexLt (es.drop (p.getD i 0)) ps = false
theorem tab_lt {es : List Int} {p : List Nat} (hp : IsTab es p) {i j : Nat} (h : i < j) (hj : j < p.length) : HT.lexLt (es.drop (p.getD i 0)) (es.drop (p.getD j 0)) = true := by
  have := List.pairwise_iff_getElem.mp hp.2 i j (by omega) hj h
  simp only [List.getD, List.getElem?_eq_getElem hj, List.getElem?_eq_getElem (show i < p.length by omega), Option.getD_some]
  exact this
/-- the stretch of the table around that place -/
def around (p : List Nat) (L : Nat) : List Nat := (p.drop (L - 1)).take (L + 1 - (L - 1))
theorem around_mem {p : List Nat} {L j : Nat} (h1 : L - 1 ≤ j) (h2 : j ≤ L) (h3 : j < p.length) : p.getD j 0 ∈ around p L := by
  unfold around
  refine List.mem_of_getElem? (i := j - (L - 1)) ?_
  rw [List.getElem?_take, if_pos (by omega), List.getElem?_drop, show L - 1 + (j - (L - 1)) = j by omega, List.getElem?_eq_getElem h3]
  simp [List.getD, h3]
theorem around_best {es : List Int} {p : List Nat} {ps : List Int} {L : Nat} (hp : IsTab es p) (hL : IsLess es p ps L) {i : Nat} (hi : i < es.length) : ∃ b ∈ around p L, lcp (es.drop i) ps ≤ lcp (es.drop b) ps := by
  obtain ⟨j, hj, e⟩ := List.mem_iff_getElem.mp (hp.1.mem_iff.mpr (List.mem_range.mpr hi))
  have ej : p.getD j 0 = i := by simp [List.getD, hj, e]
  obtain ⟨h0, h1, h2⟩ := hL
  by_cases h : j < L
  · refine ⟨p.getD (L - 1) 0, around_mem (Nat.le_refl _) (by omega) (by omega), ?_⟩
    by_cases q : j = L - 1
    · rw [← q, ej]; exact Nat.le_refl _
    · have a1 := tab_lt hp (show j < L - 1 by omega) (by omega)
      rw [ej] at a1
      exact lcp_up a1 (h1 _ (by omega))
  · refine ⟨p.getD L 0, around_mem (by omega) (Nat.le_refl _) (by omega), ?_⟩
    by_cases q : j = L
    · rw [← q, ej]; exact Nat.le_refl _
    · have a1 := tab_lt hp (show L < j by omega) hj
      rw [ej] at a1
      exact lcp_down a1 (h2 _ (Nat.le_refl _) (by omega))
theorem around_in {es : List Int} {p : List Nat} {L b : Nat} (hp : IsTab es p) (h : b ∈ around p L) : b < es.length :=
  List.mem_range.mp (hp.1.mem_iff.mp (List.mem_of_mem_drop (List.mem_of_mem_take h)))
/-- among the first n places: the first one where the longest beginning stands, and how long it is -/
def IsBest (es ps : List Int) (n a c : Nat) : Prop := (∀ i, i < n → lcp (es.drop i) ps ≤ c) ∧ ((c = 0 ∧ a = 0) ∨ (0 < c ∧ a < n ∧ lcp (es.drop a) ps = c ∧ ∀ i, i < a → lcp (es.drop i) ps < c))
theorem IsBest.uniq {es ps : List Int} {n a c a' c' : Nat} (h : IsBest es ps n a c) (h' : IsBest es ps n a' c') : a = a' ∧ c = c' := by
  obtain ⟨h1, h2⟩ := h
  obtain ⟨g1, g2⟩ := h'
  rcases h2 with ⟨rfl, rfl⟩ | ⟨h2, h3, h4, h5⟩
  · rcases g2 with ⟨rfl, rfl⟩ | ⟨g2, g3, g4, g5⟩
    · exact ⟨rfl, rfl⟩
    · have := h1 a' g3; omega
  · rcases g2 with ⟨rfl, rfl⟩ | ⟨g2, g3, g4, g5⟩
    · have := g1 a h3; omega
    · have b1 := h1 a' g3
      have b2 := g1 a h3
      have ec : c = c' := by omega
      refine ⟨?_, ec⟩
      by_cases q : a = a'
      · exact q
      · exfalso
        rcases Nat.lt_or_gt_of_ne q with z | z
        · have := g5 a z; omega
        · have := h5 a' z; omega
theorem IsBest.zero (es ps : List Int) : IsBest es ps 0 0 0 := ⟨fun i h => absurd h (Nat.not_lt_zero _), .inl ⟨rfl, rfl⟩⟩
theorem IsBest.more {es ps : List Int} {n a c : Nat} (h : IsBest es ps n a c) (hm : c < lcp (es.drop n) ps) : IsBest es ps (n + 1) n (lcp (es.drop n) ps) := by
  refine ⟨fun i hi => ?_, .inr ⟨by omega, by omega, rfl, fun i hi => ?_⟩⟩
  · by_cases q : i = n
    · rw [q]; exact Nat.le_refl _
    · have := h.1 i (by omega); omega
  · have := h.1 i hi; omega
theorem IsBest.less {es ps : List Int} {n a c : Nat} (h : IsBest es ps n a c) (hm : ¬ c < lcp (es.drop n) ps) : IsBest es ps (n + 1) a c := by
  refine ⟨fun i hi => ?_, ?_⟩
  · by_cases q : i = n
    · rw [q]; omega
    · exact h.1 i (by omega)
  · rcases h.2 with g | ⟨g2, g3, g4, g5⟩
    · exact .inl g
    · exact .inr ⟨g2, by omega, g4, g5⟩
/-- the greatest count around the place is the greatest of all -/
theorem best_max {es : List Int} {p : List Nat} {ps : List Int} {L : Nat} (hp : IsTab es p) (hL : IsLess es p ps L) {m : Int}
    (h0 : (around p L).map (fun b => ((lcp (es.drop b) ps : Nat) : Int)) = [] → m = 0)
    (h1 : (around p L).map (fun b => ((lcp (es.drop b) ps : Nat) : Int)) ≠ [] → m ∈ (around p L).map (fun b => ((lcp (es.drop b) ps : Nat) : Int)) ∧ ∀ a ∈ (around p L).map (fun b => ((lcp (es.drop b) ps : Nat) : Int)), a ≤ m) :
    ∃ c : Nat, m = c ∧ (∀ i, i < es.length → lcp (es.drop i) ps ≤ c) ∧ (c = 0 ∨ ∃ a, a < es.length ∧ lcp (es.drop a) ps = c) := by
  by_cases e : around p L = []
  · refine ⟨0, h0 (by rw [e]; rfl), fun i hi => ?_, .inl rfl⟩
    obtain ⟨b, hb, _⟩ := around_best hp hL hi
    rw [e] at hb
    cases hb
  · obtain ⟨hm, hle⟩ := h1 (by simpa using e)
    obtain ⟨b, hb, rfl⟩ := List.mem_map.mp hm
    refine ⟨_, rfl, fun i hi => ?_, .inr ⟨b, around_in hp hb, rfl⟩⟩
    obtain ⟨b2, hb2, h2⟩ := around_best hp hL hi
    have := hle _ (List.mem_map_of_mem hb2)
    omega
theorem best_of {es ps : List Int} {c a : Nat} (h1 : ∀ i, i < es.length → lcp (es.drop i) ps ≤ c) (hc : 0 < c) (ha : a < es.length) (h2 : c ≤ lcp (es.drop a) ps) (h3 : ∀ i, i < es.length → c ≤ lcp (es.drop i) ps → a ≤ i) : IsBest es ps es.length a c := by
  refine ⟨h1, .inr ⟨hc, ha, by have := h1 a ha; omega, fun i hi => ?_⟩⟩
  by_cases q : c ≤ lcp (es.drop i) ps
  · have := h3 i (by omega) q; omega
  · omega
def sp_alike : Sp := fun vs H Q _ => ∃ (e q : Addr) (es ps : List Int) (i : Nat), vs = [.ref e, .int i, .ref q] ∧ H e = some (.lst (es.map V.int)) ∧ H q = some (.lst (ps.map V.int)) ∧ i ≤ es.length ∧ Q (.int (lcp (es.drop i) ps : Nat)) H
def sp_how_many_less : Sp := fun vs H Q _ => ∃ (e t q : Addr) (es ps : List Int) (p : List Nat), vs = [.ref e, .ref t, .ref q] ∧ H e = some (.lst (es.map V.int)) ∧ H t = some (.lst (p.map fun (i : Nat) => V.int i)) ∧ H q = some (.lst (ps.map V.int)) ∧ IsTab es p ∧ ∀ (L : Nat) (H' : Hp), Same H H' → IsLess es p ps L → Q (.int L) H'
def sp_longest : Sp := fun vs H Q _ => ∃ (e t q : Addr) (es ps : List Int) (p : List Nat), vs = [.ref e, .ref t, .ref q] ∧ H e = some (.lst (es.map V.int)) ∧ H t = some (.lst (p.map fun (i : Nat) => V.int i)) ∧ H q = some (.lst (ps.map V.int)) ∧ IsTab es p ∧ es.length < 64 ∧ ps.length < 100 ∧
  ∀ (r : Addr) (a c : Nat) (H' : Hp), Same H H' → H r = none → H' r = some (.tup [.int a, .int c]) → IsBest es ps es.length a c → Q (.ref r) H'
/-! rows found -/
def NoBest (es ps : List Int) (least : Int) : Prop := ∀ a c, IsBest es ps es.length a c → (c : Int) < least
/-- the rows, from a place on (was the row ahead a put?), up to a place -/
def RightTo (es ns : List Int) (least : Int) : Nat → Bool → List RowD → Nat → Bool → Prop
  | i, b, [], j, b' => i = j ∧ b = b'
  | i, b, .put to sg :: rs, j, b' => b = false ∧ to = i ∧ sg ≠ [] ∧ i + sg.length ≤ ns.length ∧ sg = (ns.drop i).take sg.length ∧ (∀ k, k < sg.length → NoBest es (ns.drop (i + k)) least) ∧ RightTo es ns least (i + sg.length) true rs j b'
  | i, _, .take to st c :: rs, j, b' => ∃ st' c' : Nat, to = i ∧ st = st' ∧ c = c' ∧ i + c' ≤ ns.length ∧ 0 < c' ∧ least ≤ c' ∧ IsBest es (ns.drop i) es.length st' c' ∧ RightTo es ns least (i + c') false rs j b'
theorem RightTo.app {es ns : List Int} {least : Int} : ∀ {rs rs' : List RowD} {i j k : Nat} {b b' b'' : Bool}, RightTo es ns least i b rs j b' → RightTo es ns least j b' rs' k b'' → RightTo es ns least i b (rs ++ rs') k b''
  | [], _, _, _, _, _, _, _, ⟨h1, h2⟩, h' => by subst h1; subst h2; exact h'
  | .put to sg :: rs, _, _, _, _, _, _, _, h, h' => by
    obtain ⟨h1, h2, h3, h4, h5, h6, h7⟩ := h
    exact ⟨h1, h2, h3, h4, h5, h6, h7.app h'⟩
  | .take to st c :: rs, _, _, _, _, _, _, _, h, h' => by
    obtain ⟨st', c', h1, h2, h3, h4, h5, h6, h7, h8⟩ := h
    exact ⟨st', c', h1, h2, h3, h4, h5, h6, h7, h8.app h'⟩
/-- what stands behind the rows of a put: the end, or a take -/
theorem RightTo.ends {es ns : List Int} {least : Int} {rs : List RowD} {i : Nat} {b' : Bool} (h : RightTo es ns least i true rs ns.length b') : i = ns.length ∨ ¬ NoBest es (ns.drop i) least := by
  cases rs with
  | nil => exact .inl h.1
  | cons r rs =>
    cases r with
    | put to sg => exact absurd h.1 (by simp)
    | take to st c =>
      obtain ⟨st', c', h1, h2, h3, h4, h5, h6, h7, h8⟩ := h
      exact .inr fun z => by have := z _ _ h7; omega
theorem RightTo.uniq {es ns : List Int} {least : Int} : ∀ {rs rs' : List RowD} {i : Nat} {b b1 b2 : Bool}, RightTo es ns least i b rs ns.length b1 → RightTo es ns least i b rs' ns.length b2 → rs = rs'
  | [], [], _, _, _, _, _, _ => rfl
  | [], .put to sg :: rs', i, _, _, _, h, h' => by
    obtain ⟨h1, h2, h3, h4, _⟩ := h'
    have := List.length_pos_iff.mpr h3
    have := h.1
    omega
  | [], .take to st c :: rs', i, _, _, _, h, h' => by
    obtain ⟨st', c', h1, h2, h3, h4, h5, _⟩ := h'
    have := h.1
    omega
  | .put to sg :: rs, [], i, _, _, _, h', h => by
    obtain ⟨h1, h2, h3, h4, _⟩ := h'
    have := List.length_pos_iff.mpr h3
    have := h.1
    omega
  | .take to st c :: rs, [], i, _, _, _, h', h => by
    obtain ⟨st', c', h1, h2, h3, h4, h5, _⟩ := h'
    have := h.1
    omega
  | .put to sg :: rs, .take to' st c :: rs', i, _, _, _, h, h' => by
    obtain ⟨h1, h2, h3, h4, h5, h6, h7⟩ := h
    obtain ⟨st', c', g1, g2, g3, g4, g5, g6, g7, g8⟩ := h'
    have := h6 0 (List.length_pos_iff.mpr h3) st' c' g7
    omega
  | .take to' st c :: rs', .put to sg :: rs, i, _, _, _, h', h => by
    obtain ⟨h1, h2, h3, h4, h5, h6, h7⟩ := h
    obtain ⟨st', c', g1, g2, g3, g4, g5, g6, g7, g8⟩ := h'
    have := h6 0 (List.length_pos_iff.mpr h3) st' c' g7
    omega
  | .take to st c :: rs, .take to' st2 c2 :: rs', i, _, _, _, h, h' => by
    obtain ⟨st', c', h1, h2, h3, h4, h5, h6, h7, h8⟩ := h
    obtain ⟨st'', c'', g1, g2, g3, g4, g5, g6, g7, g8⟩ := h'
    obtain ⟨e1, e2⟩ := h7.uniq g7
    subst e1; subst e2
    subst h1; subst h2; subst h3; subst g2; subst g3
    rw [RightTo.uniq h8 g8, g1]
  | .put to sg :: rs, .put to' sg' :: rs', i, _, _, _, h, h' => by
    obtain ⟨h1, h2, h3, h4, h5, h6, h7⟩ := h
    obtain ⟨g1, g2, g3, g4, g5, g6, g7⟩ := h'
    have el : sg.length = sg'.length := by
      rcases Nat.lt_trichotomy sg.length sg'.length with z | z | z
      · rcases h7.ends with q | q
        · omega
        · exact absurd (g6 _ z) q
      · exact z
      · rcases g7.ends with q | q
        · omega
        · exact absurd (h6 _ z) q
    have es' : sg = sg' := by rw [h5, g5, el]
    subst es'
    subst h2
    rw [g2, RightTo.uniq h7 g7]
def endPut (i : Int) (sg : List Int) : List RowD := if sg = [] then [] else [.put (i - sg.length) sg]
def sp_Put_initL (a : Adr) : Sp := fun vs H Q _ => ∃ (p dx q : Addr) (to : Int) (xs : List Int), vs = [.ref p, .int to, .ref q] ∧ H p = some (.ins a.C_Put dx []) ∧ H q = some (.lst (xs.map V.int)) ∧
  ∀ (u : Addr) (H' : Hp), H u = none → (∀ b o, b ≠ p → H b = some o → H' b = some o) → H' p = some (.ins a.C_Put dx (putFs to u xs.length)) → H' u = some (.tup (xs.map V.int)) → Q .non H'
def sp_put_ending_at (K : PySem.W.Frag) (a : Adr) : Sp := fun vs H Q _ => ∃ (q : Addr) (i : Int) (xs : List Int), vs = [.int i, .ref q] ∧ H q = some (.lst (xs.map V.int)) ∧
  ∀ (l : Addr) (os : List Addr) (H' : Hp), Same H H' → H l = none → H' l = some (.lst (os.map V.ref)) → Paired (ObjAt K a H') os (endPut i xs) → Q (.ref l) H'
def sp_rows_found (K : PySem.W.Frag) (a : Adr) : Sp := fun vs H Q _ => ∃ (e n : Addr) (es ns : List Int) (least : Int), vs = [.ref e, .ref n, .int least] ∧ H P_endings = some (.tbl qs_endings) ∧ H e = some (.lst (es.map V.int)) ∧ H n = some (.lst (ns.map V.int)) ∧ es.length < 64 ∧ ns.length < 100 ∧ 1 ≤ least ∧
  ∀ (l : Addr) (os : List Addr) (rs : List RowD) (b : Bool) (H' : Hp), Same H H' → H l = none → H' l = some (.lst (os.map V.ref)) → Paired (ObjAt K a H') os rs → RightTo es ns least 0 false rs ns.length b → Q (.ref l) H'
def sp_found (K : PySem.W.Frag) : Sp := fun vs H Q _ => ∃ (e n : Addr) (es ns : List Int) (least : Int), vs = [.ref e, .ref n, .int least] ∧ H P_endings = some (.tbl qs_endings) ∧ H e = some (.lst (es.map V.int)) ∧ H n = some (.lst (ns.map V.int)) ∧ es.length < 64 ∧ ns.length < 100 ∧ 1 ≤ least ∧
  ∀ (l : Addr) (ts : List Addr) (rs : List RowD) (b : Bool) (H' : Hp), Same H H' → H l = none → H' l = some (.lst (ts.map V.ref)) → Paired (TupAt K H') ts rs → RightTo es ns least 0 false rs ns.length b → Q (.ref l) H'
theorem ObjAt.off {K : PySem.W.Frag} {a : Adr} {H : Hp} {t p : Addr} {r : RowD} {xs : List V} {o : HO} (h : ObjAt K a H t r) (hp : H p = some (.lst xs)) : ObjAt K a (upd H p o) t r := by
  cases r with
  | take to st c => obtain ⟨dx, h⟩ := h; exact ⟨dx, by rw [upd_ne (ne_of h hp (by intro z; cases z))]; exact h⟩
  | put to sg =>
    obtain ⟨dx, u, h1, h2⟩ := h
    exact ⟨dx, u, by rw [upd_ne (ne_of h1 hp (by intro z; cases z))]; exact h1, by rw [upd_ne (ne_of h2 hp (by intro z; cases z))]; exact h2⟩
theorem RightTo.put {es ns : List Int} {least : Int} {i : Nat} {sg : List Int} (h1 : i + sg.length ≤ ns.length) (h2 : sg = (ns.drop i).take sg.length) (h3 : ∀ k, k < sg.length → NoBest es (ns.drop (i + k)) least) : RightTo es ns least i false (endPut ((i + sg.length : Nat) : Int) sg) (i + sg.length) (decide (sg ≠ [])) := by
  unfold endPut
  by_cases h : sg = []
  · rw [if_pos h, h]
    exact ⟨rfl, rfl⟩
  · rw [if_neg h, decide_eq_true h]
    exact ⟨rfl, by omega, h, h1, h2, h3, rfl, rfl⟩
theorem RightTo.take {es ns : List Int} {least : Int} {i st c : Nat} {b : Bool} (hi : i ≤ ns.length) (h0 : 0 < c) (h1 : least ≤ c) (hb : IsBest es (ns.drop i) es.length st c) : RightTo es ns least i b [.take i st c] (i + c) false ∧ i + c ≤ ns.length := by
  have hc : c ≤ ns.length - i := by
    rcases hb.2 with ⟨z, _⟩ | ⟨_, _, z, _⟩
    · omega
    · have := lcp_le (es.drop st) (ns.drop i)
      rw [List.length_drop] at this
      omega
  exact ⟨⟨st, c, rfl, rfl, rfl, by omega, h0, h1, hb, rfl, rfl⟩, by omega⟩
theorem NoBest.of {es ps : List Int} {least : Int} {a c : Nat} (hb : IsBest es ps es.length a c) (h : (c : Int) < least) : NoBest es ps least := fun a' c' h' => by
  obtain ⟨_, rfl⟩ := hb.uniq h'
  exact h
theorem take_more {ns sg : List Int} {i : Nat} (h : sg = (ns.drop i).take sg.length) (hi : i + sg.length < ns.length) : sg ++ [ns[i + sg.length]] = (ns.drop i).take (sg ++ [ns[i + sg.length]]).length := by
  rw [List.length_append, List.length_singleton, List.take_succ_eq_append_getElem (by rw [List.length_drop]; omega), List.getElem_drop, ← h]
theorem paired_app {α β : Type} {F : α → β → Prop} : ∀ {as cs : List α} {bs ds : List β}, Paired F as bs → Paired F cs ds → Paired F (as ++ cs) (bs ++ ds)
  | _, _, _, _, .nil, h => h
  | _, _, _, _, .cons x xs, h => .cons x (paired_app xs h)
theorem endPut_len (i : Int) (sg : List Int) : (endPut i sg).length ≤ 1 := by
  unfold endPut
  split <;> simp
theorem RightTo.few {es ns : List Int} {least : Int} : ∀ {rs : List RowD} {i j : Nat} {b b' : Bool}, RightTo es ns least i b rs j b' → i + rs.length ≤ j
  | [], _, _, _, _, h => by rw [h.1]; exact Nat.le_refl _
  | .put to sg :: rs, i, j, _, _, h => by
    obtain ⟨h1, h2, h3, h4, h5, h6, h7⟩ := h
    have := h7.few
    have := List.length_pos_iff.mpr h3
    rw [List.length_cons]
    omega
  | .take to st c :: rs, i, j, _, _, h => by
    obtain ⟨st', c', h1, h2, h3, h4, h5, h6, h7, h8⟩ := h
    have := h8.few
    rw [List.length_cons]
    omega
def cellAt (ns : List Int) (k : Int) : Int := if k < ns.length then ns.getD k.toNat 0 else 0
def sp_cell_at (K : PySem.W.Frag) : Sp := fun vs H Q _ => ∃ (l : Addr) (ns : List Int) (k : Int), vs = [.ref l, .int k] ∧ SqL K H l (ns.map V.int) ∧ 0 ≤ k ∧ Q (.int (cellAt ns k)) H
def sp_draw : Sp := fun vs H Q _ => ∃ (c k : Int), vs = [.int c, .int k] ∧ ∀ d : Int, 0 ≤ d → Q (.int d) H
def sp_due : Sp := fun vs H Q _ => ∃ (e q : Addr) (es ps : List Int), vs = [.ref e, .ref q] ∧ H e = some (.lst (es.map V.int)) ∧ H q = some (.lst (ps.map V.int)) ∧ ∀ (r : Addr) (a c : Nat) (H' : Hp), Same H H' → H' r = some (.tup [.int a, .int c]) → IsBest es ps es.length a c → Q (.ref r) H'
def sp_digits : Sp := fun vs H Q _ => ∃ (c b m : Int), vs = [.int c, .int b, .int m] ∧ 1 ≤ b ∧ b < 100 ∧ m ≤ 60 ∧ ∀ (e : Addr) (es : List Int) (H' : Hp), Same H H' → H e = none → H' e = some (.lst (es.map V.int)) → es.length = m.toNat → Q (.ref e) H'
def sp_elder (K : PySem.W.Frag) : Sp := fun vs H Q _ => ∃ (l : Addr) (ns : List Int), vs = [.ref l] ∧ SqL K H l (ns.map V.int) ∧ ∀ (e : Addr) (es : List Int) (H' : Hp), Same H H' → H e = none → H' e = some (.lst (es.map V.int)) → es.length ≤ 40 → Q (.ref e) H'
def sp_newer (K : PySem.W.Frag) : Sp := fun vs H Q _ => ∃ (l e : Addr) (ns es : List Int), vs = [.ref l, .ref e] ∧ SqL K H l (ns.map V.int) ∧ H e = some (.lst (es.map V.int)) ∧ es.length ≤ 40 ∧ ∀ (q : Addr) (ps : List Int) (H' : Hp), Same H H' → H q = none → H' q = some (.lst (ps.map V.int)) → ps.length ≤ 60 → Q (.ref q) H'
def sp_put_is_right : Sp := fun vs H Q _ => ∃ (t e n u : Addr) (es ns sg : List Int) (i : Nat) (least : Int), vs = [.ref t, .ref e, .ref n, .int least] ∧ H t = some (.tup [.str "put", .int i, .ref u]) ∧ H u = some (.tup (sg.map V.int)) ∧ H e = some (.lst (es.map V.int)) ∧ H n = some (.lst (ns.map V.int)) ∧
  sg ≠ [] ∧ ns.length ≤ 60 ∧ i + sg.length ≤ ns.length ∧ sg = (ns.drop i).take sg.length ∧ (∀ k, k < sg.length → NoBest es (ns.drop (i + k)) least) ∧ ∀ H', Same H H' → Q (.bl true) H'
def sp_right (K : PySem.W.Frag) : Sp := fun vs H Q _ => ∃ (l e n : Addr) (ts : List Addr) (rs : List RowD) (es ns : List Int) (least : Int) (b : Bool), vs = [.ref l, .ref e, .ref n, .int least] ∧ H l = some (.lst (ts.map V.ref)) ∧ Paired (TupAt K H) ts rs ∧ H e = some (.lst (es.map V.int)) ∧ H n = some (.lst (ns.map V.int)) ∧ ns.length ≤ 60 ∧ RightTo es ns least 0 false rs ns.length b ∧ ∀ H', Same H H' → Q (.bl true) H'
def sp_law (K : PySem.W.Frag) : Sp := fun vs H Q _ => ∃ (l : Addr) (ns : List Int), vs = [.ref l] ∧ SqL K H l (ns.map V.int) ∧ ns.length ≤ 63 ∧ H P_endings = some (.tbl qs_endings) ∧ ∀ H', Q (.bl true) H'
local macro_rules | `(tactic| walk_at "w") => `(tactic| (conv => whnf))
local macro_rules | `(tactic| walk_at "few") => `(tactic| first | exact Nat.lt_of_lt_of_le (few_put (n := 998) (by simp)) (by decide) | (simp; done))
local macro_rules | `(tactic| walk_at "pos") => `(tactic| first | (show (0 : Int) < _; decide) | (show (0 : Int) < _; omega) | assumption)
local macro_rules | `(tactic| walk_at "same") => `(tactic| first | exact Same.refl _ | assumption | (refine' Same.trans ?sa ?sb; (case sb => assumption); (case sa => walk_at "same")))
local macro_rules | `(tactic| walk_at "get") => `(tactic| first | assumption | exact upd_same | (refine' Same.at ?ga ?gb; (case gb => assumption); (case ga => walk_at "same")))
local macro_rules | `(tactic| walk_at "sq") => `(tactic| first | assumption | (refine' SqL.of ?g; (case g => walk_at "get")) | (refine' SqT.of ?g; (case g => walk_at "get")) | (refine' Same.seq ?sa ?sb; (case sb => assumption); (case sa => walk_at "same")) | (refine' Same.seqT ?sa ?sb; (case sb => assumption); (case sa => walk_at "same")) | (refine' Or.inl ?g; (case g => walk_at "sq")) | (refine' Or.inr ?g; (case g => walk_at "sq")))
local macro_rules | `(tactic| walk_at "no") => `(tactic| (intro z; first | cases z | (simp at z; done)))
local macro_rules | `(tactic| walk_at "mul") => `(tactic| first | exact Or.inl ⟨by decide, by decide⟩ | exact Or.inr ⟨by decide, by decide⟩ | exact Or.inl ⟨by omega, by omega⟩ | exact Or.inr ⟨by omega, by omega⟩)
local macro_rules | `(tactic| walk_at "side") => `(tactic| first | exact ⟨by decide, by decide⟩ | exact ⟨by decide, by decide, by decide⟩ | walk_at "pos" | walk_at "mul" | (show (_ : Nat) ≤ sizeLine; first | decide | (simp only [List.length_cons, List.length_nil]; decide)))
local macro_rules | `(tactic| walk_at "s") => `(tactic| (refine And.intro (by walk_at "side") ?_; walk_at "w"))
local macro_rules | `(tactic| walk_at "ss") => `(tactic| (repeat (walk_at "s")))

section
variable {P : Program} {w : World} {K : PySem.W.Frag} {mg : Str → Option Value} {base : Heap} {a : Adr}
theorem ok_Row_init (T : Txt K mg a) : FnOk P w K mg base CX0 1 a.f_Row_init a.d_Row_init ["self", "to"] (sp_Row_init K) := by
  refine T.F_Row_init.ok sc_Row_init (fun vs H Q E h => ?_) (fun cdv A outer s H vs Q E hr h => ?_)
  · obtain ⟨p, C, dx, to, rfl, _⟩ := h; rfl
  · obtain ⟨p, C, dx, to, rfl, hp, c, n1, n2, k⟩ := h
    have nd := sc_Row_init.nd
    refine ⟨_, (pss_cons (ps_fld (cv 0) (cv 1) rfl)
    (pss_one (ps_fld (cv 0) pe_int rfl))), ?_⟩
    walk_at "w"
    refine ⟨p, C, dx, _, rfl, hp, c, n1, by walk_at "few", ?_⟩
    walk_at "w"
    refine ⟨p, C, dx, _, rfl, upd_same, c, n2, by walk_at "few", ?_⟩
    walk_at "w"
    rw [upd_upd]
    exact k
theorem ok_Take_init (T : Txt K mg a) : FnOk P w K mg base CX0 2 a.f_Take_init a.d_Take_init ["self", "to", "start", "count"] (sp_Take_init a) := by
  refine T.F_Take_init.ok sc_Take_init (fun vs H Q E h => ?_) (fun cdv A outer s H vs Q E hr h => ?_)
  · obtain ⟨p, dx, to, st, c, rfl, _⟩ := h; rfl
  · obtain ⟨p, dx, to, st, c, rfl, hp, k⟩ := h
    have nd := sc_Take_init.nd
    refine ⟨_, (pss_cons (ps_expr (pe_base (by rfl) T.m_Row T.cm_Row_init (ok_Row_init T) (hr.mono (by decide)) T.b_Row_init .nil pass0 (pa_cons (cv 0) (pa_cons (cv 1) pa_nil))))
    (pss_cons (ps_fld (cv 0) (cv 2) rfl)
    (pss_one (ps_fld (cv 0) (cv 3) rfl)))), ?_⟩
    walk_at "w"
    refine ⟨p, _, dx, to, rfl, hp, T.c_Take, T.na_Take_to, T.na_Take_count, ?_⟩
    walk_at "w"
    refine ⟨p, _, dx, _, rfl, upd_same, T.c_Take, T.na_Take_source, by walk_at "few", ?_⟩
    walk_at "w"
    refine ⟨p, _, dx, _, rfl, upd_same, T.c_Take, T.na_Take_count, by walk_at "few", ?_⟩
    walk_at "w"
    rw [upd_upd, upd_upd]
    exact k
theorem ok_Put_init (T : Txt K mg a) : FnOk P w K mg base CX0 2 a.f_Put_init a.d_Put_init ["self", "to", "signs"] (sp_Put_initL a) := by
  refine T.F_Put_init.ok sc_Put_init (fun vs H Q E h => ?_) (fun cdv A outer s H vs Q E hr h => ?_)
  · obtain ⟨p, dx, t, to, xs, rfl, _⟩ := h; rfl
  · obtain ⟨p, dx, t, to, xs, rfl, hp, ht, k⟩ := h
    have nd := sc_Put_init.nd
    have ne : t ≠ p := ne_of ht hp (by intro z; cases z)
    refine ⟨_, (pss_cons (ps_expr (pe_base (by rfl) T.m_Row T.cm_Row_init (ok_Row_init T) (hr.mono (by decide)) T.b_Row_init .nil pass0 (pa_cons (cv 0) (pa_cons (cv 1) pa_nil))))
    (pss_cons (ps_fld (cv 0) (pe_callTy call_tuple_of (by rfl) T.n_tuple bt_tuple (pa_cons (cv 2) pa_nil)) rfl)
    (pss_one (ps_fld (cv 0) (pe_callB call_len_seq (by rfl) T.n_len bt_len (pa_cons (pe_fld (cv 0) rfl) pa_nil)) rfl)))), ?_⟩
    walk_at "w"
    refine ⟨p, _, dx, to, rfl, hp, T.c_Put, T.na_Put_to, T.na_Put_count, ?_⟩
    walk_at "w"
    refine ⟨t, _, rfl, .inl ⟨SqL.of (by rw [upd_ne ne]; exact ht), fun u hu => ?_⟩⟩
    have nup : u ≠ p := fun z => by rw [z, upd_same] at hu; cases hu
    have hu0 : H u = none := by rw [upd_ne nup] at hu; exact hu
    generalize hU : upd H p _ = H1 at hu ⊢
    have e1 := at_of_eq hU
    have o1 : ∀ b o, b ≠ p → H b = some o → H1 b = some o := fun b o q z => by rw [← hU, upd_ne q]; exact z
    clear hU
    generalize hU : upd H1 u _ = H2
    have e2 := (show H2 p = H1 p by rw [← hU, upd_ne (Ne.symm nup)]).trans e1
    have eu := at_of_eq hU
    have o2 : ∀ b o, b ≠ p → H b = some o → H2 b = some o := fun b o q z => by rw [← hU, upd_ne (fun y => by rw [y, hu0] at z; cases z)]; exact o1 b o q z
    clear hU
    walk_at "w"
    refine ⟨p, _, dx, _, rfl, e2, T.c_Put, T.na_Put_signs, by walk_at "few", ?_⟩
    walk_at "w"
    refine ⟨p, _, dx, _, .ref u, rfl, upd_same, T.c_Put, T.na_Put_signs, rfl, ?_⟩
    walk_at "w"
    refine ⟨u, _, rfl, .inr (SqT.of (by rw [upd_ne nup]; exact eu)), ?_⟩
    walk_at "w"
    refine ⟨p, _, dx, _, rfl, upd_same, T.c_Put, T.na_Put_count, by walk_at "few", ?_⟩
    walk_at "w"
    rw [upd_upd]
    generalize hU : upd H2 p _ = H3
    refine k u H3 hu0 (fun b o q z => by rw [← hU, upd_ne q]; exact o2 b o q z) ?_ (by rw [← hU, upd_ne nup]; exact eu)
    rw [at_of_eq hU, List.length_map]
    rfl
theorem ok_Take_told (T : Txt K mg a) : FnOk P w K mg base CX0 1 a.f_Take_told a.d_Take_told ["self"] (sp_Ttold a) := by
  refine T.F_Take_told.ok sc_Take_told (fun vs H Q E h => ?_) (fun cdv A outer s H vs Q E hr h => ?_)
  · obtain ⟨o, dx, to, st, c, rfl, _⟩ := h; rfl
  · obtain ⟨o, dx, to, st, c, rfl, h1, k⟩ := h
    have nd := sc_Take_told.nd
    refine ⟨_, (pss_one (ps_ret (pe_tup (pa_cons pe_str (pa_cons (pe_fld (cv 0) rfl) (pa_cons (pe_fld (cv 0) rfl) (pa_cons (pe_fld (cv 0) rfl) pa_nil))))))), ?_⟩
    walk_at "w"
    refine ⟨o, _, dx, _, .int to, rfl, h1, T.c_Take, T.na_Take_to, rfl, ?_⟩
    walk_at "w"
    refine ⟨o, _, dx, _, .int st, rfl, h1, T.c_Take, T.na_Take_source, rfl, ?_⟩
    walk_at "w"
    refine ⟨o, _, dx, _, .int c, rfl, h1, T.c_Take, T.na_Take_count, rfl, ?_⟩
    walk_at "w"
    exact ⟨by walk_at "side", k⟩
theorem ok_Put_told (T : Txt K mg a) : FnOk P w K mg base CX0 1 a.f_Put_told a.d_Put_told ["self"] (sp_Ptold a) := by
  refine T.F_Put_told.ok sc_Put_told (fun vs H Q E h => ?_) (fun cdv A outer s H vs Q E hr h => ?_)
  · obtain ⟨o, dx, u, to, n, rfl, _⟩ := h; rfl
  · obtain ⟨o, dx, u, to, n, rfl, h1, k⟩ := h
    have nd := sc_Put_told.nd
    refine ⟨_, (pss_one (ps_ret (pe_tup (pa_cons pe_str (pa_cons (pe_fld (cv 0) rfl) (pa_cons (pe_fld (cv 0) rfl) pa_nil)))))), ?_⟩
    walk_at "w"
    refine ⟨o, _, dx, _, .int to, rfl, h1, T.c_Put, T.na_Put_to, rfl, ?_⟩
    walk_at "w"
    refine ⟨o, _, dx, _, .ref u, rfl, h1, T.c_Put, T.na_Put_signs, rfl, ?_⟩
    walk_at "w"
    exact ⟨by walk_at "side", k⟩
/-- row.told(), whichever row it is -/
theorem callTold {H : Hp} {o : Addr} {r : RowD} {Q : VK} {σ : L2.St} {i : Nat} (ho : ObjAt K a H o r)
    (k : ∀ t H', Same H H' → TupAt K H' t r → Q (.ref t) H') (hσ : σ[i]? = some (some (.ref o)) := by rfl) :
    tMeth a.C_Put "told" (sp_Ptold a) [] E0 (cVar i) tNil σ H Q ∨ tMeth a.C_Take "told" (sp_Ttold a) [] E0 (cVar i) tNil σ H Q := by
  cases r with
  | put to sg =>
    obtain ⟨dx, u, h1, h2⟩ := ho
    left
    unfold tMeth cVar
    rw [hσ]
    exact ⟨o, dx, _, rfl, h1, rfl, o, dx, u, to, _, rfl, h1, fun t ht => k t _ (Same.new ht) ⟨u, upd_same, (Same.new ht).at h2⟩⟩
  | take to st c =>
    obtain ⟨dx, h1⟩ := ho
    right
    unfold tMeth cVar
    rw [hσ]
    exact ⟨o, dx, _, rfl, h1, rfl, o, dx, to, st, c, rfl, h1, fun t ht => k t _ (Same.new ht) upd_same⟩
theorem ok_endings_lam (T : Txt K mg a) : CloOk P w K mg base CX0 1 "<lambda>" "endings.<locals>.<lambda>" (lamArgs e_lam) (.expr (lamBody e_lam)) (lamScope e_lam) ["at"] sp_lam := by
  refine clo_expr sc_lam (fun fv vs H Q E h => ?_) (fun _ _ _ _ _ us hl => match us, hl with | [_], _ => rfl) (fun A outer s H f clos cdv fv vs Q E hr h => ?_)
  · obtain ⟨e, es, i, rfl, rfl, _⟩ := h; exact ⟨rfl, rfl⟩
  · obtain ⟨e, es, i, rfl, rfl, he, hi, k⟩ := h
    have nd := sc_lam.nd
    refine ⟨_, (pe_slice sl_list (cv 1) (po_some (cv 0)) po_none), ?_⟩
    walk_at "w"
    refine ⟨_, rfl, ?_⟩
    walk_at "w"
    refine ⟨e, _, rfl, SqL.of he, fun d hd => ?_⟩
    have e1 : cutV (es.map V.int) (some i) none = (es.drop i.toNat).map V.int := by
      rw [cutV_ints, sIx_nn hi, HT.sIx_none]
      congr 1
      rw [List.take_of_length_le (by rw [List.length_drop]; omega)]
      by_cases h : i.toNat ≤ es.length
      · rw [Nat.min_eq_left h]
      · rw [Nat.min_eq_right (by omega), List.drop_of_length_le (Nat.le_refl _), List.drop_of_length_le (by omega)]
    rw [e1]
    exact k d hd
theorem ok_endings (T : Txt K mg a) : FnOk P w K mg base CX0 4 a.f_endings a.d_endings ["text"] sp_endings := by
  refine T.F_endings.okC ["text"] T.cd_endings sc_endings (fun vs H Q E h => ?_) (fun A outer s H vs Q E hr h => ?_)
  · obtain ⟨e, es, rfl, _⟩ := h; rfl
  · obtain ⟨e, es, rfl, hP, he, h64, q⟩ := h
    have nd := sc_endings.nd
    refine ⟨_, (pss_track (x := "text") (i := 0) nd rfl rfl rfl (by kernel_rfl) (pss_one (ps_ret (pe_sortedK (ok_endings_lam T) (hr.mono (by decide)) rfl (by rfl) T.n_sorted (pa_cons (ce_range1 (by rfl) T.n_range (pa_cons (pe_callB call_len_seq (by rfl) T.n_len bt_len (pa_cons (cv 0) pa_nil)) pa_nil)) pa_nil) (ce_lambda (c := c_endings) (P := P_endings) (qs := qs_endings) (fns := ["text"]) rfl T.tk_endings (q := "endings.<locals>.<lambda>") (by kernel_rfl) (.head _) (by kernel_rfl) (by kernel_rfl)))))), ?_⟩
    walk_at "w"
    intro a1 e1 z1 d1
    refine And.intro z1 ?_
    generalize hU1 : upd H a1 _ = H1
    have s1 := Same.of_eq z1 hU1
    have c1 := at_of_eq hU1
    clear hU1
    walk_at "w"
    refine ⟨e, _, rfl, .inl (SqL.of (s1.at he)), ?_⟩
    intro r hr
    generalize hUr : upd H1 r _ = H2
    have sH2 := Same.of_eq hr hUr
    have er := at_of_eq hUr
    clear hUr
    walk_at "w"
    have s2 : Same H H2 := s1.trans sH2
    refine ⟨s2.at hP, [("text", .ref e)], rfl, fun x v m => ?_, fun f H3 hf s3 hc => ?_⟩
    · simp only [List.mem_cons, Prod.mk.injEq, List.not_mem_nil, or_false] at m
      obtain ⟨rfl, rfl⟩ := m
      exact ⟨a1, e1, sH2.at c1⟩
    walk_at "w"
    have er3 := s3.at er
    rw [List.length_map] at er3
    refine ⟨r, f, es.length, _, fun i => es.drop i, rfl, rfl, er3, h64, hc, fun i hi H4 s4 => ?_, end_sto es, fun l p H4 s4 hl el hp hpw => ?_⟩
    · refine ⟨e, es, _, rfl, rfl, (s2.trans (s3.trans s4)).at he, by omega, fun d hd => ⟨Same.new hd, d, rfl, ?_⟩⟩
      rw [upd_same, Int.toNat_natCast]
    · exact q l p H4 (s2.trans (s3.trans s4)) ((s2.trans s3).back hl) el ⟨hp, hpw⟩
theorem ok_agreeing (T : Txt K mg a) : FnOk P w K mg base CX0 1 a.f_agreeing a.d_agreeing ["text", "at", "part"] sp_alike := by
  refine T.F_agreeing.ok sc_agreeing (fun vs H Q E h => ?_) (fun cdv A outer s H vs Q E hr h => ?_)
  · obtain ⟨e, q, es, ps, i, rfl, _⟩ := h; rfl
  · obtain ⟨e, q, es, ps, i, rfl, he, hq, hi, k⟩ := h
    have nd := sc_agreeing.nd
    refine ⟨_, (pss_cons (ps_set (i := 3) nd rfl (Or.inl rfl) pe_int)
    (pss_cons (cs_while PassesOwn.never (PW.pt (cw_and (ct_cmp o_lt (cv 3) (pe_callB call_len_seq (by rfl) T.n_len bt_len (pa_cons (cv 2) pa_nil))) (cw_and (ct_cmp o_lt (pe_op o_add (cv 1) (cv 3)) (pe_callB call_len_seq (by rfl) T.n_len bt_len (pa_cons (cv 0) pa_nil))) (pw_and1 (ct_cmp o_eqI (pe_ix ix_list (cv 0) (pe_op o_add (cv 1) (cv 3)) (fun _ _ => rfl)) (pe_ix ix_list (cv 2) (cv 3) (fun _ _ => rfl))))))) (pss_one (ps_set (i := 3) nd rfl (Or.inl rfl) (pe_op o_add (cv 3) pe_int))))
    (pss_one (ps_ret (cv 3))))), ?_⟩
    walk_at "w"
    refine whileAt_inv (m := ps.length) (fun m σ G => G = H ∧ ∃ x : Nat, m = ps.length - x ∧ σ = [some (.ref e), some (.int i), some (.ref q), some (.int x)] ∧ x ≤ ps.length ∧ i + x ≤ es.length ∧ (es.drop i).take x = ps.take x) ⟨rfl, 0, rfl, rfl, Nat.zero_le _, by omega, by simp⟩ (fun m σ G hP => ?_)
    obtain ⟨rfl, x, rfl, rfl, hx, hy, heq⟩ := hP
    have done : ((es.drop i).length > x → ps.length > x → (es.drop i).take (x + 1) ≠ ps.take (x + 1)) → Q (.int x) G := fun hn => by
      rw [lcp_stop heq hx (fun h1 h2 => hn h1 h2) (by rw [List.length_drop]; omega)] at k
      exact k
    walk_at "w"
    refine ⟨q, _, rfl, .inl (SqL.of hq), ?_⟩
    walk_at "w"
    rw [List.length_map]
    refine ⟨fun e1 => ?_, fun e1 => ?_⟩
    · have h1 : x < ps.length := by have := of_decide_eq_true e1; omega
      walk_at "w"
      refine ⟨e, _, rfl, .inl (SqL.of he), ?_⟩
      walk_at "w"
      rw [List.length_map]
      refine ⟨fun e2 => ?_, fun e2 => ?_⟩
      · have h2 : i + x < es.length := by have := of_decide_eq_true e2; omega
        have h3 : x < (es.drop i).length := by rw [List.length_drop]; omega
        walk_at "w"
        refine ⟨e, _, _, .int es[i + x], rfl, rfl, SqL.of he, atI_in (by omega) (by rw [show ((i : Int) + (x : Int)).toNat = i + x by omega]; simp [h2]), ?_⟩
        walk_at "w"
        refine ⟨q, _, _, .int ps[x], rfl, rfl, SqL.of hq, atI_nat (by simp [h1]), ?_⟩
        walk_at "w"
        have st := lcp_step heq h3 h1
        rw [List.getElem_drop] at st
        refine ⟨fun e3 => ?_, fun e3 => ?_⟩
        · have e4 := st.mp (by simpa using e3)
          refine ⟨fun σ' G' => ∃ m', m' < ps.length - x ∧ G' = G ∧ ∃ x : Nat, m' = ps.length - x ∧ σ' = [some (.ref e), some (.int i), some (.ref q), some (.int x)] ∧ x ≤ ps.length ∧ i + x ≤ es.length ∧ (es.drop i).take x = ps.take x, fun _ _ z => z, ?_⟩
          walk_at "w"
          exact ⟨ps.length - (x + 1), by omega, rfl, x + 1, rfl, rfl, by omega, by omega, e4⟩
        · walk_at "w"
          refine done fun _ _ z => ?_
          have := st.mpr z
          simp [this] at e3
      · refine ⟨by walk_at "no", fun _ => ?_⟩
        walk_at "w"
        have := of_decide_eq_false e2
        exact done fun h1 _ => by rw [List.length_drop] at h1; omega
    · refine ⟨by walk_at "no", fun _ => ?_⟩
      walk_at "w"
      have := of_decide_eq_false e1
      exact done fun _ h2 => by omega
theorem cut_from (es : List Int) (i : Nat) : cutV (es.map V.int) (some (i : Int)) none = (es.drop i).map V.int := by
  rw [cutV_ints, sIx_nn (by omega), HT.sIx_none]
  congr 1
  rw [List.take_of_length_le (by rw [List.length_drop]; omega), Int.toNat_natCast]
  by_cases h : i ≤ es.length
  · rw [Nat.min_eq_left h]
  · rw [Nat.min_eq_right (by omega), List.drop_of_length_le (Nat.le_refl _), List.drop_of_length_le (by omega)]
theorem ok_how_many_less (T : Txt K mg a) : FnOk P w K mg base CX0 1 a.f_how_many_less a.d_how_many_less ["text", "table", "part"] sp_how_many_less := by
  refine T.F_how_many_less.ok sc_how_many_less (fun vs H Q E h => ?_) (fun cdv A outer s H vs Q E hr h => ?_)
  · obtain ⟨e, t, q, es, ps, p, rfl, _⟩ := h; rfl
  · obtain ⟨e, t, q, es, ps, p, rfl, he, ht, hq, hp, k⟩ := h
    have nd := sc_how_many_less.nd
    refine ⟨_, (pss_cons (ps_set (i := 3) nd rfl (Or.inl rfl) pe_int)
    (pss_cons (ps_set (i := 4) nd rfl (Or.inl rfl) (pe_callB call_len_seq (by rfl) T.n_len bt_len (pa_cons (cv 1) pa_nil)))
    (pss_cons (cs_while PassesOwn.never (ct_cmp o_lt (cv 3) (cv 4)) (pss_cons (ps_set (i := 5) nd rfl (Or.inl rfl) (pe_op o_fdiv (pe_op o_add (cv 3) (cv 4)) pe_int))
    (pss_one (cs_if (ct_cmp (op_ltL hr.units0) (pe_slice sl_list (cv 0) (po_some (pe_ix ix_list (cv 1) (cv 5) (fun _ _ => rfl))) po_none) (cv 2)) (pss_one (ps_set (i := 3) nd rfl (Or.inl rfl) (pe_op o_add (cv 5) pe_int))) (pss_one (ps_set (i := 4) nd rfl (Or.inl rfl) (cv 5)))))))
    (pss_one (ps_ret (cv 3)))))), ?_⟩
    walk_at "w"
    refine ⟨t, _, rfl, .inl (SqL.of ht), ?_⟩
    walk_at "w"
    rw [List.length_map]
    refine whileAt_inv (m := p.length) (fun m σ G => Same H G ∧ ∃ (lo hi : Nat) (x5 : Option V), m = hi - lo ∧ σ = [some (.ref e), some (.ref t), some (.ref q), some (.int lo), some (.int hi), x5] ∧ lo ≤ hi ∧ hi ≤ p.length ∧ (∀ i, i < lo → HT.lexLt (es.drop (p.getD i 0)) ps = true) ∧ ∀ i, hi ≤ i → i < p.length → HT.lexLt (es.drop (p.getD i 0)) ps = false)
      ⟨Same.refl _, 0, p.length, _, rfl, rfl, Nat.zero_le _, Nat.le_refl _, fun i hi => absurd hi (Nat.not_lt_zero _), fun i h1 h2 => absurd h2 (by omega)⟩ (fun m σ G hP => ?_)
    obtain ⟨sG, lo, hi, x5, rfl, rfl, h1, h2, h3, h4⟩ := hP
    walk_at "w"
    refine ⟨fun e1 => ?_, fun e1 => ?_⟩
    · have e1' : lo < hi := by have := of_decide_eq_true e1; omega
      refine ⟨fun σ' G' => ∃ m', m' < hi - lo ∧ Same H G' ∧ ∃ (lo hi : Nat) (x5 : Option V), m' = hi - lo ∧ σ' = [some (.ref e), some (.ref t), some (.ref q), some (.int lo), some (.int hi), x5] ∧ lo ≤ hi ∧ hi ≤ p.length ∧ (∀ i, i < lo → HT.lexLt (es.drop (p.getD i 0)) ps = true) ∧ ∀ i, hi ≤ i → i < p.length → HT.lexLt (es.drop (p.getD i 0)) ps = false, fun _ _ z => z, ?_⟩
      walk_at "w"
      walk_at "ss"
      have em : ((lo : Int) + (hi : Int)) / 2 = (((lo + hi) / 2 : Nat) : Int) := by omega
      generalize hz : (fun (i j : Int) => V.int (i / j)) ((lo : Int) + (hi : Int)) 2 = z
      generalize hmid : (lo + hi) / 2 = mid at em
      have ez : z = .int (mid : Nat) := by rw [← hz]; show V.int (((lo : Int) + (hi : Int)) / 2) = _; rw [em]
      clear hz
      subst ez
      have b1 : lo ≤ mid ∧ mid < hi := by omega
      have b2 : mid < p.length := by omega
      have g : p.getD mid 0 = p[mid] := by simp [List.getD, b2]
      refine ⟨t, _, _, .int (p.getD mid 0 : Nat), rfl, rfl, SqL.of (sG.at ht), atI_nat (by rw [g]; simp [b2]), ?_⟩
      walk_at "w"
      refine ⟨_, rfl, ?_⟩
      walk_at "w"
      refine ⟨e, _, rfl, SqL.of (sG.at he), ?_⟩
      intro d hd
      generalize hUd : upd G d _ = G1
      have sG1 := Same.of_eq hd hUd
      have ed := at_of_eq hUd
      clear hUd
      walk_at "w"
      rw [cut_from] at ed
      refine ⟨d, q, _, _, rfl, rfl, SqL.of ed, SqL.of ((sG.trans sG1).at hq), ?_⟩
      walk_at "w"
      refine ⟨fun e2 => ?_, fun e2 => ?_⟩
      · walk_at "w"
        refine ⟨hi - (mid + 1), by omega, sG.trans sG1, mid + 1, hi, _, rfl, rfl, by omega, h2, fun i hi' => ?_, h4⟩
        by_cases c : i = mid
        · rw [c]; exact e2
        · exact lex_tr (tab_lt hp (show i < mid by omega) b2) e2
      · walk_at "w"
        refine ⟨mid - lo, by omega, sG.trans sG1, lo, mid, _, rfl, rfl, by omega, by omega, h3, fun i h5 h6 => ?_⟩
        by_cases c : i = mid
        · rw [c]; exact e2
        · cases hc : HT.lexLt (es.drop (p.getD i 0)) ps with
          | false => rfl
          | true =>
            have := lex_tr (tab_lt hp (show mid < i by omega) h6) hc
            rw [e2] at this
            cases this
    · have e1' : lo = hi := by have := of_decide_eq_false e1; omega
      walk_at "w"
      subst e1'
      exact k lo G sG ⟨h2, h3, h4⟩
theorem cut_to (ps : List Int) (c : Nat) : cutV (ps.map V.int) none (some (c : Int)) = (ps.take c).map V.int := by
  rw [cutV_ints, sIx_nn (by omega), HT.sIx_none, List.drop_zero, Int.toNat_natCast, Nat.sub_zero]
  congr 1
  by_cases q : c ≤ ps.length
  · rw [Nat.min_eq_left q]
  · rw [Nat.min_eq_right (by omega), List.take_of_length_le (Nat.le_refl _), List.take_of_length_le (by omega)]
theorem cut_mid (es : List Int) (b c : Nat) (h : b ≤ es.length) : cutV (es.map V.int) (some (b : Int)) (some ((b : Int) + (c : Int))) = ((es.drop b).take c).map V.int := by
  rw [cutV_ints, sIx_nn (by omega), sIx_nn (by omega), Int.toNat_natCast, show ((b : Int) + (c : Int)).toNat = b + c by omega, Nat.min_eq_left h]
  congr 1
  by_cases q : b + c ≤ es.length
  · rw [Nat.min_eq_left q, show b + c - b = c by omega]
  · rw [Nat.min_eq_right (by omega), List.take_of_length_le (by rw [List.length_drop]; omega), List.take_of_length_le (by rw [List.length_drop]; omega)]
theorem cut_around (p : List Nat) (L : Nat) (h : L ≤ p.length) : cutV (p.map fun (i : Nat) => V.int i) (some (max ((L : Int) - 1) 0)) (some ((L : Int) + 1)) = (around p L).map fun (i : Nat) => V.int i := by
  unfold cutV around
  rw [List.length_map, sIx_nn (by omega), sIx_nn (by omega), ← List.map_drop, ← List.map_take, show (max ((L : Int) - 1) 0).toNat = L - 1 by omega, show ((L : Int) + 1).toNat = L + 1 by omega, Nat.min_eq_left (show L - 1 ≤ p.length by omega)]
  congr 1
  by_cases q : L + 1 ≤ p.length
  · rw [Nat.min_eq_left q]
  · rw [Nat.min_eq_right (by omega), List.take_of_length_le (by rw [List.length_drop]; omega), List.take_of_length_le (by rw [List.length_drop]; omega)]
theorem ok_longest (T : Txt K mg a) : FnOk P w K mg base CX0 2 a.f_longest a.d_longest ["text", "table", "part"] sp_longest := by
  refine T.F_longest.ok sc_longest (fun vs H Q E h => ?_) (fun cdv A outer s H vs Q E hr h => ?_)
  · obtain ⟨e, t, q, es, ps, p, rfl, _⟩ := h; rfl
  · obtain ⟨e, t, q, es, ps, p, rfl, he, ht, hq, hp, h64, h100, k⟩ := h
    have nd := sc_longest.nd
    refine ⟨_, (pss_cons (ps_set (i := 3) nd rfl (Or.inl rfl) (pe_call (ok_how_many_less T) (hr.mono (by decide)) (by rfl) T.m_how_many_less T.F_how_many_less.kp T.b_how_many_less .nil pass0 (pa_cons (cv 0) (pa_cons (cv 1) (pa_cons (cv 2) pa_nil)))))
    (pss_cons (ps_set (i := 4) nd rfl (Or.inr rfl) (pe_maxD rfl (by rfl) T.n_max (pa_cons (pe_comp (blk_mk (cap := [0, 2]) (ys := ["text", "part"]) rfl rfl rfl rfl rfl ⟨⟨rfl, rfl, .inl rfl⟩, ⟨⟨rfl, rfl, .inl rfl⟩, trivial⟩⟩ (by decide +kernel)) rfl (pi_list (pe_slice sl_list (cv 1) (po_some (pe_callB (c_max2 rfl) (by rfl) T.n_max bt_max (pa_cons (pe_op o_sub (cv 3) pe_int) (pa_cons pe_int pa_nil)))) (po_some (pe_op o_add (cv 3) pe_int)))) (fun _ _ _ _ => (pe_call (ok_agreeing T) (hr.mono (by decide)) (by rfl) T.m_agreeing T.F_agreeing.kp T.b_agreeing .nil pass0 (pa_cons (cv 1) (pa_cons (cv 0) (pa_cons (cv 2) pa_nil))))) (fun _ _ _ _ => cts_nil)) pa_nil) pe_int))
    (pss_cons (cs_if (ct_cmp o_eqI (cv 4) pe_int) (pss_one (ps_ret (pe_tup (pa_cons pe_int (pa_cons pe_int pa_nil))))) pss_nil)
    (pss_cons (ps_set (i := 5) nd rfl (Or.inr rfl) (pe_slice sl_list (cv 2) po_none (po_some (cv 4))))
    (pss_one (ps_ret (pe_tup (pa_cons (pe_callB (call_minI rfl) (by rfl) T.n_min bt_min (pa_cons (pe_comp (blk_mk (cap := [0, 4, 5]) (ys := ["text", "count", "beginning"]) rfl rfl rfl rfl rfl ⟨⟨rfl, rfl, .inl rfl⟩, ⟨⟨rfl, rfl, .inl rfl⟩, ⟨⟨rfl, rfl, .inl rfl⟩, trivial⟩⟩⟩ (by decide +kernel)) rfl (pi_list (cv 1)) (fun _ _ _ _ => (cv 0)) (fun _ _ _ _ => (cts_one (ct_cmp (deqK (K := K) rfl hr.units) (pe_slice (sl_listK (K := K) rfl) (cv 1) (po_some (cv 0)) (po_some (pe_op o_add (cv 0) (cv 2)))) (cv 3))))) pa_nil)) (pa_cons (cv 4) pa_nil))))))))), ?_⟩
    walk_at "w"
    refine ⟨e, t, q, es, ps, p, rfl, he, ht, hq, hp, fun L H1 s1 hL => ?_⟩
    walk_at "w"
    refine ⟨_, rfl, ?_⟩
    walk_at "w"
    refine ⟨_, rfl, ?_⟩
    walk_at "w"
    refine ⟨t, _, rfl, SqL.of (s1.at ht), ?_⟩
    intro d hd
    generalize hUd : upd H1 d _ = H2
    have sH2 := Same.of_eq hd hUd
    have ed := at_of_eq hUd
    clear hUd
    walk_at "w"
    rw [cut_around p L hL.1] at ed
    have s2 := s1.trans sH2
    have ba : (around p L).length ≤ 64 := by
      have e1 : (around p L).length ≤ p.length := by unfold around; rw [List.length_take, List.length_drop]; omega
      have e2 := hp.1.length_eq
      rw [List.length_range] at e2
      omega
    refine ⟨d, rfl, ⟨_, SqL.of ed⟩, ?_⟩
    refine comp_list (fun v => match v with | .int x => .int (lcp (es.drop x.toNat) ps : Nat) | v => v) (SqL.of ed) (by rw [List.length_map, sizeLine_eq]; omega) (fun x H3 hx s3 R hR => ?_) (fun D G hD sG eD => ?_)
    · obtain ⟨b, hb, rfl⟩ := List.mem_map.mp hx
      walk_at "w"
      exact ⟨e, q, es, ps, b, rfl, (s2.trans s3).at he, (s2.trans s3).at hq, Nat.le_of_lt (around_in hp hb), hR H3 (Same.refl _)⟩
    have eD' : G D = some (.lst (((around p L).map fun b => ((lcp (es.drop b) ps : Nat) : Int)).map V.int)) := by
      rw [eD, List.map_map, List.map_map]; rfl
    have s4 := s2.trans sG
    walk_at "w"
    refine ⟨D, _, _, rfl, rfl, SqL.of eD', fun m m1 m2 => ?_⟩
    obtain ⟨c, rfl, hle, hc⟩ := best_max hp hL m1 m2
    walk_at "w"
    refine ⟨fun e1 => ?_, fun e1 => ?_⟩
    · have c0 : c = 0 := by have := of_decide_eq_true e1; omega
      subst c0
      walk_at "w"
      walk_at "ss"
      intro z hz
      generalize hUz : upd G z _ = G2
      have sG2 := Same.of_eq hz hUz
      have ez := at_of_eq hUz
      clear hUz
      walk_at "w"
      exact k z 0 0 G2 (s4.trans sG2) (s4.back hz) ez ⟨hle, .inl ⟨rfl, rfl⟩⟩
    · have c0 : 0 < c := by have := of_decide_eq_false e1; omega
      obtain ⟨a0, ha0, ea0⟩ := hc.resolve_left (by omega)
      have cl : c ≤ ps.length := by rw [← ea0]; exact lcp_le _ _
      walk_at "w"
      refine ⟨_, rfl, ?_⟩
      walk_at "w"
      refine ⟨q, _, rfl, SqL.of (s4.at hq), ?_⟩
      intro b hb
      generalize hUb : upd G b _ = G2
      have sG2 := Same.of_eq hb hUb
      have eb := at_of_eq hUb
      clear hUb
      walk_at "w"
      rw [cut_to] at eb
      have s5 := s4.trans sG2
      refine ⟨t, rfl, ⟨_, SqL.of (s5.at ht)⟩, ?_⟩
      refine comp_listF (fun v => match v with | .int x => decide ((es.drop x.toNat).take c = ps.take c) | _ => false) (fun v => v) (SqL.of (s5.at ht)) (by rw [List.length_map, sizeLine_eq, hp.1.length_eq, List.length_range]; omega) (fun x H3 hx s3 R hR => ?_) (fun x H3 hx _ s3 R hR => ?_) (fun D2 G3 hD2 sG3 eD2 => ?_)
      · obtain ⟨i, hi, rfl⟩ := List.mem_map.mp hx
        have hi' : i < es.length := List.mem_range.mp (hp.1.mem_iff.mp hi)
        walk_at "w"
        refine ⟨_, rfl, ?_⟩
        walk_at "w"
        refine ⟨_, rfl, ?_⟩
        walk_at "w"
        refine ⟨e, _, rfl, SqL.of ((s5.trans s3).at he), ?_⟩
        intro g hg
        generalize hUg : upd H3 g _ = H4
        have sH4 := Same.of_eq hg hUg
        have eg := at_of_eq hUg
        clear hUg
        walk_at "w"
        rw [cut_mid es i c (by omega)] at eg
        refine leq_imp (f := fun b => b) ⟨g, b, _, _, rfl, rfl, SqL.of eg, SqL.of ((s3.trans sH4).at eb), ?_⟩
        exact hR H4 sH4
      · walk_at "w"
        exact hR H3 (Same.refl _)
      have eD3 : G3 D2 = some (.lst (((p.filter fun i => decide ((es.drop i).take c = ps.take c)).map fun (i : Nat) => (i : Int)).map V.int)) := by
        rw [eD2, List.map_id', List.filter_map, List.map_map]; rfl
      have s6 := s5.trans sG3
      have mf : ∀ i, i ∈ (p.filter fun i => decide ((es.drop i).take c = ps.take c)) ↔ i < es.length ∧ c ≤ lcp (es.drop i) ps := fun i => by
        rw [List.mem_filter, hp.1.mem_iff, List.mem_range, decide_eq_true_iff, lcp_take cl]
      walk_at "w"
      refine ⟨D2, _, rfl, SqL.of eD3, ?_, fun m m1 m2 => ?_⟩
      · intro z
        have := (mf a0).mpr ⟨ha0, by omega⟩
        rw [List.map_eq_nil_iff.mp z] at this
        cases this
      obtain ⟨i, hi, rfl⟩ := List.mem_map.mp m1
      obtain ⟨hi1, hi2⟩ := (mf i).mp hi
      walk_at "w"
      walk_at "ss"
      intro z hz
      generalize hUz : upd G3 z _ = G4
      have sG4 := Same.of_eq hz hUz
      have ez := at_of_eq hUz
      clear hUz
      walk_at "w"
      exact k z i c G4 (s6.trans sG4) (s6.back hz) ez (best_of hle c0 hi1 hi2 fun j hj1 hj2 => by
        have := m2 _ (List.mem_map_of_mem (f := fun (i : Nat) => (i : Int)) ((mf j).mpr ⟨hj1, hj2⟩))
        omega)
theorem ok_alike (T : Txt K mg a) : FnOk P w K mg base CX0 1 a.f_alike a.d_alike ["_law_text", "_law_at", "_law_part"] sp_alike := by
  refine T.F_alike.ok sc_alike (fun vs H Q E h => ?_) (fun cdv A outer s H vs Q E hr h => ?_)
  · obtain ⟨e, q, es, ps, i, rfl, _⟩ := h; rfl
  · obtain ⟨e, q, es, ps, i, rfl, he, hq, hi, k⟩ := h
    have nd := sc_alike.nd
    refine ⟨_, (pss_cons (ps_set (i := 3) nd rfl (Or.inl rfl) pe_int)
    (pss_cons (cs_while PassesOwn.never (PW.pt (cw_and (ct_cmp o_lt (cv 3) (pe_callB call_len_seq (by rfl) T.n_len bt_len (pa_cons (cv 2) pa_nil))) (cw_and (ct_cmp o_lt (pe_op o_add (cv 1) (cv 3)) (pe_callB call_len_seq (by rfl) T.n_len bt_len (pa_cons (cv 0) pa_nil))) (pw_and1 (ct_cmp o_eqI (pe_ix ix_list (cv 0) (pe_op o_add (cv 1) (cv 3)) (fun _ _ => rfl)) (pe_ix ix_list (cv 2) (cv 3) (fun _ _ => rfl))))))) (pss_one (ps_set (i := 3) nd rfl (Or.inl rfl) (pe_op o_add (cv 3) pe_int))))
    (pss_one (ps_ret (cv 3))))), ?_⟩
    walk_at "w"
    refine whileAt_inv (m := ps.length) (fun m σ G => G = H ∧ ∃ x : Nat, m = ps.length - x ∧ σ = [some (.ref e), some (.int i), some (.ref q), some (.int x)] ∧ x ≤ ps.length ∧ i + x ≤ es.length ∧ (es.drop i).take x = ps.take x) ⟨rfl, 0, rfl, rfl, Nat.zero_le _, by omega, by simp⟩ (fun m σ G hP => ?_)
    obtain ⟨rfl, x, rfl, rfl, hx, hy, heq⟩ := hP
    have done : ((es.drop i).length > x → ps.length > x → (es.drop i).take (x + 1) ≠ ps.take (x + 1)) → Q (.int x) G := fun hn => by
      rw [lcp_stop heq hx (fun h1 h2 => hn h1 h2) (by rw [List.length_drop]; omega)] at k
      exact k
    walk_at "w"
    refine ⟨q, _, rfl, .inl (SqL.of hq), ?_⟩
    walk_at "w"
    rw [List.length_map]
    refine ⟨fun e1 => ?_, fun e1 => ?_⟩
    · have h1 : x < ps.length := by have := of_decide_eq_true e1; omega
      walk_at "w"
      refine ⟨e, _, rfl, .inl (SqL.of he), ?_⟩
      walk_at "w"
      rw [List.length_map]
      refine ⟨fun e2 => ?_, fun e2 => ?_⟩
      · have h2 : i + x < es.length := by have := of_decide_eq_true e2; omega
        have h3 : x < (es.drop i).length := by rw [List.length_drop]; omega
        walk_at "w"
        refine ⟨e, _, _, .int es[i + x], rfl, rfl, SqL.of he, atI_in (by omega) (by rw [show ((i : Int) + (x : Int)).toNat = i + x by omega]; simp [h2]), ?_⟩
        walk_at "w"
        refine ⟨q, _, _, .int ps[x], rfl, rfl, SqL.of hq, atI_nat (by simp [h1]), ?_⟩
        walk_at "w"
        have st := lcp_step heq h3 h1
        rw [List.getElem_drop] at st
        refine ⟨fun e3 => ?_, fun e3 => ?_⟩
        · have e4 := st.mp (by simpa using e3)
          refine ⟨fun σ' G' => ∃ m', m' < ps.length - x ∧ G' = G ∧ ∃ x : Nat, m' = ps.length - x ∧ σ' = [some (.ref e), some (.int i), some (.ref q), some (.int x)] ∧ x ≤ ps.length ∧ i + x ≤ es.length ∧ (es.drop i).take x = ps.take x, fun _ _ z => z, ?_⟩
          walk_at "w"
          exact ⟨ps.length - (x + 1), by omega, rfl, x + 1, rfl, rfl, by omega, by omega, e4⟩
        · walk_at "w"
          refine done fun _ _ z => ?_
          have := st.mpr z
          simp [this] at e3
      · refine ⟨by walk_at "no", fun _ => ?_⟩
        walk_at "w"
        have := of_decide_eq_false e2
        exact done fun h1 _ => by rw [List.length_drop] at h1; omega
    · refine ⟨by walk_at "no", fun _ => ?_⟩
      walk_at "w"
      have := of_decide_eq_false e1
      exact done fun _ h2 => by omega
theorem ok_put_ending_at (T : Txt K mg a) : FnOk P w K mg base CX0 4 a.f_put_ending_at a.d_put_ending_at ["end", "signs"] (sp_put_ending_at K a) := by
  refine T.F_put_ending_at.ok sc_put_ending_at (fun vs H Q E h => ?_) (fun cdv A outer s H vs Q E hr h => ?_)
  · obtain ⟨q, i, xs, rfl, _⟩ := h; rfl
  · obtain ⟨q, i, xs, rfl, hq, k⟩ := h
    have nd := sc_put_ending_at.nd
    refine ⟨_, (pss_cons (cs_if (ct_cmp o_eqI (pe_callB call_len_seq (by rfl) T.n_len bt_len (pa_cons (cv 1) pa_nil)) pe_int) (pss_one (ps_ret (pe_lst pa_nil))) pss_nil)
    (pss_one (ps_ret (pe_lst (pa_cons (pe_make T.mk_Put (ok_Put_init T) (hr.mono (by decide)) (by rfl) T.m_Put T.b_Put_init .nil pass0 (pa_cons (pe_op o_sub (cv 0) (pe_callB call_len_seq (by rfl) T.n_len bt_len (pa_cons (cv 1) pa_nil))) (pa_cons (cv 1) pa_nil))) pa_nil))))), ?_⟩
    walk_at "w"
    refine ⟨q, _, rfl, .inl (SqL.of hq), ?_⟩
    walk_at "w"
    rw [List.length_map]
    refine ⟨fun e1 => ?_, fun e1 => ?_⟩
    · have h0 : xs = [] := List.length_eq_zero_iff.mp (by have := of_decide_eq_true e1; omega)
      walk_at "w"
      walk_at "ss"
      intro l hl
      generalize hUl : upd H l _ = H1
      have sH1 := Same.of_eq hl hUl
      have el := at_of_eq hUl
      clear hUl
      walk_at "w"
      exact k l [] H1 sH1 hl el (by unfold endPut; rw [if_pos h0]; exact .nil)
    · have h0 : xs ≠ [] := fun z => by rw [z] at e1; simp at e1
      walk_at "w"
      refine ⟨q, _, rfl, .inl (SqL.of hq), ?_⟩
      walk_at "w"
      rw [List.length_map]
      intro x xdx hx hxdx nex
      generalize hUx : upd H xdx (.own x) = H1
      have sH1 := Same.of_eq hxdx hUx
      have hx3 : H1 x = none := by rw [← hUx, upd_ne (Ne.symm nex)]; exact hx
      refine ⟨x, xdx, q, _, xs, rfl, upd_same, (Same.new hx3).at (sH1.at hq), fun u H4 hu o4 e4 eu => ⟨rfl, ?_⟩⟩
      have s4 : Same H H4 := fun b o z => o4 b o (fun y => by rw [y, hx] at z; cases z) ((sH1.trans (Same.new hx3)).at z)
      have nux : u ≠ x := fun z => by rw [z, upd_same] at hu; cases hu
      walk_at "w"
      walk_at "ss"
      intro l hl
      generalize hUl : upd H4 l _ = H5
      have sH5 := Same.of_eq hl hUl
      have el := at_of_eq hUl
      clear hUl
      walk_at "w"
      refine k l [x] H5 (s4.trans sH5) (s4.back hl) el ?_
      unfold endPut
      rw [if_neg h0]
      exact .cons ⟨xdx, u, sH5.at e4, sH5.at eu⟩ .nil
theorem ok_rows_found (T : Txt K mg a) : FnOk P w K mg base CX0 5 a.f_rows_found a.d_rows_found ["elder", "newer", "least"] (sp_rows_found K a) := by
  refine T.F_rows_found.ok sc_rows_found (fun vs H Q E h => ?_) (fun cdv A outer s H vs Q E hr h => ?_)
  · obtain ⟨e, n, es, ns, least, rfl, _⟩ := h; rfl
  · obtain ⟨e, n, es, ns, least, rfl, hP, he, hn, h64, h100, hls, k⟩ := h
    have nd := sc_rows_found.nd
    refine ⟨_, (pss_cons (ps_set (i := 3) nd rfl (Or.inl rfl) (pe_call (ok_endings T) (hr.mono (by decide)) (by rfl) T.m_endings T.F_endings.kp T.b_endings .nil pass0 (pa_cons (cv 0) pa_nil)))
    (pss_cons (ps_set (i := 4) nd rfl (Or.inl rfl) (pe_lst pa_nil))
    (pss_cons (ps_set (i := 5) nd rfl (Or.inl rfl) (pe_lst pa_nil))
    (pss_cons (ps_set (i := 6) nd rfl (Or.inl rfl) pe_int)
    (pss_cons (cs_while PassesOwn.never (ct_cmp o_lt (cv 6) (pe_callB call_len_seq (by rfl) T.n_len bt_len (pa_cons (cv 1) pa_nil))) (pss_cons (ps_set (i := 7) nd rfl (Or.inl rfl) (pe_call (ok_longest T) (hr.mono (by decide)) (by rfl) T.m_longest T.F_longest.kp T.b_longest .nil pass0 (pa_cons (cv 0) (pa_cons (cv 3) (pa_cons (pe_slice sl_list (cv 1) (po_some (cv 6)) po_none) pa_nil)))))
    (pss_cons (ps_set (i := 8) nd rfl (Or.inl rfl) (pe_ix ix_tup (cv 7) pe_int (fun _ _ => rfl)))
    (pss_one (cs_if (PW.pt (cw_and (ct_cmp o_gt (cv 8) pe_int) (pw_and1 (ct_cmp o_ge (cv 8) (cv 2))))) (pss_cons (ps_expr (pe_bm PySem.F.plainAttrs_list PySem.F.slot_list_extend PySem.F.type_list_extend mt_extend (cv 4) (pa_cons (pe_call (ok_put_ending_at T) (hr.mono (by decide)) (by rfl) T.m_put_ending_at T.F_put_ending_at.kp T.b_put_ending_at .nil pass0 (pa_cons (cv 6) (pa_cons (cv 5) pa_nil))) pa_nil)))
    (pss_cons (ps_expr (pe_bm PySem.F.plainAttrs_list PySem.F.slot_list_append PySem.F.type_list_append mt_append (cv 4) (pa_cons (pe_make T.mk_Take (ok_Take_init T) (hr.mono (by decide)) (by rfl) T.m_Take T.b_Take_init .nil pass0 (pa_cons (cv 6) (pa_cons (pe_ix ix_tup (cv 7) pe_int (fun _ _ => rfl)) (pa_cons (cv 8) pa_nil)))) pa_nil)))
    (pss_cons (ps_set (i := 5) nd rfl (Or.inl rfl) (pe_lst pa_nil))
    (pss_one (ps_set (i := 6) nd rfl (Or.inl rfl) (pe_op o_add (cv 6) (cv 8))))))) (pss_cons (ps_expr (pe_bm PySem.F.plainAttrs_list PySem.F.slot_list_append PySem.F.type_list_append mt_append (cv 5) (pa_cons (pe_ix ix_list (cv 1) (cv 6) (fun _ _ => rfl)) pa_nil)))
    (pss_one (ps_set (i := 6) nd rfl (Or.inl rfl) (pe_op o_add (cv 6) pe_int)))))))))
    (pss_one (ps_ret (pe_op op_cat (cv 4) (pe_call (ok_put_ending_at T) (hr.mono (by decide)) (by rfl) T.m_put_ending_at T.F_put_ending_at.kp T.b_put_ending_at .nil pass0 (pa_cons (cv 6) (pa_cons (cv 5) pa_nil))))))))))), ?_⟩
    walk_at "w"
    refine ⟨e, es, rfl, hP, he, h64, fun t p H1 s1 ht et hp => ?_⟩
    have he1 := s1.at he
    have hn1 := s1.at hn
    walk_at "w"
    walk_at "ss"
    intro rl hrl
    generalize hUrl : upd H1 rl _ = H2
    have sH2 := Same.of_eq hrl hUrl
    have erl := at_of_eq hUrl
    clear hUrl
    walk_at "w"
    walk_at "ss"
    intro sl hsl
    generalize hUsl : upd H2 sl _ = H3
    have sH3 := Same.of_eq hsl hUsl
    have esl := at_of_eq hUsl
    clear hUsl
    walk_at "w"
    have nrs : rl ≠ sl := fun z => by rw [← z, erl] at hsl; cases hsl
    refine whileAt_inv (m := ns.length) (fun m σ G => Same H1 G ∧ ∃ (rl sl : Addr) (os : List Addr) (rs : List RowD) (sg : List Int) (i : Nat) (x7 x8 : Option V), m = ns.length - (i + sg.length) ∧ σ = [some (.ref e), some (.ref n), some (.int least), some (.ref t), some (.ref rl), some (.ref sl), some (.int (i + sg.length : Nat)), x7, x8] ∧
        H1 rl = none ∧ H1 sl = none ∧ rl ≠ sl ∧ G rl = some (.lst (os.map V.ref)) ∧ Paired (ObjAt K a G) os rs ∧ os.length ≤ 2 * i ∧ G sl = some (.lst (sg.map V.int)) ∧ i + sg.length ≤ ns.length ∧ sg = (ns.drop i).take sg.length ∧ (∀ k, k < sg.length → NoBest es (ns.drop (i + k)) least) ∧ RightTo es ns least 0 false rs i false)
      ⟨sH2.trans sH3, rl, sl, [], [], [], 0, _, _, rfl, rfl, hrl, sH2.back hsl, nrs, sH3.at erl, .nil, Nat.le_refl _, esl, Nat.zero_le _, rfl, fun k hk => absurd hk (Nat.not_lt_zero _), rfl, rfl⟩ (fun m σ G hP => ?_)
    clear sH2 sH3 erl esl hrl hsl nrs H2 H3 rl sl
    obtain ⟨sG, rl, sl, os, rs, sg, i, x7, x8, rfl, rfl, hrl, hsl, nrs, erl, hpo, hos, esl, hle, hsg, hnb, hri⟩ := hP
    have hol := hpo.length
    walk_at "w"
    refine ⟨n, _, rfl, .inl (SqL.of (sG.at hn1)), ?_⟩
    walk_at "w"
    rw [List.length_map]
    refine ⟨fun e1 => ?_, fun e1 => ?_⟩
    · have h1 : i + sg.length < ns.length := by have := of_decide_eq_true e1; omega
      refine ⟨fun σ' G' => ∃ m', m' < ns.length - (i + sg.length) ∧ Same H1 G' ∧ ∃ (rl sl : Addr) (os : List Addr) (rs : List RowD) (sg : List Int) (i : Nat) (x7 x8 : Option V), m' = ns.length - (i + sg.length) ∧ σ' = [some (.ref e), some (.ref n), some (.int least), some (.ref t), some (.ref rl), some (.ref sl), some (.int (i + sg.length : Nat)), x7, x8] ∧
        H1 rl = none ∧ H1 sl = none ∧ rl ≠ sl ∧ G' rl = some (.lst (os.map V.ref)) ∧ Paired (ObjAt K a G') os rs ∧ os.length ≤ 2 * i ∧ G' sl = some (.lst (sg.map V.int)) ∧ i + sg.length ≤ ns.length ∧ sg = (ns.drop i).take sg.length ∧ (∀ k, k < sg.length → NoBest es (ns.drop (i + k)) least) ∧ RightTo es ns least 0 false rs i false, fun _ _ z => z, ?_⟩
      walk_at "w"
      refine ⟨_, rfl, ?_⟩
      walk_at "w"
      refine ⟨n, _, rfl, SqL.of (sG.at hn1), ?_⟩
      intro d hd
      generalize hUd : upd G d _ = G1
      have sG1 := Same.of_eq hd hUd
      have ed := at_of_eq hUd
      clear hUd
      walk_at "w"
      rw [cut_from] at ed
      have s01 := sG.trans sG1
      refine ⟨e, t, d, es, ns.drop (i + sg.length), p, rfl, s01.at he1, s01.at et, ed, hp, h64, by rw [List.length_drop]; omega, fun r a1 c G2 s2 hr2 er hb => ?_⟩
      have s02 := s01.trans s2
      have sg2 := sG1.trans s2
      walk_at "w"
      refine ⟨r, _, _, .int c, rfl, rfl, SqT.of er, rfl, ?_⟩
      have esl2 := sg2.at esl
      have erl2 := sg2.at erl
      have hpo2 := L2.Paired.imp' (fun _ _ z => ObjAt.same z sg2) hpo
      have more : (c : Int) < least → ∀ G3 x7 x8, upd G2 sl (.lst (sg.map V.int ++ [.int ns[i + sg.length]])) = G3 → ∃ m', m' < ns.length - (i + sg.length) ∧ Same H1 G3 ∧ ∃ (rl' sl' : Addr) (os : List Addr) (rs : List RowD) (sg' : List Int) (i' : Nat) (x7' x8' : Option V), m' = ns.length - (i' + sg'.length) ∧ [some (.ref e), some (.ref n), some (.int least), some (.ref t), some (.ref rl), some (.ref sl), some (.int (((i + sg.length : Nat) : Int) + 1)), x7, x8] = [some (.ref e), some (.ref n), some (.int least), some (.ref t), some (.ref rl'), some (.ref sl'), some (V.int (i' + sg'.length : Nat)), x7', x8'] ∧
        H1 rl' = none ∧ H1 sl' = none ∧ rl' ≠ sl' ∧ G3 rl' = some (.lst (os.map V.ref)) ∧ Paired (ObjAt K a G3) os rs ∧ os.length ≤ 2 * i' ∧ G3 sl' = some (.lst (sg'.map V.int)) ∧ i' + sg'.length ≤ ns.length ∧ sg' = (ns.drop i').take sg'.length ∧ (∀ k, k < sg'.length → NoBest es (ns.drop (i' + k)) least) ∧ RightTo es ns least 0 false rs i' false := fun hc G3 x7 x8 hU => by
        have hl1 : (sg ++ [ns[i + sg.length]]).length = sg.length + 1 := by rw [List.length_append]; rfl
        refine ⟨ns.length - (i + (sg ++ [ns[i + sg.length]]).length), by omega, Same.wr s02 hsl hU, rl, sl, os, rs, sg ++ [ns[i + sg.length]], i, x7, x8, rfl, ?_, hrl, hsl, nrs, by rw [← hU, upd_ne nrs]; exact erl2, ?_, hos, by rw [at_of_eq hU, List.map_append]; rfl, by omega, take_more hsg h1, fun k hk => ?_, hri⟩
        · rw [hl1, show ((i + (sg.length + 1) : Nat) : Int) = ((i + sg.length : Nat) : Int) + 1 by omega]
        · rw [← hU]; exact L2.Paired.imp' (fun _ _ z => ObjAt.off z esl2) hpo2
        · rw [hl1] at hk
          by_cases z : k = sg.length
          · rw [z]; exact NoBest.of hb hc
          · exact hnb k (by omega)
      walk_at "w"
      refine ⟨fun e2 => ?_, fun e2 => ?_⟩
      · have c0 : 0 < c := by have := of_decide_eq_true e2; omega
        walk_at "w"
        refine ⟨fun e3 => ?_, fun e3 => ?_⟩
        · have c1 : least ≤ (c : Int) := by have := of_decide_eq_true e3; omega
          walk_at "w"
          refine ⟨.inl ⟨rfl, _, SqL.of erl2⟩, ?_⟩
          walk_at "w"
          refine ⟨sl, _, sg, rfl, esl2, fun l os2 G3 s3 hl el hp2 => ?_⟩
          have erl3 := s3.at erl2
          have hpo3 := L2.Paired.imp' (fun _ _ z => ObjAt.same z s3) hpo2
          have l2 : os2.length ≤ 1 := by
            have := hp2.length
            have := endPut_len ((i + sg.length : Nat) : Int) sg
            omega
          walk_at "w"
          refine ⟨rl, l, _, _, rfl, rfl, erl3, el, by rw [List.length_map, List.length_map, sizeLine_eq]; omega, ?_⟩
          generalize hU : upd G3 rl _ = G4
          have s04 := Same.wr (s02.trans s3) hrl hU
          have erl4 := at_of_eq hU
          have hpo4 : Paired (ObjAt K a G4) (os ++ os2) (rs ++ endPut ((i + sg.length : Nat) : Int) sg) := by
            rw [← hU]
            exact paired_app (L2.Paired.imp' (fun _ _ z => ObjAt.off z erl3) hpo3) (L2.Paired.imp' (fun _ _ z => ObjAt.off z erl3) hp2)
          have er4 : G4 r = some (.tup [.int a1, .int c]) := by rw [← hU, upd_ne (ne_of (s3.at er) erl3 (by intro z; cases z))]; exact s3.at er
          clear hU
          rw [← List.map_append] at erl4
          walk_at "w"
          refine ⟨.inl ⟨rfl, _, SqL.of erl4⟩, ?_⟩
          walk_at "w"
          refine ⟨r, _, _, .int a1, rfl, rfl, SqT.of er4, rfl, ?_⟩
          walk_at "w"
          intro x xdx hx hxdx nex
          generalize hUx : upd G4 xdx (.own x) = G5
          have sG5 := Same.of_eq hxdx hUx
          have hx3 : G5 x = none := by rw [← hUx, upd_ne (Ne.symm nex)]; exact hx
          refine ⟨x, xdx, _, _, _, rfl, upd_same, rfl, ?_⟩
          rw [upd_upd]
          generalize hVx : upd G5 x _ = G6
          have sG6 := Same.of_eq hx3 hVx
          have ex := at_of_eq hVx
          walk_at "w"
          have s46 := sG5.trans sG6
          refine ⟨rl, _, _, rfl, rfl, s46.at erl4, by rw [List.length_map, List.length_append, sizeLine_eq]; omega, ?_⟩
          generalize hU : upd G6 rl _ = G8
          have s08 := Same.wr (s04.trans s46) hrl hU
          have erl8 := at_of_eq hU
          have hpo8 : Paired (ObjAt K a G8) (os ++ os2 ++ [x]) (rs ++ endPut ((i + sg.length : Nat) : Int) sg ++ [.take (i + sg.length : Nat) a1 c]) := by
            rw [← hU]
            refine paired_app (L2.Paired.imp' (fun _ _ z => ObjAt.off (ObjAt.same z s46) (s46.at erl4)) hpo4) (.cons ?_ .nil)
            exact ObjAt.off (r := .take (i + sg.length : Nat) a1 c) ⟨xdx, ex⟩ (s46.at erl4)
          clear hU
          walk_at "w"
          walk_at "ss"
          intro sz hsz
          generalize hUsz : upd G8 sz _ = G9
          have sG9 := Same.of_eq hsz hUsz
          have esz := at_of_eq hUsz
          clear hUsz
          walk_at "w"
          obtain ⟨rt, hlt⟩ := RightTo.take (b := decide (sg ≠ [])) (Nat.le_of_lt h1) c0 c1 hb
          refine ⟨ns.length - (i + sg.length + c), by omega, s08.trans sG9, rl, sz, os ++ os2 ++ [x], _, [], i + sg.length + c, some (.ref r), some (.int c), rfl, ?_, hrl, s08.back hsz, (fun z => by rw [← z, erl8] at hsz; cases hsz), ?_, L2.Paired.imp' (fun _ _ z => ObjAt.same z sG9) hpo8, ?_, esz, by simpa using hlt, by simp, fun k hk => absurd hk (Nat.not_lt_zero _), (hri.app (RightTo.put hle hsg hnb)).app rt⟩
          · have ec : ((i + sg.length + c + ([] : List Int).length : Nat) : Int) = ((i + sg.length : Nat) : Int) + (c : Int) := by show ((i + sg.length + c : Nat) : Int) = _; omega
            rw [ec]; rfl
          · rw [sG9.at erl8]; simp
          · simp; omega
        · have c1 : (c : Int) < least := by have := of_decide_eq_false e3; omega
          walk_at "w"
          refine ⟨.inl ⟨rfl, _, SqL.of esl2⟩, ?_⟩
          walk_at "w"
          refine ⟨n, _, _, .int ns[i + sg.length], rfl, rfl, SqL.of (s02.at hn1), atI_nat (by simp [h1]), ?_⟩
          walk_at "w"
          refine ⟨sl, _, _, rfl, rfl, esl2, by rw [List.length_map, sizeLine_eq]; omega, ?_⟩
          exact more c1 _ _ _ rfl
      · have c1 : (c : Int) < least := by have := of_decide_eq_false e2; omega
        refine ⟨by walk_at "no", fun _ => ?_⟩
        walk_at "w"
        refine ⟨.inl ⟨rfl, _, SqL.of esl2⟩, ?_⟩
        walk_at "w"
        refine ⟨n, _, _, .int ns[i + sg.length], rfl, rfl, SqL.of (s02.at hn1), atI_nat (by simp [h1]), ?_⟩
        walk_at "w"
        refine ⟨sl, _, _, rfl, rfl, esl2, by rw [List.length_map, sizeLine_eq]; omega, ?_⟩
        exact more c1 _ _ _ rfl
    · have h1 : i + sg.length = ns.length := by have := of_decide_eq_false e1; omega
      walk_at "w"
      refine ⟨sl, _, sg, rfl, esl, fun l os2 G3 s3 hl el hp2 => ?_⟩
      walk_at "w"
      have l2 : os2.length ≤ 1 := by
        have := hp2.length
        have := endPut_len ((i + sg.length : Nat) : Int) sg
        omega
      refine ⟨rl, l, _, _, rfl, rfl, s3.at erl, el, by rw [List.length_map, List.length_map, sizeLine_eq]; omega, ?_⟩
      intro z hz
      generalize hUz : upd G3 z _ = G4
      have sG4 := Same.of_eq hz hUz
      have ez := at_of_eq hUz
      clear hUz
      walk_at "w"
      have s4 := s1.trans (sG.trans s3)
      refine k z (os ++ os2) _ (decide (sg ≠ [])) G4 (s4.trans sG4) (s4.back hz) (by rw [ez, List.map_append]) (paired_app (L2.Paired.imp' (fun _ _ z => ObjAt.same z (s3.trans sG4)) hpo) (L2.Paired.imp' (fun _ _ z => ObjAt.same z sG4) hp2)) ?_
      have := hri.app (RightTo.put hle hsg hnb)
      rw [h1] at this
      rw [h1]
      exact this
theorem ok_found (T : Txt K mg a) : FnOk P w K mg base CX0 6 a.f_found a.d_found ["elder", "newer", "least"] (sp_found K) := by
  refine T.F_found.ok sc_found (fun vs H Q E h => ?_) (fun cdv A outer s H vs Q E hr h => ?_)
  · obtain ⟨e, n, es, ns, least, rfl, _⟩ := h; rfl
  · obtain ⟨e, n, es, ns, least, rfl, hP, he, hn, h64, h100, hls, k⟩ := h
    have nd := sc_found.nd
    refine ⟨_, (pss_one (ps_ret (pe_comp (blk_mk (cap := []) (ys := []) rfl rfl rfl rfl rfl trivial (by decide +kernel)) rfl (pi_list (pe_call (ok_rows_found T) (hr.mono (by decide)) (by rfl) T.m_rows_found T.F_rows_found.kp T.b_rows_found .nil pass0 (pa_cons (cv 0) (pa_cons (cv 1) (pa_cons (cv 2) pa_nil))))) (fun _ _ _ _ => (pe_alt (pe_meth0 (cv 0) T.c_Put T.me_Put_told (ok_Put_told T) (hr.mono (by decide)) T.b_Put_told .nil pass0) (pe_meth0 (cv 0) T.c_Take T.me_Take_told (ok_Take_told T) (hr.mono (by decide)) T.b_Take_told .nil pass0))) (fun _ _ _ _ => cts_nil)))), ?_⟩
    walk_at "w"
    refine ⟨e, n, es, ns, least, rfl, hP, he, hn, h64, h100, hls, fun l os rs b H1 s1 hl el hpo hri => ?_⟩
    walk_at "w"
    refine ⟨l, rfl, ⟨_, SqL.of el⟩, ?_⟩
    have hol := hpo.length
    have hb := RightTo.few hri
    refine comp_listP (fun i acc G => ∃ ts : List Addr, acc = ts.map V.ref ∧ Paired (TupAt K G) ts (rs.take i)) (SqL.of el) (by rw [List.length_map, sizeLine_eq]; omega) ⟨[], rfl, by rw [List.take_zero]; exact .nil⟩ (fun i x acc H3 H3' hx s3 s3' hP R hR => ?_) (fun D acc H3 H3' hD hD3 s3 s3' hP hl2 hv => ?_)
    · obtain ⟨ts, rfl, hts⟩ := hP
      rw [List.getElem?_map] at hx
      cases hc0 : os[i]? with
      | none => rw [hc0] at hx; cases hx
      | some y =>
      rw [hc0] at hx
      cases hx
      obtain ⟨r, hr', ho⟩ := paired_get1 hpo hc0
      walk_at "w"
      refine callTold (ObjAt.same ho (s3.trans s3')) fun t H4 s4 ht4 => hR _ _ s4 fun G7 s7 k7 => ⟨ts ++ [t], by simp, ?_⟩
      rw [List.take_succ, hr']
      exact paired_snoc (ht4.mv k7) (L2.Paired.imp' (fun _ _ z => TupAt.same z s7) hts)
    · obtain ⟨ts, rfl, hts⟩ := hP
      rw [List.length_map, hol, List.take_length] at hts
      exact k D ts rs b H3' (s1.trans (s3.trans s3')) (s1.back hD) hv (L2.Paired.imp' (fun _ _ z => TupAt.same z s3') hts) hri
theorem ok_cell_at (T : Txt K mg a) : FnOk P w K mg base CX0 1 a.f_cell_at a.d_cell_at ["_law_script", "_law_k"] (sp_cell_at K) := by
  refine T.F_cell_at.ok sc_cell_at (fun vs H Q E h => ?_) (fun cdv A outer s H vs Q E hr h => ?_)
  · obtain ⟨l, ns, k, rfl, _⟩ := h; rfl
  · obtain ⟨l, ns, k, rfl, hl, hk, q⟩ := h
    have nd := sc_cell_at.nd
    refine ⟨_, (pss_cons (cs_if (ct_cmp o_lt (cv 1) (pe_callB call_len_seq (by rfl) T.n_len bt_len (pa_cons (cv 0) pa_nil))) (pss_one (ps_ret (pe_ix ix_list (cv 0) (cv 1) (fun _ _ => rfl)))) pss_nil)
    (pss_one (ps_ret pe_int))), ?_⟩
    walk_at "w"
    refine ⟨l, _, rfl, .inl hl, ?_⟩
    walk_at "w"
    refine ⟨fun e => ?_, fun e => ?_⟩
    · have e' := of_decide_eq_true e
      rw [List.length_map] at e'
      walk_at "w"
      refine ⟨l, _, k, .int (ns.getD k.toNat 0), rfl, rfl, hl, ?_, ?_⟩
      · have hk' : k.toNat < ns.length := by omega
        have := atI_nat (xs := ns.map V.int) (j := k.toNat) (v := .int (ns.getD k.toNat 0)) (by simp [hk'])
        rwa [Int.toNat_of_nonneg hk] at this
      · walk_at "w"
        rw [cellAt, if_pos e'] at q
        exact q
    · have e' := of_decide_eq_false e
      rw [List.length_map] at e'
      rw [cellAt, if_neg e'] at q
      exact q
theorem ok_draw (T : Txt K mg a) : FnOk P w K mg base CX0 1 a.f_draw a.d_draw ["_law_cell", "_law_k"] sp_draw := by
  refine T.F_draw.ok sc_draw (fun vs H Q E h => ?_) (fun cdv A outer s H vs Q E hr h => ?_)
  · obtain ⟨c, k, rfl, _⟩ := h; rfl
  · obtain ⟨c, k, rfl, q⟩ := h
    have nd := sc_draw.nd
    refine ⟨_, (pss_cons (cs_if (ct_cmp o_eqI (pe_op o_mod (cv 0) pe_int) pe_int) (pss_one (ps_ret (pe_op o_mod (pe_op o_fdiv (cv 0) pe_int) (pe_op o_pow pe_int pe_int)))) pss_nil)
    (pss_cons (ps_set (i := 2) nd rfl (Or.inl rfl) (pe_op o_mod (pe_op o_mul (pe_op o_add (pe_op o_add (cv 0) (pe_op o_mul pe_int (cv 1))) pe_int) pe_int) pe_int))
    (pss_cons (ps_set (i := 2) nd rfl (Or.inl rfl) (pe_op o_mod (pe_op o_mul (cv 2) (pe_op o_add (pe_op o_fdiv (cv 2) pe_int) pe_int)) pe_int))
    (pss_one (ps_ret (pe_op o_mod (pe_op o_mul (cv 2) (pe_op o_add (pe_op o_fdiv (cv 2) pe_int) pe_int)) pe_int)))))), ?_⟩
    walk_at "w"
    refine ⟨by walk_at "pos", ?_⟩
    walk_at "w"
    refine ⟨fun _ => ?_, fun _ => ?_⟩
    · walk_at "w"
      walk_at "ss"
      exact q _ (Int.emod_nonneg _ (by decide))
    walk_at "w"
    have b := Int.emod_nonneg ((c + 7919 * k + 1) * 48271) (b := 2147483647) (by decide)
    have b' := Int.emod_lt_of_pos ((c + 7919 * k + 1) * 48271) (b := 2147483647) (by decide)
    refine ⟨.inl ⟨by decide, by decide⟩, ?_⟩
    walk_at "w"
    refine ⟨.inr ⟨by decide, by decide⟩, ?_⟩
    walk_at "w"
    refine ⟨by walk_at "pos", ?_⟩
    walk_at "w"
    refine ⟨⟨by decide, by decide⟩, ?_⟩
    walk_at "w"
    refine ⟨.inl ⟨by omega, by omega⟩, ?_⟩
    walk_at "w"
    refine ⟨by walk_at "pos", ?_⟩
    walk_at "w"
    refine ⟨⟨by decide, by decide⟩, ?_⟩
    walk_at "w"
    refine ⟨.inl ⟨?_, ?_⟩, ?_⟩
    · exact Int.le_trans (by decide) (Int.emod_nonneg _ (by decide))
    · exact Int.lt_of_lt_of_le (Int.emod_lt_of_pos _ (by decide)) (by decide)
    walk_at "w"
    refine ⟨by walk_at "pos", ?_⟩
    exact q _ (Int.emod_nonneg _ (by decide))
theorem ok_law_longest (T : Txt K mg a) : FnOk P w K mg base CX0 2 a.f_law_longest a.d_law_longest ["_law_elder_here", "_law_part"] sp_due := by
  refine T.F_law_longest.ok sc_law_longest (fun vs H Q E h => ?_) (fun cdv A outer s H vs Q E hr h => ?_)
  · obtain ⟨e, q, es, ps, rfl, _⟩ := h; rfl
  · obtain ⟨e, q, es, ps, rfl, he, hq, k⟩ := h
    have nd := sc_law_longest.nd
    refine ⟨_, (pss_cons (ps_set (i := 2) nd rfl (Or.inl rfl) (pe_tup (pa_cons pe_int (pa_cons pe_int pa_nil))))
    (pss_cons (cs_for PassesOwn.never rfl (ci_range1 (by rfl) T.n_range (pa_cons (pe_callB call_len_seq (by rfl) T.n_len bt_len (pa_cons (cv 0) pa_nil)) pa_nil)) (pg_name (i := 3) nd rfl (Or.inl rfl)) (pss_cons (ps_set (i := 4) nd rfl (Or.inl rfl) (pe_call (ok_alike T) (hr.mono (by decide)) (by rfl) T.m_alike T.F_alike.kp T.b_alike .nil pass0 (pa_cons (cv 0) (pa_cons (cv 3) (pa_cons (cv 1) pa_nil)))))
    (pss_one (cs_if (ct_cmp o_gt (cv 4) (pe_ix ix_tup (cv 2) pe_int (fun _ _ => rfl))) (pss_one (ps_set (i := 2) nd rfl (Or.inl rfl) (pe_tup (pa_cons (cv 3) (pa_cons (cv 4) pa_nil))))) pss_nil))))
    (pss_one (ps_ret (cv 2))))), ?_⟩
    walk_at "w"
    walk_at "ss"
    intro z hz
    generalize hUz : upd H z _ = H1
    have sH1 := Same.of_eq hz hUz
    have ez := at_of_eq hUz
    clear hUz
    walk_at "w"
    refine ⟨e, _, rfl, .inl (SqL.of (sH1.at he)), ?_⟩
    walk_at "w"
    have en : rngN 0 ((es.map V.int).length : Nat) 1 = es.length := by rw [rngN_one, List.length_map]; omega
    rw [en]
    refine forAt_its (fun i σ G => Same H G ∧ ∃ (r : Addr) (a c : Nat) (x3 x4 : Option V), σ = [some (.ref e), some (.ref q), some (.ref r), x3, x4] ∧ G r = some (.tup [.int a, .int c]) ∧ IsBest es ps i a c) ⟨sH1, z, 0, 0, _, _, rfl, ez, IsBest.zero es ps⟩ (fun i σ G hi hP => ?_) (fun σ G hP => ?_)
    · obtain ⟨sG, r, a1, c, x3, x4, rfl, er, hb⟩ := hP
      have ei : (0 : Int) + (i : Int) * 1 = (i : Int) := by omega
      rw [ei]
      walk_at "w"
      refine ⟨e, q, es, ps, i, rfl, sG.at he, sG.at hq, by omega, ?_⟩
      walk_at "w"
      refine ⟨r, _, _, .int c, rfl, rfl, SqT.of er, rfl, ?_⟩
      walk_at "w"
      refine ⟨fun e1 => ?_, fun e1 => ?_⟩
      · have h1 : c < lcp (es.drop i) ps := by have := of_decide_eq_true e1; omega
        walk_at "w"
        walk_at "ss"
        intro z2 hz2
        generalize hUz2 : upd G z2 _ = G2
        have sG2 := Same.of_eq hz2 hUz2
        have ez2 := at_of_eq hUz2
        clear hUz2
        walk_at "w"
        exact ⟨sG.trans sG2, z2, i, _, _, _, rfl, ez2, hb.more h1⟩
      · have h1 : ¬ c < lcp (es.drop i) ps := by have := of_decide_eq_false e1; omega
        exact ⟨sG, r, a1, c, _, _, rfl, er, hb.less h1⟩
    · obtain ⟨sG, r, a1, c, x3, x4, rfl, er, hb⟩ := hP
      walk_at "w"
      exact k r a1 c G sG er hb
theorem ok_digits (T : Txt K mg a) : FnOk P w K mg base CX0 1 a.f_digits a.d_digits ["_law_cell", "_law_base", "_law_many"] sp_digits := by
  refine T.F_digits.ok sc_digits (fun vs H Q E h => ?_) (fun cdv A outer s H vs Q E hr h => ?_)
  · obtain ⟨c, b, m, rfl, _⟩ := h; rfl
  · obtain ⟨c, b, m, rfl, hb, hb2, hm, q⟩ := h
    have nd := sc_digits.nd
    refine ⟨_, (pss_cons (ps_set (i := 3) nd rfl (Or.inl rfl) (pe_lst pa_nil))
    (pss_cons (cs_for PassesOwn.never rfl (ci_range1 (by rfl) T.n_range (pa_cons (cv 2) pa_nil)) (pg_name (i := 4) nd rfl (Or.inl rfl)) (pss_cons (ps_expr (pe_bm PySem.F.plainAttrs_list PySem.F.slot_list_append PySem.F.type_list_append mt_append (cv 3) (pa_cons (pe_op o_mod (cv 0) (cv 1)) pa_nil)))
    (pss_one (ps_set (i := 0) nd rfl (Or.inl rfl) (pe_op o_fdiv (cv 0) (cv 1))))))
    (pss_one (ps_ret (cv 3))))), ?_⟩
    walk_at "w"
    walk_at "ss"
    intro e he
    generalize hUe : upd H e _ = H1
    have sH1 := Same.of_eq he hUe
    have ee := at_of_eq hUe
    clear hUe
    walk_at "w"
    generalize hn : rngN 0 _ 1 = n
    have bn : n = m.toNat := by rw [← hn, rngN_one]; omega
    refine forAt_its (fun i σ G => Same H G ∧ (∃ es : List Int, G e = some (.lst (es.map V.int)) ∧ es.length = i) ∧ ∃ (c : Int) (x4 : Option V), σ = [some (.int c), some (.int b), some (.int m), some (.ref e), x4]) ⟨sH1, ⟨[], ee, rfl⟩, _, _, rfl⟩ (fun i σ G hi hP => ?_) (fun σ G hP => ?_)
    · obtain ⟨sG, ⟨es, he', hlen⟩, c, x4, rfl⟩ := hP
      walk_at "w"
      refine ⟨.inl ⟨rfl, _, SqL.of he'⟩, ?_⟩
      walk_at "w"
      refine ⟨by show (0 : Int) < b; omega, ?_⟩
      walk_at "w"
      refine ⟨e, _, _, rfl, rfl, he', by rw [List.length_map, sizeLine_eq]; omega, ?_⟩
      generalize hU : upd G e _ = G1
      have s1 := Same.wr sG he hU
      have e1 := at_of_eq hU
      clear hU
      walk_at "w"
      refine ⟨⟨by show (0 : Int) < b; omega, Nat.lt_of_le_of_lt (log2_small (by omega)) (by decide)⟩, ?_⟩
      exact ⟨s1, ⟨es ++ [_], by rw [e1, List.map_append]; rfl, by rw [List.length_append, hlen]; rfl⟩, _, _, rfl⟩
    · obtain ⟨sG, ⟨es, he', hlen⟩, c, x4, rfl⟩ := hP
      walk_at "w"
      exact q e es G sG he he' (by omega)
-- LAW
theorem ok_elder (T : Txt K mg a) : FnOk P w K mg base CX0 2 a.f_elder a.d_elder ["_law_script"] (sp_elder K) := by
  refine T.F_elder.ok sc_elder (fun vs H Q E h => ?_) (fun cdv A outer s H vs Q E hr h => ?_)
  · obtain ⟨l, ns, rfl, _⟩ := h; rfl
  · obtain ⟨l, ns, rfl, hl, q⟩ := h
    have nd := sc_elder.nd
    refine ⟨_, (pss_cons (ps_set (i := 1) nd rfl (Or.inl rfl) (pe_call (ok_cell_at T) (hr.mono (by decide)) (by rfl) T.m_cell_at T.F_cell_at.kp T.b_cell_at .nil pass0 (pa_cons (cv 0) (pa_cons pe_int pa_nil))))
    (pss_cons (cs_if (PW.pt (cw_and (ct_cmp o_eqI (pe_op o_mod (cv 1) pe_int) pe_int) (pw_and1 (ct_cmp o_eqI (pe_op o_mod (pe_op o_fdiv (cv 1) pe_int) pe_int) pe_int)))) (pss_one (ps_ret (pe_call (ok_digits T) (hr.mono (by decide)) (by rfl) T.m_digits T.F_digits.kp T.b_digits .nil pass0 (pa_cons (pe_call (ok_cell_at T) (hr.mono (by decide)) (by rfl) T.m_cell_at T.F_cell_at.kp T.b_cell_at .nil pass0 (pa_cons (cv 0) (pa_cons pe_int pa_nil))) (pa_cons (pe_op o_add pe_int (pe_op o_mod (pe_op o_fdiv (cv 1) pe_int) pe_int)) (pa_cons (pe_op o_mod (pe_op o_fdiv (cv 1) pe_int) pe_int) pa_nil)))))) pss_nil)
    (pss_cons (ps_set (i := 2) nd rfl (Or.inl rfl) (pe_lst pa_nil))
    (pss_cons (cs_for PassesOwn.never rfl (ci_range1 (by rfl) T.n_range (pa_cons (pe_op o_mod (pe_op o_fdiv (cv 1) pe_int) pe_int) pa_nil)) (pg_name (i := 3) nd rfl (Or.inl rfl)) (pss_cons (ps_set (i := 4) nd rfl (Or.inl rfl) (pe_call (ok_draw T) (hr.mono (by decide)) (by rfl) T.m_draw T.F_draw.kp T.b_draw .nil pass0 (pa_cons (pe_call (ok_cell_at T) (hr.mono (by decide)) (by rfl) T.m_cell_at T.F_cell_at.kp T.b_cell_at .nil pass0 (pa_cons (cv 0) (pa_cons (pe_op o_add pe_int (pe_op o_mod (cv 3) pe_int)) pa_nil))) (pa_cons (cv 3) pa_nil))))
    (pss_one (cs_if (ct_cmp o_eqI (pe_op o_mod (cv 1) pe_int) pe_int) (pss_one (ps_expr (pe_bm PySem.F.plainAttrs_list PySem.F.slot_list_append PySem.F.type_list_append mt_append (cv 2) (pa_cons (pe_op o_mod (cv 4) (pe_op o_add pe_int (pe_op o_mod (pe_op o_fdiv (cv 1) pe_int) pe_int))) pa_nil)))) (pss_one (cs_if (ct_cmp o_eqI (pe_op o_mod (cv 1) pe_int) pe_int) (pss_one (ps_expr (pe_bm PySem.F.plainAttrs_list PySem.F.slot_list_append PySem.F.type_list_append mt_append (cv 2) (pa_cons (pe_op o_add (pe_op o_sub (pe_op o_mod (pe_op o_add (pe_call (ok_cell_at T) (hr.mono (by decide)) (by rfl) T.m_cell_at T.F_cell_at.kp T.b_cell_at .nil pass0 (pa_cons (cv 0) (pa_cons (pe_op o_add pe_int (pe_op o_mod (cv 3) pe_int)) pa_nil))) (pe_op o_mod (cv 3) pe_int)) (pe_op o_sub (pe_op o_mul pe_int (pe_op o_pow pe_int pe_int)) pe_int)) (pe_op o_pow pe_int pe_int)) pe_int) pa_nil)))) (pss_one (ps_expr (pe_bm PySem.F.plainAttrs_list PySem.F.slot_list_append PySem.F.type_list_append mt_append (cv 2) (pa_cons (pe_op o_add (pe_op o_mul (pe_op o_fdiv (cv 4) pe_int) pe_int) (cv 3)) pa_nil))))))))))
    (pss_one (ps_ret (cv 2))))))), ?_⟩
    walk_at "w"
    refine ⟨l, ns, 0, rfl, hl, by decide, ?_⟩
    walk_at "w"
    generalize cellAt ns 0 = fs
    have b41 := Int.emod_lt_of_pos (fs / 3) (b := 41) (by decide)
    have b1 : (0 : Int) ≤ fs / 123 % 4 := Int.emod_nonneg _ (by decide)
    have b2 := Int.emod_lt_of_pos (fs / 123) (b := 4) (by decide)
    refine ⟨by walk_at "pos", ?_⟩
    walk_at "w"
    refine ⟨fun _ => ?_, fun _ => ?_⟩
    · walk_at "w"
      refine ⟨⟨by decide, by decide⟩, ?_⟩
      walk_at "w"
      refine ⟨by walk_at "pos", ?_⟩
      walk_at "w"
      refine ⟨fun _ => ?_, fun _ => ?_⟩
      · walk_at "w"
        refine ⟨l, ns, 14, rfl, hl, by decide, ?_⟩
        walk_at "w"
        walk_at "ss"
        refine ⟨_, _, _, rfl, ?_, ?_, ?_, fun e es H' s' he ee hlen => q e es H' s' he ee ?_⟩
        · show 1 ≤ 1 + fs / 123 % 4; omega
        · show 1 + fs / 123 % 4 < 100; omega
        · show fs / 3 % 41 ≤ 60; omega
        · rw [hlen]; show (fs / 3 % 41).toNat ≤ 40; omega
      walk_at "w"
      walk_at "ss"
      intro e he
      generalize hUe : upd H e _ = H1
      have sH1 := Same.of_eq he hUe
      have ee := at_of_eq hUe
      clear hUe
      walk_at "w"
      walk_at "ss"
      generalize hn : rngN 0 _ 1 = n
      have bn : n ≤ 40 := by
        rw [← hn, rngN_one]
        omega
      refine forAt_its (fun i σ G => Same H G ∧ (∃ es : List Int, G e = some (.lst (es.map V.int)) ∧ es.length = i) ∧ ∃ x3 x4, σ = [some (.ref l), some (.int fs), some (.ref e), x3, x4]) ⟨sH1, ⟨[], ee, rfl⟩, _, _, rfl⟩ (fun i σ G hi hP => ?_) (fun σ G hP => ?_)
      · obtain ⟨sG, ⟨es, he', hlen⟩, x3, x4, rfl⟩ := hP
        have ei : (0 : Int) + (i : Int) * 1 = (i : Int) := by omega
        rw [ei]
        have app : ∀ v : Int, ∀ G1, upd G e (.lst (es.map V.int ++ [.int v])) = G1 → Same H G1 ∧ ∃ es : List Int, G1 e = some (.lst (es.map V.int)) ∧ es.length = i + 1 := fun v G1 hU =>
          ⟨Same.wr sG he hU, es ++ [v], by rw [at_of_eq hU, List.map_append]; rfl, by rw [List.length_append, hlen]; rfl⟩
        have m1 := Int.emod_nonneg (i : Int) (b := 48) (by decide)
        have m2 := Int.emod_nonneg (i : Int) (b := 7) (by decide)
        walk_at "w"
        refine ⟨by walk_at "pos", ?_⟩
        walk_at "w"
        refine ⟨l, ns, _, rfl, sG.seq hl, by omega, ?_⟩
        walk_at "w"
        refine ⟨_, _, rfl, fun d hd => ?_⟩
        walk_at "w"
        refine ⟨by walk_at "pos", ?_⟩
        walk_at "w"
        refine ⟨fun _ => ?_, fun _ => ?_⟩
        · walk_at "w"
          refine ⟨.inl ⟨rfl, _, SqL.of he'⟩, ?_⟩
          walk_at "w"
          refine ⟨⟨by decide, by decide⟩, ?_⟩
          walk_at "w"
          refine ⟨by walk_at "pos", ?_⟩
          walk_at "w"
          refine ⟨by show (0 : Int) < 1 + fs / 123 % 4; omega, ?_⟩
          walk_at "w"
          refine ⟨e, _, _, rfl, rfl, he', by rw [List.length_map, sizeLine_eq]; omega, ?_⟩
          obtain ⟨z1, z2⟩ := app _ _ rfl
          exact ⟨z1, z2, _, _, rfl⟩
        walk_at "w"
        refine ⟨by walk_at "pos", ?_⟩
        walk_at "w"
        refine ⟨fun _ => ?_, fun _ => ?_⟩
        · walk_at "w"
          refine ⟨.inl ⟨rfl, _, SqL.of he'⟩, ?_⟩
          walk_at "w"
          refine ⟨by walk_at "pos", ?_⟩
          walk_at "w"
          refine ⟨l, ns, _, rfl, sG.seq hl, by omega, ?_⟩
          walk_at "w"
          walk_at "ss"
          refine ⟨e, _, _, rfl, rfl, he', by rw [List.length_map, sizeLine_eq]; omega, ?_⟩
          obtain ⟨z1, z2⟩ := app _ _ rfl
          exact ⟨z1, z2, _, _, rfl⟩
        walk_at "w"
        refine ⟨.inl ⟨rfl, _, SqL.of he'⟩, ?_⟩
        walk_at "w"
        walk_at "ss"
        refine ⟨e, _, _, rfl, rfl, he', by rw [List.length_map, sizeLine_eq]; omega, ?_⟩
        obtain ⟨z1, z2⟩ := app _ _ rfl
        exact ⟨z1, z2, _, _, rfl⟩
      · obtain ⟨sG, ⟨es, he', hlen⟩, x3, x4, rfl⟩ := hP
        walk_at "w"
        exact q e es G sG he he' (by omega)
    refine ⟨by walk_at "no", fun _ => ?_⟩
    walk_at "w"
    walk_at "ss"
    intro e he
    generalize hUe : upd H e _ = H1
    have sH1 := Same.of_eq he hUe
    have ee := at_of_eq hUe
    clear hUe
    walk_at "w"
    walk_at "ss"
    generalize hn : rngN 0 _ 1 = n
    have bn : n ≤ 40 := by
      rw [← hn, rngN_one]
      omega
    refine forAt_its (fun i σ G => Same H G ∧ (∃ es : List Int, G e = some (.lst (es.map V.int)) ∧ es.length = i) ∧ ∃ x3 x4, σ = [some (.ref l), some (.int fs), some (.ref e), x3, x4]) ⟨sH1, ⟨[], ee, rfl⟩, _, _, rfl⟩ (fun i σ G hi hP => ?_) (fun σ G hP => ?_)
    · obtain ⟨sG, ⟨es, he', hlen⟩, x3, x4, rfl⟩ := hP
      have ei : (0 : Int) + (i : Int) * 1 = (i : Int) := by omega
      rw [ei]
      have app : ∀ v : Int, ∀ G1, upd G e (.lst (es.map V.int ++ [.int v])) = G1 → Same H G1 ∧ ∃ es : List Int, G1 e = some (.lst (es.map V.int)) ∧ es.length = i + 1 := fun v G1 hU =>
        ⟨Same.wr sG he hU, es ++ [v], by rw [at_of_eq hU, List.map_append]; rfl, by rw [List.length_append, hlen]; rfl⟩
      have m1 := Int.emod_nonneg (i : Int) (b := 48) (by decide)
      have m2 := Int.emod_nonneg (i : Int) (b := 7) (by decide)
      walk_at "w"
      refine ⟨by walk_at "pos", ?_⟩
      walk_at "w"
      refine ⟨l, ns, _, rfl, sG.seq hl, by omega, ?_⟩
      walk_at "w"
      refine ⟨_, _, rfl, fun d hd => ?_⟩
      walk_at "w"
      refine ⟨by walk_at "pos", ?_⟩
      walk_at "w"
      refine ⟨fun _ => ?_, fun _ => ?_⟩
      · walk_at "w"
        refine ⟨.inl ⟨rfl, _, SqL.of he'⟩, ?_⟩
        walk_at "w"
        refine ⟨⟨by decide, by decide⟩, ?_⟩
        walk_at "w"
        refine ⟨by walk_at "pos", ?_⟩
        walk_at "w"
        refine ⟨by show (0 : Int) < 1 + fs / 123 % 4; omega, ?_⟩
        walk_at "w"
        refine ⟨e, _, _, rfl, rfl, he', by rw [List.length_map, sizeLine_eq]; omega, ?_⟩
        obtain ⟨z1, z2⟩ := app _ _ rfl
        exact ⟨z1, z2, _, _, rfl⟩
      walk_at "w"
      refine ⟨by walk_at "pos", ?_⟩
      walk_at "w"
      refine ⟨fun _ => ?_, fun _ => ?_⟩
      · walk_at "w"
        refine ⟨.inl ⟨rfl, _, SqL.of he'⟩, ?_⟩
        walk_at "w"
        refine ⟨by walk_at "pos", ?_⟩
        walk_at "w"
        refine ⟨l, ns, _, rfl, sG.seq hl, by omega, ?_⟩
        walk_at "w"
        walk_at "ss"
        refine ⟨e, _, _, rfl, rfl, he', by rw [List.length_map, sizeLine_eq]; omega, ?_⟩
        obtain ⟨z1, z2⟩ := app _ _ rfl
        exact ⟨z1, z2, _, _, rfl⟩
      walk_at "w"
      refine ⟨.inl ⟨rfl, _, SqL.of he'⟩, ?_⟩
      walk_at "w"
      walk_at "ss"
      refine ⟨e, _, _, rfl, rfl, he', by rw [List.length_map, sizeLine_eq]; omega, ?_⟩
      obtain ⟨z1, z2⟩ := app _ _ rfl
      exact ⟨z1, z2, _, _, rfl⟩
    · obtain ⟨sG, ⟨es, he', hlen⟩, x3, x4, rfl⟩ := hP
      walk_at "w"
      exact q e es G sG he he' (by omega)
theorem ok_newer (T : Txt K mg a) : FnOk P w K mg base CX0 2 a.f_newer a.d_newer ["_law_script", "_law_elder_here"] (sp_newer K) := by
  refine T.F_newer.ok sc_newer (fun vs H Q E h => ?_) (fun cdv A outer s H vs Q E hr h => ?_)
  · obtain ⟨l, e, ns, es, rfl, _⟩ := h; rfl
  · obtain ⟨l, e, ns, es, rfl, hl, hee, hel, q⟩ := h
    have nd := sc_newer.nd
    refine ⟨_, (pss_cons (ps_set (i := 2) nd rfl (Or.inl rfl) (pe_op o_fdiv (pe_call (ok_cell_at T) (hr.mono (by decide)) (by rfl) T.m_cell_at T.F_cell_at.kp T.b_cell_at .nil pass0 (pa_cons (cv 0) (pa_cons pe_int pa_nil))) pe_int))
    (pss_cons (cs_if (ct_cmp o_eqI (pe_op o_mod (cv 2) pe_int) pe_int) (pss_one (ps_ret (pe_call (ok_digits T) (hr.mono (by decide)) (by rfl) T.m_digits T.F_digits.kp T.b_digits .nil pass0 (pa_cons (pe_call (ok_cell_at T) (hr.mono (by decide)) (by rfl) T.m_cell_at T.F_cell_at.kp T.b_cell_at .nil pass0 (pa_cons (cv 0) (pa_cons pe_int pa_nil))) (pa_cons (pe_op o_add pe_int (pe_op o_mod (pe_op o_fdiv (cv 2) pe_int) pe_int)) (pa_cons (pe_op o_mod (pe_op o_fdiv (cv 2) pe_int) pe_int) pa_nil)))))) pss_nil)
    (pss_cons (ps_set (i := 3) nd rfl (Or.inl rfl) (pe_lst pa_nil))
    (pss_cons (cs_for PassesOwn.never rfl (ci_range1 (by rfl) T.n_range (pa_cons (pe_callB call_len_seq (by rfl) T.n_len bt_len (pa_cons (pe_slice sl_list (cv 0) (po_some pe_int) (po_some pe_int)) pa_nil)) pa_nil)) (pg_name (i := 4) nd rfl (Or.inl rfl)) (pss_cons (ps_set (i := 5) nd rfl (Or.inl rfl) (pe_call (ok_draw T) (hr.mono (by decide)) (by rfl) T.m_draw T.F_draw.kp T.b_draw .nil pass0 (pa_cons (pe_ix ix_list (cv 0) (pe_op o_add pe_int (cv 4)) (fun _ _ => rfl)) (pa_cons (cv 4) pa_nil))))
    (pss_cons (ps_set (i := 6) nd rfl (Or.inl rfl) (pe_op o_mod (cv 5) (pe_op o_add (pe_callB call_len_seq (by rfl) T.n_len bt_len (pa_cons (cv 1) pa_nil)) pe_int)))
    (pss_cons (ps_set (i := 7) nd rfl (Or.inl rfl) (pe_op o_add pe_int (pe_op o_mod (pe_op o_fdiv (cv 5) pe_int) pe_int)))
    (pss_one (cs_if (ct_cmp o_gt (pe_op o_mod (pe_op o_fdiv (cv 5) pe_int) pe_int) pe_int) (pss_one (ps_set (i := 3) nd rfl (Or.inl rfl) (pe_op op_cat (cv 3) (pe_slice sl_list (cv 1) (po_some (cv 6)) (po_some (pe_op o_add (cv 6) (cv 7))))))) (pss_one (ps_set (i := 3) nd rfl (Or.inl rfl) (pe_op op_cat (cv 3) (pe_op op_rep (pe_lst (pa_cons (pe_op o_sub (pe_op o_mod (pe_op o_fdiv (cv 5) pe_int) pe_int) pe_int) pa_nil)) (pe_op o_mod (pe_op o_fdiv (cv 5) pe_int) pe_int)))))))))))
    (pss_one (ps_ret (pe_slice sl_list (cv 3) po_none (po_some pe_int)))))))), ?_⟩
    walk_at "w"
    refine ⟨l, ns, 1, rfl, hl, by decide, ?_⟩
    walk_at "w"
    generalize cellAt ns 1 = c0
    refine ⟨⟨by decide, by decide⟩, ?_⟩
    walk_at "w"
    generalize hz : (fun (i j : Int) => V.int (i / j)) c0 24 = zz
    obtain ⟨c, rfl⟩ : ∃ c : Int, zz = .int c := ⟨_, hz.symm⟩
    clear hz
    refine ⟨by walk_at "pos", ?_⟩
    walk_at "w"
    refine ⟨fun _ => ?_, fun _ => ?_⟩
    · walk_at "w"
      refine ⟨l, ns, 2, rfl, hl, by decide, ?_⟩
      walk_at "w"
      walk_at "ss"
      have b1 : (0 : Int) ≤ c / 4 % 5 := Int.emod_nonneg _ (by decide)
      have b2 := Int.emod_lt_of_pos (c / 4) (b := 5) (by decide)
      have b3 := Int.emod_lt_of_pos (c / 20) (b := 61) (by decide)
      refine ⟨_, _, _, rfl, ?_, ?_, ?_, fun e es H' s' he ee hlen => q e es H' s' he ee ?_⟩
      · show 1 ≤ 1 + c / 4 % 5; omega
      · show 1 + c / 4 % 5 < 100; omega
      · show c / 20 % 61 ≤ 60; omega
      · rw [hlen]; show (c / 20 % 61).toNat ≤ 60; omega
    walk_at "w"
    walk_at "ss"
    intro tl htl
    generalize hUtl : upd H tl _ = H1
    have sH1 := Same.of_eq htl hUtl
    have etl := at_of_eq hUtl
    clear hUtl
    walk_at "w"
    refine ⟨_, rfl, ?_⟩
    walk_at "w"
    refine ⟨_, rfl, ?_⟩
    walk_at "w"
    refine ⟨l, _, rfl, sH1.seq hl, ?_⟩
    intro sc hsc
    generalize hUsc : upd H1 sc _ = H2
    have sH2 := Same.of_eq hsc hUsc
    have esc := at_of_eq hUsc
    clear hUsc
    walk_at "w"
    rw [cutV_ints, sIx_nn (by decide), sIx_nn (by decide)] at esc
    refine ⟨sc, _, rfl, .inl (SqL.of esc), ?_⟩
    walk_at "w"
    generalize hn : rngN 0 _ 1 = n
    have bn : n = min 14 ns.length - min 2 ns.length := by
      rw [← hn, rngN_one, List.length_map, List.length_take, List.length_drop]
      show (((min (min 14 ns.length - min 2 ns.length) (ns.length - min 2 ns.length) : Nat) : Int) - 0).toNat = _
      omega
    have etl2 := sH2.at etl
    refine forAt_its (fun i σ G => Same H G ∧ ∃ (tl : Addr) (ts : List Int) (x4 x5 x6 x7 : Option V), σ = [some (.ref l), some (.ref e), some (.int c), some (.ref tl), x4, x5, x6, x7] ∧ H tl = none ∧ G tl = some (.lst (ts.map V.int)) ∧ ts.length ≤ 40 * i) ⟨sH1.trans sH2, tl, [], _, _, _, _, rfl, htl, etl2, Nat.le_refl _⟩ (fun i σ G hi hP => ?_) (fun σ G hP => ?_)
    · obtain ⟨sG, tl, ts, x4, x5, x6, x7, rfl, htl, etl, hlen⟩ := hP
      have ei : (0 : Int) + (i : Int) * 1 = (i : Int) := by omega
      rw [ei]
      have hi2 : 2 + i < ns.length := by omega
      walk_at "w"
      refine ⟨l, _, _, .int ns[2 + i], rfl, rfl, sG.seq hl, atI_in (by omega) (by rw [show ((2 : Int) + (i : Int)).toNat = 2 + i by omega]; simp [hi2]), ?_⟩
      walk_at "w"
      refine ⟨_, _, rfl, fun d hd => ?_⟩
      walk_at "w"
      refine ⟨e, _, rfl, .inl (SqL.of (sG.at hee)), ?_⟩
      walk_at "w"
      rw [List.length_map]
      refine ⟨by show (0 : Int) < (es.length : Nat) + 1; omega, ?_⟩
      walk_at "w"
      have a0 := Int.emod_nonneg d (b := ((es.length : Nat) : Int) + 1) (by omega)
      generalize hz : (fun (i j : Int) => V.int (i % j)) d (((es.length : Nat) : Int) + 1) = zz
      obtain ⟨at0, a1, rfl⟩ : ∃ at0 : Int, 0 ≤ at0 ∧ zz = .int at0 := ⟨_, a0, hz.symm⟩
      clear hz a0
      walk_at "ss"
      refine ⟨fun _ => ?_, fun _ => ?_⟩
      · walk_at "w"
        refine ⟨_, rfl, ?_⟩
        walk_at "w"
        refine ⟨_, rfl, ?_⟩
        walk_at "w"
        refine ⟨e, _, rfl, SqL.of (sG.at hee), ?_⟩
        intro d2 hd2
        generalize hUd2 : upd G d2 _ = G1
        have sG1 := Same.of_eq hd2 hUd2
        have ed2 := at_of_eq hUd2
        clear hUd2
        walk_at "w"
        have hzl := cutV_length (es.map V.int) (some at0) (some (at0 + (1 + d / 64 % 12)))
        rw [List.length_map] at hzl
        rw [cutV_ints] at ed2 hzl
        rw [List.length_map] at hzl
        refine ⟨tl, d2, _, _, rfl, rfl, sG1.at etl, ed2, by rw [List.length_map, List.length_map, sizeLine_eq]; omega, fun p hp => ?_⟩
        generalize hU : upd G1 p _ = G2
        have s2 := sG.trans sG1
        refine ⟨Same.wr s2 (s2.back hp) hU, p, ts ++ _, _, _, _, _, rfl, s2.back hp, (at_of_eq hU).trans (by rw [List.map_append]), ?_⟩
        rw [List.length_append]
        omega
      · walk_at "w"
        walk_at "ss"
        intro d2 hd2
        generalize hUd2 : upd G d2 _ = G1
        have sG1 := Same.of_eq hd2 hUd2
        have ed2 := at_of_eq hUd2
        clear hUd2
        walk_at "w"
        walk_at "ss"
        have k0 := Int.emod_nonneg (d / 32768) (b := 4) (by decide)
        have k1 := Int.emod_lt_of_pos (d / 32768) (b := 4) (by decide)
        refine ⟨d2, d / 32768 % 4, _, rfl, rfl, ed2, by omega, by omega, by rw [sizeLine_eq]; simp; omega, ?_⟩
        intro d3 hd3
        generalize hUd3 : upd G1 d3 _ = G2
        have sG2 := Same.of_eq hd3 hUd3
        have ed3 := at_of_eq hUd3
        clear hUd3
        walk_at "w"
        rw [List.flatten_replicate_singleton, ← List.map_replicate] at ed3
        have s1 := sG1.trans sG2
        refine ⟨tl, d3, _, _, rfl, rfl, s1.at etl, ed3, by rw [List.length_map, List.length_map, List.length_replicate, sizeLine_eq]; omega, fun p hp => ?_⟩
        generalize hU : upd G2 p _ = G3
        have s2 := sG.trans s1
        refine ⟨Same.wr s2 (s2.back hp) hU, p, ts ++ _, _, _, _, _, rfl, s2.back hp, (at_of_eq hU).trans (by rw [List.map_append]), ?_⟩
        rw [List.length_append, List.length_replicate]
        omega
    · obtain ⟨sG, tl, ts, x4, x5, x6, x7, rfl, htl, etl, hlen⟩ := hP
      walk_at "w"
      refine ⟨_, rfl, ?_⟩
      walk_at "w"
      refine ⟨tl, _, rfl, SqL.of etl, fun d hd => ?_⟩
      generalize hU : upd _ d _ = G2
      refine q d (ts.take 60) G2 (Same.wr sG (sG.back hd) hU) (sG.back hd) ?_ (by rw [List.length_take]; omega)
      rw [at_of_eq hU]
      exact congrArg (fun z => some (HO.lst z)) (cut_to ts 60)
theorem pair_shaped (x y : Int) : SeqAt.shaped (.tuple [.int x, .int y]) = true := by
  unfold SeqAt.shaped
  simp [PyData.canLay0, PyData.canLayAll0, PyData.depth, PyData.depthAll]
theorem pair_rp {K : PySem.W.Frag} {G : Hp} {r : Addr} {x y : Int} (h : G r = some (.tup [.int x, .int y])) : Rp K G (.ref r) (.tuple [.int x, .int y]) := .tup (SqT.of h) (.cons (.int _) (.cons (.int _) .nil))
theorem tup_shaped (xs : List Int) : SeqAt.shaped (.tuple (xs.map PyData.int)) = true := by
  unfold SeqAt.shaped
  have h1 : PyData.canLay0 (.tuple (xs.map PyData.int)) = true := by unfold PyData.canLay0; exact PySem.W.ke_canLayAll0 xs
  have h2 : PyData.depth (.tuple (xs.map PyData.int)) ≤ 64 := by unfold PyData.depth; rw [PySem.W.ke_depthAll]; decide
  rw [h1, decide_eq_true h2]; rfl
theorem ok_put_is_right (T : Txt K mg a) : FnOk P w K mg base CX0 3 a.f_put_is_right a.d_put_is_right ["_law_row", "_law_elder_here", "_law_newer_here", "_law_least"] sp_put_is_right := by
  refine T.F_put_is_right.ok sc_put_is_right (fun vs H Q E h => ?_) (fun cdv A outer s H vs Q E hr h => ?_)
  · obtain ⟨t, e, n, u, es, ns, sg, i, least, rfl, _⟩ := h; rfl
  · obtain ⟨t, e, n, u, es, ns, sg, i, least, rfl, ht, hu, he, hn, hne, hnl, hle, hsg, hnb, k⟩ := h
    have nd := sc_put_is_right.nd
    refine ⟨_, (pss_cons (ps_set (i := 4) nd rfl (Or.inl rfl) (pe_ix ix_tup (cv 0) pe_int (fun _ _ => rfl)))
    (pss_cons (cs_if (PW.pt (cw_or (ct_cmp (o_dne hr.units) (pe_ix ix_tup (cv 0) pe_int (fun _ _ => rfl)) (pe_callTy call_tuple_of (by rfl) T.n_tuple bt_tuple (pa_cons (pe_slice sl_list (cv 2) (po_some (cv 4)) (po_some (pe_op o_add (cv 4) (pe_callB call_len_seq (by rfl) T.n_len bt_len (pa_cons (pe_ix ix_tup (cv 0) pe_int (fun _ _ => rfl)) pa_nil))))) pa_nil))) (pw_or1 (ct_cmp (o_deq hr.units) (pe_ix ix_tup (cv 0) pe_int (fun _ _ => rfl)) (pe_tup pa_nil))))) (pss_one (ps_ret pe_bl)) pss_nil)
    (pss_cons (cs_for PassesOwn.never rfl (ci_range1 (by rfl) T.n_range (pa_cons (pe_callB call_len_seq (by rfl) T.n_len bt_len (pa_cons (pe_ix ix_tup (cv 0) pe_int (fun _ _ => rfl)) pa_nil)) pa_nil)) (pg_name (i := 5) nd rfl (Or.inl rfl)) (pss_one (cs_if (ct_cmp o_ge (pe_ix ix_tup (pe_call (ok_law_longest T) (hr.mono (by decide)) (by rfl) T.m_law_longest T.F_law_longest.kp T.b_law_longest .nil pass0 (pa_cons (cv 1) (pa_cons (pe_slice sl_list (cv 2) (po_some (pe_op o_add (cv 4) (cv 5))) po_none) pa_nil))) pe_int (fun _ _ => rfl)) (cv 3)) (pss_one (ps_ret pe_bl)) pss_nil)))
    (pss_one (ps_ret pe_bl))))), ?_⟩
    walk_at "w"
    refine ⟨t, _, _, .int i, rfl, rfl, SqT.of ht, rfl, ?_⟩
    walk_at "w"
    refine ⟨t, _, _, .ref u, rfl, rfl, SqT.of ht, rfl, ?_⟩
    walk_at "w"
    refine ⟨_, rfl, ?_⟩
    walk_at "w"
    refine ⟨t, _, _, .ref u, rfl, rfl, SqT.of ht, rfl, ?_⟩
    walk_at "w"
    refine ⟨u, _, rfl, .inr (SqT.of hu), ?_⟩
    walk_at "w"
    rw [List.length_map]
    refine ⟨_, rfl, ?_⟩
    walk_at "w"
    refine ⟨n, _, rfl, SqL.of hn, ?_⟩
    intro d hd
    generalize hUd : upd H d _ = H1
    have sH1 := Same.of_eq hd hUd
    have ed := at_of_eq hUd
    clear hUd
    walk_at "w"
    rw [cut_mid ns i sg.length (by omega), ← hsg] at ed
    refine ⟨d, _, rfl, .inl ⟨SqL.of ed, fun u2 hu2 => ?_⟩⟩
    generalize hU : upd H1 u2 _ = H2
    have s2 := sH1.trans (Same.of_eq hu2 hU)
    have eu2 := at_of_eq hU
    clear hU
    refine deq_same (.tup (SqT.of (s2.at hu)) (rps_ints sg)) (.tup (SqT.of eu2) (rps_ints sg)) (tup_shaped sg) ?_
    walk_at "w"
    refine ⟨by walk_at "no", fun _ => ?_⟩
    walk_at "w"
    refine ⟨t, _, _, .ref u, rfl, rfl, SqT.of (s2.at ht), rfl, ?_⟩
    walk_at "w"
    walk_at "ss"
    intro y hy
    generalize hUy : upd H2 y _ = H3
    have sH3 := Same.of_eq hy hUy
    have ey := at_of_eq hUy
    clear hUy
    walk_at "w"
    have s3 := s2.trans sH3
    refine ⟨_, _, .tup (SqT.of (s3.at hu)) (rps_ints sg), .tup (SqT.of ey) .nil, tup_shaped sg, tup_shaped [], ?_⟩
    have ev : PyData.eqv (.tuple (sg.map PyData.int)) (.tuple []) = false := by
      cases sg with
      | nil => exact absurd rfl hne
      | cons x r => simp [PyData.eqv, PyData.eqvAll]
    walk_at "w"
    rw [ev]
    refine ⟨by walk_at "no", fun _ => ?_⟩
    walk_at "w"
    refine ⟨t, _, _, .ref u, rfl, rfl, SqT.of (s3.at ht), rfl, ?_⟩
    walk_at "w"
    refine ⟨u, _, rfl, .inr (SqT.of (s3.at hu)), ?_⟩
    walk_at "w"
    have en : rngN 0 ((sg.map V.int).length : Nat) 1 = sg.length := by rw [rngN_one, List.length_map]; omega
    rw [en]
    refine forAt_its (fun j σ G => Same H G ∧ ∃ x5, σ = [some (.ref t), some (.ref e), some (.ref n), some (.int least), some (.int i), x5]) ⟨s3, _, rfl⟩ (fun j σ G hj hP => ?_) (fun σ G hP => ?_)
    · obtain ⟨sG, x5, rfl⟩ := hP
      have ei : (0 : Int) + (j : Int) * 1 = (j : Int) := by omega
      rw [ei]
      walk_at "w"
      refine ⟨_, rfl, ?_⟩
      walk_at "w"
      refine ⟨n, _, rfl, SqL.of (sG.at hn), ?_⟩
      intro d3 hd3
      generalize hUd3 : upd G d3 _ = G1
      have sG1 := Same.of_eq hd3 hUd3
      have ed3 := at_of_eq hUd3
      clear hUd3
      walk_at "w"
      rw [show ((i : Int) + (j : Int)) = ((i + j : Nat) : Int) by omega, cut_from] at ed3
      have s4 := sG.trans sG1
      refine ⟨e, d3, es, ns.drop (i + j), rfl, s4.at he, ed3, fun r a1 c G2 s5 er hb => ?_⟩
      walk_at "w"
      refine ⟨r, _, _, .int c, rfl, rfl, SqT.of er, rfl, ?_⟩
      walk_at "w"
      have hc := hnb j hj a1 c hb
      refine ⟨fun e1 => absurd (of_decide_eq_true e1) (by omega), fun _ => ?_⟩
      exact ⟨s4.trans s5, _, rfl⟩
    · obtain ⟨sG, x5, rfl⟩ := hP
      walk_at "w"
      exact k G sG
theorem ok_right (T : Txt K mg a) : FnOk P w K mg base CX0 4 a.f_right a.d_right ["_law_rows", "_law_elder_here", "_law_newer_here", "_law_least"] (sp_right K) := by
  refine T.F_right.ok sc_right (fun vs H Q E h => ?_) (fun cdv A outer s H vs Q E hr h => ?_)
  · obtain ⟨l, e, n, ts, rs, es, ns, least, b, rfl, _⟩ := h; rfl
  · obtain ⟨l, e, n, ts, rs, es, ns, least, b, rfl, hl, hts, he, hn, hnl, hri, k⟩ := h
    have nd := sc_right.nd
    have htl := hts.length
    refine ⟨_, (pss_cons (ps_set (i := 4) nd rfl (Or.inl rfl) pe_int)
    (pss_cons (ps_set (i := 5) nd rfl (Or.inl rfl) pe_str)
    (pss_cons (cs_for PassesOwn.never rfl (pi_list (cv 0)) (pg_name (i := 6) nd rfl (Or.inl rfl)) (pss_cons (cs_if (PW.pt (cw_or (pt_not (ct_val (pe_callB call_isi (by rfl) T.n_isinstance bt_isinstance (pa_cons (cv 6) (pa_cons (pe_bltn (v := .ty "tuple") (by rfl) T.n_tuple bt_tuple rfl) pa_nil))))) (cw_or (ct_cmp o_neI (pe_ix ix_tup (cv 6) pe_int (fun _ _ => rfl)) (cv 4)) (pw_or1 (PW.pt (cw_and (ct_cmp o_eqS (pe_ix ix_tup (cv 6) pe_int (fun _ _ => rfl)) pe_str) (pw_and1 (ct_cmp o_eqS (cv 5) pe_str)))))))) (pss_one (ps_ret pe_bl)) pss_nil)
    (pss_cons (ps_set (i := 5) nd rfl (Or.inl rfl) (pe_ix ix_tup (cv 6) pe_int (fun _ _ => rfl)))
    (pss_one (cs_if (ct_cmp o_eqS (cv 5) pe_str) (pss_cons (cs_if (pt_not (ct_val (pe_call (ok_put_is_right T) (hr.mono (by decide)) (by rfl) T.m_put_is_right T.F_put_is_right.kp T.b_put_is_right .nil pass0 (pa_cons (cv 6) (pa_cons (cv 1) (pa_cons (cv 2) (pa_cons (cv 3) pa_nil))))))) (pss_one (ps_ret pe_bl)) pss_nil)
    (pss_one (ps_set (i := 4) nd rfl (Or.inl rfl) (pe_op o_add (cv 4) (pe_callB call_len_seq (by rfl) T.n_len bt_len (pa_cons (pe_ix ix_tup (cv 6) pe_int (fun _ _ => rfl)) pa_nil)))))) (pss_cons (ps_set (i := 7) nd rfl (Or.inl rfl) (pe_call (ok_law_longest T) (hr.mono (by decide)) (by rfl) T.m_law_longest T.F_law_longest.kp T.b_law_longest .nil pass0 (pa_cons (cv 1) (pa_cons (pe_slice sl_list (cv 2) (po_some (cv 4)) po_none) pa_nil))))
    (pss_cons (cs_if (PW.pt (cw_or (ct_cmp o_neS (cv 5) pe_str) (cw_or (ct_cmp (o_dne hr.units) (pe_slice sl_tup (cv 6) (po_some pe_int) po_none) (cv 7)) (pw_or1 (ct_cmp o_lt (pe_ix ix_tup (cv 7) pe_int (fun _ _ => rfl)) (cv 3)))))) (pss_one (ps_ret pe_bl)) pss_nil)
    (pss_one (ps_set (i := 4) nd rfl (Or.inl rfl) (pe_op o_add (cv 4) (pe_ix ix_tup (cv 7) pe_int (fun _ _ => rfl))))))))))))
    (pss_one (ps_ret (ce_cmp o_eqI (cv 4) (pe_callB call_len_seq (by rfl) T.n_len bt_len (pa_cons (cv 2) pa_nil)))))))), ?_⟩
    walk_at "w"
    refine ⟨l, rfl, ⟨_, SqL.of hl⟩, ?_⟩
    refine forAt_list (xs := ts.map V.ref) (fun i σ G => Same H G ∧ ∃ (j : Nat) (b' : Bool) (wd : Str) (x6 x7 : Option V), σ = [some (.ref l), some (.ref e), some (.ref n), some (.int least), some (.int j), some (.str wd), x6, x7] ∧ RightTo es ns least j b' (rs.drop i) ns.length b ∧ (b' = false → wd ≠ "put")) ⟨Same.refl _, 0, false, _, _, _, rfl, hri, fun _ => by decide⟩ (fun i σ G hi hP => SqL.of (hP.1.at hl)) (fun i x σ G hx hP => ?_) (fun σ G hP => ?_)
    · obtain ⟨sG, j, b', wd, x6, x7, rfl, hr2, hwd⟩ := hP
      rw [List.getElem?_map] at hx
      cases hc0 : ts[i]? with
      | none => rw [hc0] at hx; cases hx
      | some y =>
      rw [hc0] at hx
      cases hx
      obtain ⟨r, hr', ht⟩ := paired_get1 hts hc0
      have hir : i < rs.length := by
        by_cases z : i < rs.length
        · exact z
        · rw [List.getElem?_eq_none (by omega)] at hr'; cases hr'
      have edr : rs.drop i = r :: rs.drop (i + 1) := by
        rw [List.drop_eq_getElem_cons hir]
        rw [List.getElem?_eq_getElem hir] at hr'
        cases hr'
        rfl
      rw [edr] at hr2
      have ht' := TupAt.same ht sG
      cases r with
      | put to sg =>
        obtain ⟨h1, h2, h3, h4, h5, h6, h7⟩ := hr2
        obtain ⟨u, hy, hu⟩ := ht'
        subst h2
        walk_at "w"
        refine ⟨_, _, _, _, true, rfl, rfl, TyOf.tup hy, rfl, ?_⟩
        walk_at "w"
        refine ⟨by walk_at "no", fun _ => ?_⟩
        walk_at "w"
        refine ⟨y, _, _, .int j, rfl, rfl, SqT.of hy, rfl, ?_⟩
        walk_at "w"
        refine ⟨fun e1 => absurd e1 (by simp), fun _ => ?_⟩
        walk_at "w"
        refine ⟨y, _, _, .str "put", rfl, rfl, SqT.of hy, rfl, ?_⟩
        walk_at "w"
        refine ⟨fun _ => ?_, fun e1 => absurd e1 (by decide)⟩
        walk_at "w"
        have hw := hwd h1
        refine ⟨fun e1 => absurd e1 (by simp [hw]), fun _ => ?_⟩
        walk_at "w"
        refine ⟨y, _, _, .str "put", rfl, rfl, SqT.of hy, rfl, ?_⟩
        walk_at "w"
        refine ⟨fun _ => ?_, fun e1 => absurd e1 (by decide)⟩
        walk_at "w"
        refine ⟨y, e, n, u, es, ns, sg, j, least, rfl, hy, hu, sG.at he, sG.at hn, h3, hnl, h4, h5, h6, fun G1 s1 => ?_⟩
        walk_at "w"
        refine ⟨by walk_at "no", fun _ => ?_⟩
        walk_at "w"
        refine ⟨y, _, _, .ref u, rfl, rfl, SqT.of (s1.at hy), rfl, ?_⟩
        walk_at "w"
        refine ⟨u, _, rfl, .inr (SqT.of (s1.at hu)), ?_⟩
        have ec : ((j + sg.length : Nat) : Int) = (j : Int) + (((sg.map V.int).length : Nat) : Int) := by rw [List.length_map]; omega
        refine ⟨sG.trans s1, j + sg.length, true, "put", some (.ref y), x7, ?_, h7, fun z => by cases z⟩
        rw [ec]; rfl
      | take to st c =>
        obtain ⟨st', c', h1, h2, h3, h4, h5, h6, h7, h8⟩ := hr2
        subst h1; subst h2; subst h3
        have hy : G y = some (.tup [.str "take", .int j, .int st', .int c']) := ht'
        walk_at "w"
        refine ⟨_, _, _, _, true, rfl, rfl, TyOf.tup hy, rfl, ?_⟩
        walk_at "w"
        refine ⟨by walk_at "no", fun _ => ?_⟩
        walk_at "w"
        refine ⟨y, _, _, .int j, rfl, rfl, SqT.of hy, rfl, ?_⟩
        walk_at "w"
        refine ⟨fun e1 => absurd e1 (by simp), fun _ => ?_⟩
        walk_at "w"
        refine ⟨y, _, _, .str "take", rfl, rfl, SqT.of hy, rfl, ?_⟩
        walk_at "w"
        refine ⟨fun e1 => absurd e1 (by decide), fun _ => ?_⟩
        walk_at "w"
        refine ⟨by walk_at "no", fun _ => ?_⟩
        walk_at "w"
        refine ⟨y, _, _, .str "take", rfl, rfl, SqT.of hy, rfl, ?_⟩
        walk_at "w"
        refine ⟨fun e1 => absurd e1 (by decide), fun _ => ?_⟩
        walk_at "w"
        refine ⟨_, rfl, ?_⟩
        walk_at "w"
        refine ⟨n, _, rfl, SqL.of (sG.at hn), ?_⟩
        intro d hd
        generalize hUd : upd G d _ = G1
        have sG1 := Same.of_eq hd hUd
        have ed := at_of_eq hUd
        clear hUd
        walk_at "w"
        rw [cut_from] at ed
        have s1 := sG.trans sG1
        refine ⟨e, d, es, ns.drop j, rfl, s1.at he, ed, fun r a1 c G2 s2 er hb => ?_⟩
        obtain ⟨rfl, rfl⟩ := h7.uniq hb
        have hy2 := (sG1.trans s2).at hy
        walk_at "w"
        refine ⟨fun e1 => absurd e1 (by decide), fun _ => ?_⟩
        walk_at "w"
        refine ⟨_, rfl, ?_⟩
        walk_at "w"
        refine ⟨y, _, rfl, SqT.of hy2, by show ¬ (HT.sIx 4 0 (some 2) = 0 ∧ HT.sIx 4 4 none = 4); decide, ?_⟩
        intro z hz
        generalize hUz : upd G2 z _ = G3
        have sG3 := Same.of_eq hz hUz
        have ez := at_of_eq hUz
        clear hUz
        walk_at "w"
        have ez' : G3 z = some (.tup [.int st', .int c']) := ez
        refine deq_same (pair_rp ez') (pair_rp (sG3.at er)) (pair_shaped _ _) ?_
        walk_at "w"
        refine ⟨by walk_at "no", fun _ => ?_⟩
        walk_at "w"
        refine ⟨r, _, _, .int c', rfl, rfl, SqT.of (sG3.at er), rfl, ?_⟩
        walk_at "w"
        refine ⟨fun e1 => absurd (of_decide_eq_true e1) (by omega), fun _ => ?_⟩
        walk_at "w"
        refine ⟨r, _, _, .int c', rfl, rfl, SqT.of (sG3.at er), rfl, ?_⟩
        have ec : ((j + c' : Nat) : Int) = (j : Int) + (c' : Int) := by omega
        refine ⟨s1.trans (s2.trans sG3), j + c', false, "take", some (.ref y), some (.ref r), ?_, h8, fun _ => by decide⟩
        rw [ec]; rfl
    · obtain ⟨sG, j, b', wd, x6, x7, rfl, hr2, hwd⟩ := hP
      rw [List.length_map, htl, List.drop_length] at hr2
      walk_at "w"
      refine ⟨n, _, rfl, .inl (SqL.of (sG.at hn)), ?_⟩
      have ej : decide ((j : Int) = (((ns.map V.int).length : Nat) : Int)) = true := by rw [List.length_map, hr2.1]; exact decide_eq_true rfl
      show Q (.bl (decide ((j : Int) = (((ns.map V.int).length : Nat) : Int)))) G
      rw [ej]
      exact k G sG
theorem two_rp {K : PySem.W.Frag} {G : Hp} {l a b : Addr} {xs ys : List Int} (h : G l = some (.lst [.ref a, .ref b])) (ha : G a = some (.lst (xs.map V.int))) (hb : G b = some (.lst (ys.map V.int))) : Rp K G (.ref l) (dLL [xs, ys]) :=
  .lst (SqL.of h) (.cons (.ints (SqL.of ha)) (.cons (.ints (SqL.of hb)) .nil))
theorem TupAt.off {K : PySem.W.Frag} {H : Hp} {t p : Addr} {r : RowD} {xs : List V} {o : HO} (h : TupAt K H t r) (hp : H p = some (.lst xs)) : TupAt K (upd H p o) t r := by
  cases r with
  | take to st c => show upd H p o t = _; rw [upd_ne (ne_of h hp (by intro z; cases z))]; exact h
  | put to sg =>
    obtain ⟨u, h1, h2⟩ := h
    exact ⟨u, by rw [upd_ne (ne_of h1 hp (by intro z; cases z))]; exact h1, by rw [upd_ne (ne_of h2 hp (by intro z; cases z))]; exact h2⟩
theorem ok_law (T : Txt K mg a) : FnOk P w K mg base CX0 7 a.f_law a.d_law ["_law_script"] (sp_law K) := by
  refine T.F_law.ok sc_law (fun vs H Q E h => ?_) (fun cdv A outer s H vs Q E hr h => ?_)
  · obtain ⟨l, ns, rfl, _⟩ := h; rfl
  · obtain ⟨l, ns, rfl, hl, hlen, hP, k⟩ := h
    have nd := sc_law.nd
    refine ⟨_, (pss_cons (ps_set (i := 1) nd rfl (Or.inl rfl) (pe_call (ok_elder T) (hr.mono (by decide)) (by rfl) T.m_elder T.F_elder.kp T.b_elder .nil pass0 (pa_cons (cv 0) pa_nil)))
    (pss_cons (ps_set (i := 2) nd rfl (Or.inl rfl) (pe_call (ok_newer T) (hr.mono (by decide)) (by rfl) T.m_newer T.F_newer.kp T.b_newer .nil pass0 (pa_cons (cv 0) (pa_cons (cv 1) pa_nil))))
    (pss_cons (ps_set (i := 3) nd rfl (Or.inl rfl) (pe_lst (pa_cons (pe_callTy call_list_of (by rfl) T.n_list bt_list (pa_cons (cv 1) pa_nil)) (pa_cons (pe_callTy call_list_of (by rfl) T.n_list bt_list (pa_cons (cv 2) pa_nil)) pa_nil))))
    (pss_cons (ps_set (i := 4) nd rfl (Or.inl rfl) (pe_op o_add pe_int (pe_op o_mod (pe_op o_fdiv (pe_call (ok_cell_at T) (hr.mono (by decide)) (by rfl) T.m_cell_at T.F_cell_at.kp T.b_cell_at .nil pass0 (pa_cons (cv 0) (pa_cons pe_int pa_nil))) pe_int) pe_int)))
    (pss_cons (cs_cut (cs_if (ct_cmp o_eqI (pe_op o_mod (pe_call (ok_cell_at T) (hr.mono (by decide)) (by rfl) T.m_cell_at T.F_cell_at.kp T.b_cell_at .nil pass0 (pa_cons (cv 0) (pa_cons pe_int pa_nil))) pe_int) pe_int) (pss_cons (ps_set (i := 4) nd rfl (Or.inl rfl) pe_int)
    (pss_one (ps_set (i := 5) nd rfl (Or.inl rfl) (pe_call (dvs := [.int 6]) (ok_found T) (hr.mono (by decide)) (by rfl) T.m_found T.F_found.kp T.bd_found (.cons ⟨_, rfl⟩ .nil) pass0 (pa_cons (pe_ix ix_list (cv 3) pe_int (fun _ _ => rfl)) (pa_cons (pe_ix ix_list (cv 3) pe_int (fun _ _ => rfl)) pa_nil)))))) (pss_one (ps_set (i := 5) nd rfl (Or.inl rfl) (pe_call (ok_found T) (hr.mono (by decide)) (by rfl) T.m_found T.F_found.kp T.b_found .nil pass0 (pa_cons (pe_ix ix_list (cv 3) pe_int (fun _ _ => rfl)) (pa_cons (pe_ix ix_list (cv 3) pe_int (fun _ _ => rfl)) (pa_cons (cv 4) pa_nil))))))))
    (pss_cons (cs_if (PW.pt (cw_or (pt_not (ct_val (pe_callB call_isi (by rfl) T.n_isinstance bt_isinstance (pa_cons (cv 5) (pa_cons (pe_bltn (v := .ty "list") (by rfl) T.n_list bt_list rfl) pa_nil))))) (cw_or (pt_not (ct_val (pe_call (ok_right T) (hr.mono (by decide)) (by rfl) T.m_right T.F_right.kp T.b_right .nil pass0 (pa_cons (cv 5) (pa_cons (cv 1) (pa_cons (cv 2) (pa_cons (cv 4) pa_nil))))))) (pw_or1 (ct_cmp (o_dne hr.units) (cv 3) (pe_lst (pa_cons (cv 1) (pa_cons (cv 2) pa_nil)))))))) (pss_one (ps_ret pe_bl)) pss_nil)
    (pss_cons (ps_set (i := 6) nd rfl (Or.inl rfl) (pe_callTy call_list_of (by rfl) T.n_list bt_list (pa_cons (cv 5) pa_nil)))
    (pss_cons (ps_expr (pe_bm PySem.F.plainAttrs_list PySem.F.slot_list_append PySem.F.type_list_append mt_append (cv 5) (pa_cons (pe_tup (pa_cons pe_str (pa_cons pe_int (pa_cons pe_int (pa_cons pe_int pa_nil))))) pa_nil)))
    (pss_one (ps_ret (ce_and (ce_cmp (o_deq hr.units) (pe_call (ok_found T) (hr.mono (by decide)) (by rfl) T.m_found T.F_found.kp T.b_found .nil pass0 (pa_cons (pe_ix ix_list (cv 3) pe_int (fun _ _ => rfl)) (pa_cons (pe_ix ix_list (cv 3) pe_int (fun _ _ => rfl)) (pa_cons (cv 4) pa_nil)))) (cv 6)) (pe_one (ce_cmp (o_deq hr.units) (pe_call (ok_found T) (hr.mono (by decide)) (by rfl) T.m_found T.F_found.kp T.b_found .nil pass0 (pa_cons (pe_ix ix_list (cv 3) pe_int (fun _ _ => rfl)) (pa_cons (pe_lst pa_nil) (pa_cons (cv 4) pa_nil)))) (pe_lst pa_nil)))))))))))))), ?_⟩
    walk_at "w"
    refine ⟨l, ns, rfl, hl, fun e es H1 s1 hee ee hel => ?_⟩
    walk_at "w"
    refine ⟨l, e, ns, es, rfl, s1.seq hl, ee, hel, fun q ps H2 s2 hq eq hpl => ?_⟩
    have s12 := s1.trans s2
    walk_at "w"
    refine ⟨e, _, rfl, .inl (SqL.of (s2.at ee)), ?_⟩
    intro h0 hh0
    generalize hUh0 : upd H2 h0 _ = H3
    have sH3 := Same.of_eq hh0 hUh0
    have eh0 := at_of_eq hUh0
    clear hUh0
    walk_at "w"
    refine ⟨q, _, rfl, .inl (SqL.of (sH3.at eq)), ?_⟩
    intro h1 hh1
    generalize hUh1 : upd H3 h1 _ = H4
    have sH4 := Same.of_eq hh1 hUh1
    have eh1 := at_of_eq hUh1
    clear hUh1
    walk_at "w"
    walk_at "ss"
    intro hd hhd
    generalize hUhd : upd H4 hd _ = H5
    have sH5 := Same.of_eq hhd hUhd
    have ehd := at_of_eq hUhd
    clear hUhd
    walk_at "w"
    have s25 := sH3.trans (sH4.trans sH5)
    have ee5 := s25.at (s2.at ee)
    have eq5 := s25.at eq
    have eh0 := (sH4.trans sH5).at eh0
    have eh1 := sH5.at eh1
    have s05 := s12.trans s25
    clear sH3 sH4 sH5 hh0 hh1
    refine ⟨l, ns, 1, rfl, s05.seq hl, by decide, ?_⟩
    walk_at "w"
    generalize cellAt ns 1 = c1
    walk_at "ss"
    have b0 := Int.emod_nonneg (c1 / 2) (b := 12) (by decide)
    refine ⟨fun σ G => Same H5 G ∧ ∃ (least : Int) (r : Addr) (ts : List Addr) (rs : List RowD) (b : Bool), σ = [some (.ref l), some (.ref e), some (.ref q), some (.ref hd), some (.int least), some (.ref r), none] ∧ 1 ≤ least ∧ H5 r = none ∧ G r = some (.lst (ts.map V.ref)) ∧ Paired (TupAt K G) ts rs ∧ RightTo es ps least 0 false rs ps.length b, ?_, fun σ G hM => ?_⟩
    · walk_at "w"
      refine ⟨l, ns, 1, rfl, s05.seq hl, by decide, ?_⟩
      walk_at "w"
      refine ⟨by walk_at "pos", ?_⟩
      walk_at "w"
      refine ⟨fun _ => ?_, fun _ => ?_⟩
      · walk_at "w"
        refine ⟨hd, _, _, .ref h0, rfl, rfl, SqL.of ehd, rfl, ?_⟩
        walk_at "w"
        refine ⟨hd, _, _, .ref h1, rfl, rfl, SqL.of ehd, rfl, ?_⟩
        walk_at "w"
        refine ⟨h0, h1, es, ps, 6, rfl, s05.at hP, eh0, eh1, by omega, by omega, by decide, fun r ts rs b G sG hr5 er hts hri => ?_⟩
        exact ⟨sG, 6, r, ts, rs, b, rfl, by decide, hr5, er, hts, hri⟩
      · walk_at "w"
        refine ⟨hd, _, _, .ref h0, rfl, rfl, SqL.of ehd, rfl, ?_⟩
        walk_at "w"
        refine ⟨hd, _, _, .ref h1, rfl, rfl, SqL.of ehd, rfl, ?_⟩
        walk_at "w"
        refine ⟨h0, h1, es, ps, 1 + c1 / 2 % 12, rfl, s05.at hP, eh0, eh1, by omega, by omega, by omega, fun r ts rs b G sG hr5 er hts hri => ?_⟩
        exact ⟨sG, 1 + c1 / 2 % 12, r, ts, rs, b, rfl, by omega, hr5, er, hts, hri⟩
    obtain ⟨sG, least, r, ts, rs, b, rfl, hls, hr5, er, hts, hri⟩ := hM
    walk_at "w"
    refine ⟨_, _, _, _, true, rfl, rfl, TyOf.lst er, rfl, ?_⟩
    walk_at "w"
    refine ⟨by walk_at "no", fun _ => ?_⟩
    walk_at "w"
    refine ⟨r, e, q, ts, rs, es, ps, least, b, rfl, er, hts, sG.at ee5, sG.at eq5, hpl, hri, fun G1 s1' => ?_⟩
    walk_at "w"
    refine ⟨by walk_at "no", fun _ => ?_⟩
    walk_at "w"
    walk_at "ss"
    intro z hz
    generalize hUz : upd G1 z _ = G2
    have sG2 := Same.of_eq hz hUz
    have ez := at_of_eq hUz
    clear hUz
    walk_at "w"
    have s2' := sG.trans (s1'.trans sG2)
    refine lleq_imp (two_rp (s2'.at ehd) (s2'.at eh0) (s2'.at eh1)) (two_rp ez (s2'.at ee5) (s2'.at eq5)) ?_
    walk_at "w"
    rw [decide_eq_true rfl]
    refine ⟨by walk_at "no", fun _ => ?_⟩
    walk_at "w"
    have sr2 := s1'.trans sG2
    have er2 := sr2.at er
    have hfew := hri.few
    have htl := hts.length
    refine ⟨r, _, rfl, .inl (SqL.of er2), ?_⟩
    intro kp hkp
    generalize hUkp : upd G2 kp _ = G3
    have sG3 := Same.of_eq hkp hUkp
    have ekp := at_of_eq hUkp
    clear hUkp
    walk_at "w"
    have er3 := sG3.at er2
    refine ⟨.inl ⟨rfl, _, SqL.of er3⟩, ?_⟩
    walk_at "w"
    walk_at "ss"
    intro tt htt
    generalize hUtt : upd G3 tt _ = G4
    have sG4 := Same.of_eq htt hUtt
    have ett := at_of_eq hUtt
    clear hUtt
    walk_at "w"
    have er4 := sG4.at er3
    refine ⟨r, _, _, rfl, rfl, er4, by rw [List.length_map, sizeLine_eq]; omega, ?_⟩
    generalize hU : upd G4 r _ = G5
    have s5 : Same H5 G5 := Same.wr (s2'.trans (sG3.trans sG4)) hr5 hU
    have nk : kp ≠ r := fun z => by rw [z, er2] at hkp; cases hkp
    have ekp5 : G5 kp = some (.lst (ts.map V.ref)) := by rw [← hU, upd_ne nk]; exact sG4.at ekp
    have hts5 : Paired (TupAt K G5) ts rs := by
      rw [← hU]
      exact L2.Paired.imp' (fun _ _ z => TupAt.off (TupAt.same z (sr2.trans (sG3.trans sG4))) er4) hts
    clear hU
    walk_at "w"
    refine ⟨hd, _, _, .ref h0, rfl, rfl, SqL.of (s5.at ehd), rfl, ?_⟩
    walk_at "w"
    refine ⟨hd, _, _, .ref h1, rfl, rfl, SqL.of (s5.at ehd), rfl, ?_⟩
    walk_at "w"
    refine ⟨h0, h1, es, ps, least, rfl, (s05.trans s5).at hP, s5.at eh0, s5.at eh1, by omega, by omega, hls, fun r6 ts6 rs6 b6 G6 s6 hr6 er6 hts6 hri6 => ?_⟩
    have ers : rs6 = rs := hri6.uniq hri
    subst ers
    walk_at "w"
    refine deq_same (f := fun b => b) (TupsAt.rp ⟨ts6, SqL.of er6, hts6⟩) (TupsAt.rp ⟨ts, SqL.of (s6.at ekp5), L2.Paired.imp' (fun _ _ z => TupAt.same z s6) hts5⟩) (dats_shaped _) ?_
    walk_at "w"
    refine ⟨fun _ => ?_, by walk_at "no"⟩
    walk_at "w"
    have s56 := s5.trans s6
    refine ⟨hd, _, _, .ref h0, rfl, rfl, SqL.of (s56.at ehd), rfl, ?_⟩
    walk_at "w"
    walk_at "ss"
    intro y1 hy1
    generalize hUy1 : upd G6 y1 _ = G7
    have sG7 := Same.of_eq hy1 hUy1
    have ey1 := at_of_eq hUy1
    clear hUy1
    walk_at "w"
    have s57 := s56.trans sG7
    refine ⟨h0, y1, es, [], least, rfl, (s05.trans s57).at hP, s57.at eh0, ey1, by omega, by simp, hls, fun r8 ts8 rs8 b8 G8 s8 hr8 er8 hts8 hri8 => ?_⟩
    have ers : rs8 = [] := hri8.uniq (b2 := false) (rs' := []) ⟨rfl, rfl⟩
    subst ers
    walk_at "w"
    walk_at "ss"
    intro y2 hy2
    generalize hUy2 : upd G8 y2 _ = G9
    have sG9 := Same.of_eq hy2 hUy2
    have ey2 := at_of_eq hUy2
    clear hUy2
    walk_at "w"
    refine deq_same (f := fun b => b) (TupsAt.rp (rs := []) ⟨ts8, SqL.of (sG9.at er8), L2.Paired.imp' (fun _ _ z => TupAt.same z sG9) hts8⟩) (TupsAt.rp (rs := []) ⟨[], SqL.of ey2, .nil⟩) (dats_shaped []) ?_
    exact k _
end
theorem txt_mk {l : PySem.W.OpenLaw} {w : World} {K : PySem.W.Frag} {h : Heap} {mg : Str → Option Value} {fa : Addr} {f_endings f_longest f_how_many_less f_agreeing f_Row_init f_Take_init f_Take_told f_Put_init f_Put_told f_found f_rows_found f_put_ending_at f_cell_at f_draw f_digits f_elder f_newer f_alike f_law_longest f_put_is_right f_right f_law C_Row C_Take C_Put : Addr} {dT_found : Addr} {dod_found : Option Addr} {dn_found : Nat} {dsl_found : Array (Option Value)} {ddc_found : Value} {u_found_0 : Tok} {od0 an0 od1 an1 od2 an2 od3 an3 od4 an4 od5 an5 od6 an6 od7 an7 od8 an8 od9 an9 od10 an10 od11 an11 od12 an12 od13 an13 od14 an14 od15 an15 od16 an16 od17 an17 od18 an18 od19 an19 od20 an20 od21 an21 : Option Addr} {sl0 sl1 sl2 sl3 sl4 sl5 sl6 sl7 sl8 sl9 sl10 sl11 sl12 sl13 sl14 sl15 sl16 sl17 sl18 sl19 sl20 sl21 : Array (Option Value)} {oc0 kV0 dc0 pm0 ct0 oc1 kV1 dc1 pm1 cd1 ct1 oc2 kV2 dc2 pm2 cd2 ct2 oc3 kV3 dc3 pm3 cd3 ct3 oc4 kV4 dc4 pm4 cd4 ct4 oc5 kV5 dc5 pm5 cd5 ct5 oc6 kV6 dc6 pm6 cd6 ct6 oc7 kV7 dc7 pm7 cd7 ct7 oc8 kV8 dc8 pm8 cd8 ct8 oc9 kV9 dc9 pm9 cd9 ct9 oc10 kV10 dc10 pm10 cd10 ct10 oc11 kV11 dc11 pm11 cd11 ct11 oc12 kV12 dc12 pm12 cd12 ct12 oc13 kV13 dc13 pm13 cd13 ct13 oc14 kV14 dc14 pm14 cd14 ct14 oc15 kV15 dc15 pm15 cd15 ct15 oc16 kV16 dc16 pm16 cd16 ct16 oc17 kV17 dc17 pm17 cd17 ct17 oc18 kV18 dc18 pm18 cd18 ct18 oc19 kV19 dc19 pm19 cd19 ct19 oc20 kV20 dc20 pm20 cd20 ct20 oc21 kV21 dc21 pm21 cd21 ct21 : Value} (X : K.In h) (G : h.Ns mainGlobals mg) (hfa : mg "law" = some (.ref fa))
    (aC_Row : PySem.W.nsIn K mainGlobals "Row" = some (some (.ref C_Row)))
    (aC_Take : PySem.W.nsIn K mainGlobals "Take" = some (some (.ref C_Take)))
    (aC_Put : PySem.W.nsIn K mainGlobals "Put" = some (some (.ref C_Put)))
    (a_endings : PySem.W.nsIn K mainGlobals "endings" = some (some (.ref f_endings)))
    (tk_endings : TabK K c_endings P_endings)
    (l_endings : K.lookup f_endings = some ⟨oc0, od0, .func (PySem.W.fnOf "endings" "endings" (defArgs s_endings) (defBody s_endings) (defScope s_endings) .none kV0 dc0 pm0 an0 (.ref c_endings) ct0), sl0⟩)
    (c_endings : PySem.W.codeIn K (.ref c_endings) "endings" = true)
    (k_endings : PySem.W.keepIn K (.ref f_endings) = true)
    (a_longest : PySem.W.nsIn K mainGlobals "longest" = some (some (.ref f_longest)))
    (l_longest : K.lookup f_longest = some ⟨oc1, od1, .func (PySem.W.fnOf "longest" "longest" (defArgs s_longest) (defBody s_longest) (defScope s_longest) .none kV1 dc1 pm1 an1 cd1 ct1), sl1⟩)
    (c_longest : PySem.W.codeIn K cd1 "longest" = true)
    (k_longest : PySem.W.keepIn K (.ref f_longest) = true)
    (a_how_many_less : PySem.W.nsIn K mainGlobals "how_many_less" = some (some (.ref f_how_many_less)))
    (l_how_many_less : K.lookup f_how_many_less = some ⟨oc2, od2, .func (PySem.W.fnOf "how_many_less" "how_many_less" (defArgs s_how_many_less) (defBody s_how_many_less) (defScope s_how_many_less) .none kV2 dc2 pm2 an2 cd2 ct2), sl2⟩)
    (c_how_many_less : PySem.W.codeIn K cd2 "how_many_less" = true)
    (k_how_many_less : PySem.W.keepIn K (.ref f_how_many_less) = true)
    (a_agreeing : PySem.W.nsIn K mainGlobals "agreeing" = some (some (.ref f_agreeing)))
    (l_agreeing : K.lookup f_agreeing = some ⟨oc3, od3, .func (PySem.W.fnOf "agreeing" "agreeing" (defArgs s_agreeing) (defBody s_agreeing) (defScope s_agreeing) .none kV3 dc3 pm3 an3 cd3 ct3), sl3⟩)
    (c_agreeing : PySem.W.codeIn K cd3 "agreeing" = true)
    (k_agreeing : PySem.W.keepIn K (.ref f_agreeing) = true)
    (a_Row_init : PySem.W.findIn K (.ref C_Row) "__init__" = some (some (.ref f_Row_init)))
    (l_Row_init : K.lookup f_Row_init = some ⟨oc4, od4, .func (PySem.W.fnOf "__init__" "Row.__init__" (defArgs s_Row_init) (defBody s_Row_init) (defScope s_Row_init) .none kV4 dc4 pm4 an4 cd4 ct4), sl4⟩)
    (c_Row_init : PySem.W.codeIn K cd4 "Row.__init__" = true)
    (k_Row_init : PySem.W.keepIn K (.ref f_Row_init) = true)
    (a_Take_init : PySem.W.findIn K (.ref C_Take) "__init__" = some (some (.ref f_Take_init)))
    (l_Take_init : K.lookup f_Take_init = some ⟨oc5, od5, .func (PySem.W.fnOf "__init__" "Take.__init__" (defArgs s_Take_init) (defBody s_Take_init) (defScope s_Take_init) .none kV5 dc5 pm5 an5 cd5 ct5), sl5⟩)
    (c_Take_init : PySem.W.codeIn K cd5 "Take.__init__" = true)
    (k_Take_init : PySem.W.keepIn K (.ref f_Take_init) = true)
    (a_Take_told : PySem.W.findIn K (.ref C_Take) "told" = some (some (.ref f_Take_told)))
    (l_Take_told : K.lookup f_Take_told = some ⟨oc6, od6, .func (PySem.W.fnOf "told" "Take.told" (defArgs s_Take_told) (defBody s_Take_told) (defScope s_Take_told) .none kV6 dc6 pm6 an6 cd6 ct6), sl6⟩)
    (c_Take_told : PySem.W.codeIn K cd6 "Take.told" = true)
    (k_Take_told : PySem.W.keepIn K (.ref f_Take_told) = true)
    (a_Put_init : PySem.W.findIn K (.ref C_Put) "__init__" = some (some (.ref f_Put_init)))
    (l_Put_init : K.lookup f_Put_init = some ⟨oc7, od7, .func (PySem.W.fnOf "__init__" "Put.__init__" (defArgs s_Put_init) (defBody s_Put_init) (defScope s_Put_init) .none kV7 dc7 pm7 an7 cd7 ct7), sl7⟩)
    (c_Put_init : PySem.W.codeIn K cd7 "Put.__init__" = true)
    (k_Put_init : PySem.W.keepIn K (.ref f_Put_init) = true)
    (a_Put_told : PySem.W.findIn K (.ref C_Put) "told" = some (some (.ref f_Put_told)))
    (l_Put_told : K.lookup f_Put_told = some ⟨oc8, od8, .func (PySem.W.fnOf "told" "Put.told" (defArgs s_Put_told) (defBody s_Put_told) (defScope s_Put_told) .none kV8 dc8 pm8 an8 cd8 ct8), sl8⟩)
    (c_Put_told : PySem.W.codeIn K cd8 "Put.told" = true)
    (k_Put_told : PySem.W.keepIn K (.ref f_Put_told) = true)
    (a_found : PySem.W.nsIn K mainGlobals "found" = some (some (.ref f_found)))
    (l_found : K.lookup f_found = some ⟨oc9, od9, .func (PySem.W.fnOf "found" "found" (defArgs s_found) (defBody s_found) (defScope s_found) (.ref dT_found) kV9 dc9 pm9 an9 cd9 ct9), sl9⟩)
    (ld_found : K.lookup dT_found = some ⟨ddc_found, dod_found, .seq #[.int 6 u_found_0] dn_found, dsl_found⟩)
    (c_found : PySem.W.codeIn K cd9 "found" = true)
    (k_found : PySem.W.keepIn K (.ref f_found) = true)
    (a_rows_found : PySem.W.nsIn K mainGlobals "rows_found" = some (some (.ref f_rows_found)))
    (l_rows_found : K.lookup f_rows_found = some ⟨oc10, od10, .func (PySem.W.fnOf "rows_found" "rows_found" (defArgs s_rows_found) (defBody s_rows_found) (defScope s_rows_found) .none kV10 dc10 pm10 an10 cd10 ct10), sl10⟩)
    (c_rows_found : PySem.W.codeIn K cd10 "rows_found" = true)
    (k_rows_found : PySem.W.keepIn K (.ref f_rows_found) = true)
    (a_put_ending_at : PySem.W.nsIn K mainGlobals "put_ending_at" = some (some (.ref f_put_ending_at)))
    (l_put_ending_at : K.lookup f_put_ending_at = some ⟨oc11, od11, .func (PySem.W.fnOf "put_ending_at" "put_ending_at" (defArgs s_put_ending_at) (defBody s_put_ending_at) (defScope s_put_ending_at) .none kV11 dc11 pm11 an11 cd11 ct11), sl11⟩)
    (c_put_ending_at : PySem.W.codeIn K cd11 "put_ending_at" = true)
    (k_put_ending_at : PySem.W.keepIn K (.ref f_put_ending_at) = true)
    (a_cell_at : PySem.W.nsIn K mainGlobals "_law_cell_at" = some (some (.ref f_cell_at)))
    (l_cell_at : K.lookup f_cell_at = some ⟨oc12, od12, .func (PySem.W.fnOf "_law_cell_at" "_law_cell_at" (defArgs s_cell_at) (defBody s_cell_at) (defScope s_cell_at) .none kV12 dc12 pm12 an12 cd12 ct12), sl12⟩)
    (c_cell_at : PySem.W.codeIn K cd12 "_law_cell_at" = true)
    (k_cell_at : PySem.W.keepIn K (.ref f_cell_at) = true)
    (a_draw : PySem.W.nsIn K mainGlobals "_law_draw" = some (some (.ref f_draw)))
    (l_draw : K.lookup f_draw = some ⟨oc13, od13, .func (PySem.W.fnOf "_law_draw" "_law_draw" (defArgs s_draw) (defBody s_draw) (defScope s_draw) .none kV13 dc13 pm13 an13 cd13 ct13), sl13⟩)
    (c_draw : PySem.W.codeIn K cd13 "_law_draw" = true)
    (k_draw : PySem.W.keepIn K (.ref f_draw) = true)
    (a_digits : PySem.W.nsIn K mainGlobals "_law_digits" = some (some (.ref f_digits)))
    (l_digits : K.lookup f_digits = some ⟨oc14, od14, .func (PySem.W.fnOf "_law_digits" "_law_digits" (defArgs s_digits) (defBody s_digits) (defScope s_digits) .none kV14 dc14 pm14 an14 cd14 ct14), sl14⟩)
    (c_digits : PySem.W.codeIn K cd14 "_law_digits" = true)
    (k_digits : PySem.W.keepIn K (.ref f_digits) = true)
    (a_elder : PySem.W.nsIn K mainGlobals "_law_elder" = some (some (.ref f_elder)))
    (l_elder : K.lookup f_elder = some ⟨oc15, od15, .func (PySem.W.fnOf "_law_elder" "_law_elder" (defArgs s_elder) (defBody s_elder) (defScope s_elder) .none kV15 dc15 pm15 an15 cd15 ct15), sl15⟩)
    (c_elder : PySem.W.codeIn K cd15 "_law_elder" = true)
    (k_elder : PySem.W.keepIn K (.ref f_elder) = true)
    (a_newer : PySem.W.nsIn K mainGlobals "_law_newer" = some (some (.ref f_newer)))
    (l_newer : K.lookup f_newer = some ⟨oc16, od16, .func (PySem.W.fnOf "_law_newer" "_law_newer" (defArgs s_newer) (defBody s_newer) (defScope s_newer) .none kV16 dc16 pm16 an16 cd16 ct16), sl16⟩)
    (c_newer : PySem.W.codeIn K cd16 "_law_newer" = true)
    (k_newer : PySem.W.keepIn K (.ref f_newer) = true)
    (a_alike : PySem.W.nsIn K mainGlobals "_law_alike" = some (some (.ref f_alike)))
    (l_alike : K.lookup f_alike = some ⟨oc17, od17, .func (PySem.W.fnOf "_law_alike" "_law_alike" (defArgs s_alike) (defBody s_alike) (defScope s_alike) .none kV17 dc17 pm17 an17 cd17 ct17), sl17⟩)
    (c_alike : PySem.W.codeIn K cd17 "_law_alike" = true)
    (k_alike : PySem.W.keepIn K (.ref f_alike) = true)
    (a_law_longest : PySem.W.nsIn K mainGlobals "_law_longest" = some (some (.ref f_law_longest)))
    (l_law_longest : K.lookup f_law_longest = some ⟨oc18, od18, .func (PySem.W.fnOf "_law_longest" "_law_longest" (defArgs s_law_longest) (defBody s_law_longest) (defScope s_law_longest) .none kV18 dc18 pm18 an18 cd18 ct18), sl18⟩)
    (c_law_longest : PySem.W.codeIn K cd18 "_law_longest" = true)
    (k_law_longest : PySem.W.keepIn K (.ref f_law_longest) = true)
    (a_put_is_right : PySem.W.nsIn K mainGlobals "_law_put_is_right" = some (some (.ref f_put_is_right)))
    (l_put_is_right : K.lookup f_put_is_right = some ⟨oc19, od19, .func (PySem.W.fnOf "_law_put_is_right" "_law_put_is_right" (defArgs s_put_is_right) (defBody s_put_is_right) (defScope s_put_is_right) .none kV19 dc19 pm19 an19 cd19 ct19), sl19⟩)
    (c_put_is_right : PySem.W.codeIn K cd19 "_law_put_is_right" = true)
    (k_put_is_right : PySem.W.keepIn K (.ref f_put_is_right) = true)
    (a_right : PySem.W.nsIn K mainGlobals "_law_right" = some (some (.ref f_right)))
    (l_right : K.lookup f_right = some ⟨oc20, od20, .func (PySem.W.fnOf "_law_right" "_law_right" (defArgs s_right) (defBody s_right) (defScope s_right) .none kV20 dc20 pm20 an20 cd20 ct20), sl20⟩)
    (c_right : PySem.W.codeIn K cd20 "_law_right" = true)
    (k_right : PySem.W.keepIn K (.ref f_right) = true)
    (a_law : PySem.W.nsIn K mainGlobals "law" = some (some (.ref f_law)))
    (l_law : K.lookup f_law = some ⟨oc21, od21, .func (PySem.W.fnOf "law" "law" (defArgs s_law) (defBody s_law) (defScope s_law) .none kV21 dc21 pm21 an21 cd21 ct21), sl21⟩)
    (c_law : PySem.W.codeIn K cd21 "law" = true)
    (k_law : PySem.W.keepIn K (.ref f_law) = true)
    (pg_Row : PySem.W.plainGet K C_Row Str.empty = true)
    (hd_Row : PySem.W.hasDictIn K C_Row = true)
    (po_Row : PySem.W.plainOver K C_Row = true)
    (sa_Row : PySem.W.findIn K (.ref C_Row) "__setattr__" = some (some (.builtin "object.__setattr__")))
    (na_Row_count : PySem.W.findIn K (.ref C_Row) "count" = some none)
    (na_Row_to : PySem.W.findIn K (.ref C_Row) "to" = some none)
    (pg_Take : PySem.W.plainGet K C_Take Str.empty = true)
    (hd_Take : PySem.W.hasDictIn K C_Take = true)
    (po_Take : PySem.W.plainOver K C_Take = true)
    (sa_Take : PySem.W.findIn K (.ref C_Take) "__setattr__" = some (some (.builtin "object.__setattr__")))
    (na_Take_count : PySem.W.findIn K (.ref C_Take) "count" = some none)
    (na_Take_source : PySem.W.findIn K (.ref C_Take) "source" = some none)
    (na_Take_to : PySem.W.findIn K (.ref C_Take) "to" = some none)
    (mk_Take : PySem.W.makesIn K C_Take = true)
    (in_Take : PySem.W.findIn K (.ref C_Take) "__init__" = some (some (.ref f_Take_init)))
    (fn_Take : PySem.W.isFn K (.ref f_Take_init) = true)
    (kp_Take : PySem.W.keepIn K (.ref C_Take) = true)
    (pg_Put : PySem.W.plainGet K C_Put Str.empty = true)
    (hd_Put : PySem.W.hasDictIn K C_Put = true)
    (po_Put : PySem.W.plainOver K C_Put = true)
    (sa_Put : PySem.W.findIn K (.ref C_Put) "__setattr__" = some (some (.builtin "object.__setattr__")))
    (na_Put_count : PySem.W.findIn K (.ref C_Put) "count" = some none)
    (na_Put_signs : PySem.W.findIn K (.ref C_Put) "signs" = some none)
    (na_Put_to : PySem.W.findIn K (.ref C_Put) "to" = some none)
    (mk_Put : PySem.W.makesIn K C_Put = true)
    (in_Put : PySem.W.findIn K (.ref C_Put) "__init__" = some (some (.ref f_Put_init)))
    (fn_Put : PySem.W.isFn K (.ref f_Put_init) = true)
    (kp_Put : PySem.W.keepIn K (.ref C_Put) = true)
    (ma_Put_told : PySem.W.findIn K (.ref C_Put) "told" = some (some (.ref f_Put_told)))
    (mf_Put_told : PySem.W.isFn K (.ref f_Put_told) = true)
    (mp_Put_told : PySem.W.keepIn K (.ref f_Put_told) = true)
    (ma_Take_told : PySem.W.findIn K (.ref C_Take) "told" = some (some (.ref f_Take_told)))
    (mf_Take_told : PySem.W.isFn K (.ref f_Take_told) = true)
    (mp_Take_told : PySem.W.keepIn K (.ref f_Take_told) = true)
    (bs_Row_init : PySem.W.specialIn K (.ref C_Row) "__getattribute__" = some (some (.builtin "type.__getattribute__")))
    (br_Row_init : PySem.W.readsIn K C_Row (.type "type") = true)
    (bf_Row_init : PySem.W.findCls K (.ref C_Row) (.type "type") "__init__" = some (.val (.ref f_Row_init)))
    (bk_Row_init : PySem.W.keepIn K (.ref f_Row_init) = true)
    (n_isinstance : PySem.W.nsIn K mainGlobals "isinstance" = some none)
    (n_len : PySem.W.nsIn K mainGlobals "len" = some none)
    (n_list : PySem.W.nsIn K mainGlobals "list" = some none)
    (n_max : PySem.W.nsIn K mainGlobals "max" = some none)
    (n_min : PySem.W.nsIn K mainGlobals "min" = some none)
    (n_range : PySem.W.nsIn K mainGlobals "range" = some none)
    (n_sorted : PySem.W.nsIn K mainGlobals "sorted" = some none)
    (n_tuple : PySem.W.nsIn K mainGlobals "tuple" = some none)
    : ∃ fd : FuncData, (∀ (s : Shared) (v : Value), BindsTo s fd ⟨[v], []⟩ [("_law_script", v)]) ∧ ∀ base : Heap, K.In base → base.Ns mainGlobals mg → FnOk l.prog w K mg base CX0 7 fa fd ["_law_script"] (sp_law K) := by
  have e := hfa.symm.trans (PySem.W.mg_of X G a_law)
  have e2 : f_law = fa := by injection e with e; injection e with e; exact e.symm
  subst e2
  have F_endings := fun_mk (st := s_endings) l_endings c_endings k_endings
  have b_endings := F_endings.binds (ps := ["text"]) fun _ _ _ _ _ _ us hl => match us, hl with | [_], _ => rfl
  have F_longest := fun_mk (st := s_longest) l_longest c_longest k_longest
  have b_longest := F_longest.binds (ps := ["text", "table", "part"]) fun _ _ _ _ _ _ us hl => match us, hl with | [_, _, _], _ => rfl
  have F_how_many_less := fun_mk (st := s_how_many_less) l_how_many_less c_how_many_less k_how_many_less
  have b_how_many_less := F_how_many_less.binds (ps := ["text", "table", "part"]) fun _ _ _ _ _ _ us hl => match us, hl with | [_, _, _], _ => rfl
  have F_agreeing := fun_mk (st := s_agreeing) l_agreeing c_agreeing k_agreeing
  have b_agreeing := F_agreeing.binds (ps := ["text", "at", "part"]) fun _ _ _ _ _ _ us hl => match us, hl with | [_, _, _], _ => rfl
  have F_Row_init := fun_mk (st := s_Row_init) l_Row_init c_Row_init k_Row_init
  have b_Row_init := F_Row_init.binds (ps := ["self", "to"]) fun _ _ _ _ _ _ us hl => match us, hl with | [_, _], _ => rfl
  have F_Take_init := fun_mk (st := s_Take_init) l_Take_init c_Take_init k_Take_init
  have b_Take_init := F_Take_init.binds (ps := ["self", "to", "start", "count"]) fun _ _ _ _ _ _ us hl => match us, hl with | [_, _, _, _], _ => rfl
  have F_Take_told := fun_mk (st := s_Take_told) l_Take_told c_Take_told k_Take_told
  have b_Take_told := F_Take_told.binds (ps := ["self"]) fun _ _ _ _ _ _ us hl => match us, hl with | [_], _ => rfl
  have F_Put_init := fun_mk (st := s_Put_init) l_Put_init c_Put_init k_Put_init
  have b_Put_init := F_Put_init.binds (ps := ["self", "to", "signs"]) fun _ _ _ _ _ _ us hl => match us, hl with | [_, _, _], _ => rfl
  have F_Put_told := fun_mk (st := s_Put_told) l_Put_told c_Put_told k_Put_told
  have b_Put_told := F_Put_told.binds (ps := ["self"]) fun _ _ _ _ _ _ us hl => match us, hl with | [_], _ => rfl
  have F_found := fund_mk (st := s_found) (ds := [.int 6 u_found_0]) l_found c_found k_found ld_found
  have b_found := F_found.binds (ps := ["elder", "newer", "least"]) (es := []) 3 rfl fun _ _ _ _ _ _ _ us hl => match us, hl with | [_, _, _], _ => ⟨_, rfl, rfl⟩
  have bd_found := F_found.binds (ps := ["elder", "newer", "least"]) (es := [.int 6 u_found_0]) 2 rfl fun _ _ _ _ _ _ _ us hl => match us, hl with | [_, _], _ => ⟨_, rfl, rfl⟩
  have F_rows_found := fun_mk (st := s_rows_found) l_rows_found c_rows_found k_rows_found
  have b_rows_found := F_rows_found.binds (ps := ["elder", "newer", "least"]) fun _ _ _ _ _ _ us hl => match us, hl with | [_, _, _], _ => rfl
  have F_put_ending_at := fun_mk (st := s_put_ending_at) l_put_ending_at c_put_ending_at k_put_ending_at
  have b_put_ending_at := F_put_ending_at.binds (ps := ["end", "signs"]) fun _ _ _ _ _ _ us hl => match us, hl with | [_, _], _ => rfl
  have F_cell_at := fun_mk (st := s_cell_at) l_cell_at c_cell_at k_cell_at
  have b_cell_at := F_cell_at.binds (ps := ["_law_script", "_law_k"]) fun _ _ _ _ _ _ us hl => match us, hl with | [_, _], _ => rfl
  have F_draw := fun_mk (st := s_draw) l_draw c_draw k_draw
  have b_draw := F_draw.binds (ps := ["_law_cell", "_law_k"]) fun _ _ _ _ _ _ us hl => match us, hl with | [_, _], _ => rfl
  have F_digits := fun_mk (st := s_digits) l_digits c_digits k_digits
  have b_digits := F_digits.binds (ps := ["_law_cell", "_law_base", "_law_many"]) fun _ _ _ _ _ _ us hl => match us, hl with | [_, _, _], _ => rfl
  have F_elder := fun_mk (st := s_elder) l_elder c_elder k_elder
  have b_elder := F_elder.binds (ps := ["_law_script"]) fun _ _ _ _ _ _ us hl => match us, hl with | [_], _ => rfl
  have F_newer := fun_mk (st := s_newer) l_newer c_newer k_newer
  have b_newer := F_newer.binds (ps := ["_law_script", "_law_elder_here"]) fun _ _ _ _ _ _ us hl => match us, hl with | [_, _], _ => rfl
  have F_alike := fun_mk (st := s_alike) l_alike c_alike k_alike
  have b_alike := F_alike.binds (ps := ["_law_text", "_law_at", "_law_part"]) fun _ _ _ _ _ _ us hl => match us, hl with | [_, _, _], _ => rfl
  have F_law_longest := fun_mk (st := s_law_longest) l_law_longest c_law_longest k_law_longest
  have b_law_longest := F_law_longest.binds (ps := ["_law_elder_here", "_law_part"]) fun _ _ _ _ _ _ us hl => match us, hl with | [_, _], _ => rfl
  have F_put_is_right := fun_mk (st := s_put_is_right) l_put_is_right c_put_is_right k_put_is_right
  have b_put_is_right := F_put_is_right.binds (ps := ["_law_row", "_law_elder_here", "_law_newer_here", "_law_least"]) fun _ _ _ _ _ _ us hl => match us, hl with | [_, _, _, _], _ => rfl
  have F_right := fun_mk (st := s_right) l_right c_right k_right
  have b_right := F_right.binds (ps := ["_law_rows", "_law_elder_here", "_law_newer_here", "_law_least"]) fun _ _ _ _ _ _ us hl => match us, hl with | [_, _, _, _], _ => rfl
  have F_law := fun_mk (st := s_law) l_law c_law k_law
  have b_law := F_law.binds (ps := ["_law_script"]) fun _ _ _ _ _ _ us hl => match us, hl with | [_], _ => rfl
  have T : Txt K mg { f_endings := f_endings, f_longest := f_longest, f_how_many_less := f_how_many_less, f_agreeing := f_agreeing, f_Row_init := f_Row_init, f_Take_init := f_Take_init, f_Take_told := f_Take_told, f_Put_init := f_Put_init, f_Put_told := f_Put_told, f_found := f_found, f_rows_found := f_rows_found, f_put_ending_at := f_put_ending_at, f_cell_at := f_cell_at, f_draw := f_draw, f_digits := f_digits, f_elder := f_elder, f_newer := f_newer, f_alike := f_alike, f_law_longest := f_law_longest, f_put_is_right := f_put_is_right, f_right := f_right, f_law := f_law, d_endings := _, d_longest := _, d_how_many_less := _, d_agreeing := _, d_Row_init := _, d_Take_init := _, d_Take_told := _, d_Put_init := _, d_Put_told := _, d_found := _, d_rows_found := _, d_put_ending_at := _, d_cell_at := _, d_draw := _, d_digits := _, d_elder := _, d_newer := _, d_alike := _, d_law_longest := _, d_put_is_right := _, d_right := _, d_law := _, u_found_0 := u_found_0, C_Row := C_Row, C_Take := C_Take, C_Put := C_Put } := {
    F_endings := F_endings
    b_endings := b_endings
    m_endings := PySem.W.mg_of X G a_endings
    tk_endings := tk_endings
    cd_endings := rfl
    F_longest := F_longest
    b_longest := b_longest
    m_longest := PySem.W.mg_of X G a_longest
    F_how_many_less := F_how_many_less
    b_how_many_less := b_how_many_less
    m_how_many_less := PySem.W.mg_of X G a_how_many_less
    F_agreeing := F_agreeing
    b_agreeing := b_agreeing
    m_agreeing := PySem.W.mg_of X G a_agreeing
    F_Row_init := F_Row_init
    b_Row_init := b_Row_init
    F_Take_init := F_Take_init
    b_Take_init := b_Take_init
    F_Take_told := F_Take_told
    b_Take_told := b_Take_told
    F_Put_init := F_Put_init
    b_Put_init := b_Put_init
    F_Put_told := F_Put_told
    b_Put_told := b_Put_told
    F_found := F_found
    b_found := b_found
    bd_found := bd_found
    m_found := PySem.W.mg_of X G a_found
    F_rows_found := F_rows_found
    b_rows_found := b_rows_found
    m_rows_found := PySem.W.mg_of X G a_rows_found
    F_put_ending_at := F_put_ending_at
    b_put_ending_at := b_put_ending_at
    m_put_ending_at := PySem.W.mg_of X G a_put_ending_at
    F_cell_at := F_cell_at
    b_cell_at := b_cell_at
    m_cell_at := PySem.W.mg_of X G a_cell_at
    F_draw := F_draw
    b_draw := b_draw
    m_draw := PySem.W.mg_of X G a_draw
    F_digits := F_digits
    b_digits := b_digits
    m_digits := PySem.W.mg_of X G a_digits
    F_elder := F_elder
    b_elder := b_elder
    m_elder := PySem.W.mg_of X G a_elder
    F_newer := F_newer
    b_newer := b_newer
    m_newer := PySem.W.mg_of X G a_newer
    F_alike := F_alike
    b_alike := b_alike
    m_alike := PySem.W.mg_of X G a_alike
    F_law_longest := F_law_longest
    b_law_longest := b_law_longest
    m_law_longest := PySem.W.mg_of X G a_law_longest
    F_put_is_right := F_put_is_right
    b_put_is_right := b_put_is_right
    m_put_is_right := PySem.W.mg_of X G a_put_is_right
    F_right := F_right
    b_right := b_right
    m_right := PySem.W.mg_of X G a_right
    F_law := F_law
    b_law := b_law
    m_Row := PySem.W.mg_of X G aC_Row
    c_Row := ⟨pg_Row, hd_Row, po_Row, sa_Row⟩
    na_Row_count := na_Row_count
    na_Row_to := na_Row_to
    m_Take := PySem.W.mg_of X G aC_Take
    c_Take := ⟨pg_Take, hd_Take, po_Take, sa_Take⟩
    na_Take_count := na_Take_count
    na_Take_source := na_Take_source
    na_Take_to := na_Take_to
    mk_Take := ⟨mk_Take, in_Take, fn_Take, kp_Take⟩
    m_Put := PySem.W.mg_of X G aC_Put
    c_Put := ⟨pg_Put, hd_Put, po_Put, sa_Put⟩
    na_Put_count := na_Put_count
    na_Put_signs := na_Put_signs
    na_Put_to := na_Put_to
    mk_Put := ⟨mk_Put, in_Put, fn_Put, kp_Put⟩
    me_Put_told := ⟨ma_Put_told, mf_Put_told, mp_Put_told⟩
    me_Take_told := ⟨ma_Take_told, mf_Take_told, mp_Take_told⟩
    cm_Row_init := ⟨bs_Row_init, br_Row_init, bf_Row_init, bk_Row_init⟩
    n_isinstance := PySem.W.mg_none_of X G n_isinstance
    n_len := PySem.W.mg_none_of X G n_len
    n_list := PySem.W.mg_none_of X G n_list
    n_max := PySem.W.mg_none_of X G n_max
    n_min := PySem.W.mg_none_of X G n_min
    n_range := PySem.W.mg_none_of X G n_range
    n_sorted := PySem.W.mg_none_of X G n_sorted
    n_tuple := PySem.W.mg_none_of X G n_tuple
  }
  exact ⟨_, fun s v => .of_eq rfl, fun base _ _ => ok_law T⟩
end K36
open PySem PySem.W PyProof.Rows
set_option maxRecDepth 100000 in
set_option maxHeartbeats 0 in
theorem PySem.Challenge.cw_oneroom_k36_rows_found_holds : PySem.Challenge.rw_oneroom_k36_rows_found.Holds := by
  w_on; o_law; k_head; (case hw => w_witness2)
  k_fill
  refine L2.walk_ofC (l := PySem.Challenge.rw_oneroom_k36_rows_found) (n := 63) (k := 7) (x := "_law_script") (CX := L2.CX0) (sp := K36.sp_law) (tabs := [(K36.c_endings, K36.P_endings, K36.qs_endings)]) rfl (by decide) rfl ⟨rfl, by decide, by decide⟩ (fun w h Y => PySem.W.km_in_of Y) (fun w h Y KX => (List.forall_mem_cons.mpr ⟨⟨PySem.W.codeHd_of_K (c := K36.c_endings) (P := K36.P_endings) KX (by kernel_rfl), PySem.W.km_tabs_of Y _ (by decide)⟩, (fun _ z => nomatch z)⟩)) (fun w => by kernel_rfl) (by decide) ?F ?S ?C
  case F =>
    intro w mg fa h KX G hmg
    refine' K36.txt_mk KX G hmg ?aC_Row ?aC_Take ?aC_Put ?a_endings ?tk_endings ?l_endings ?c_endings ?k_endings ?a_longest ?l_longest ?c_longest ?k_longest ?a_how_many_less ?l_how_many_less ?c_how_many_less ?k_how_many_less ?a_agreeing ?l_agreeing ?c_agreeing ?k_agreeing ?a_Row_init ?l_Row_init ?c_Row_init ?k_Row_init ?a_Take_init ?l_Take_init ?c_Take_init ?k_Take_init ?a_Take_told ?l_Take_told ?c_Take_told ?k_Take_told ?a_Put_init ?l_Put_init ?c_Put_init ?k_Put_init ?a_Put_told ?l_Put_told ?c_Put_told ?k_Put_told ?a_found ?l_found ?ld_found ?c_found ?k_found ?a_rows_found ?l_rows_found ?c_rows_found ?k_rows_found ?a_put_ending_at ?l_put_ending_at ?c_put_ending_at ?k_put_ending_at ?a_cell_at ?l_cell_at ?c_cell_at ?k_cell_at ?a_draw ?l_draw ?c_draw ?k_draw ?a_digits ?l_digits ?c_digits ?k_digits ?a_elder ?l_elder ?c_elder ?k_elder ?a_newer ?l_newer ?c_newer ?k_newer ?a_alike ?l_alike ?c_alike ?k_alike ?a_law_longest ?l_law_longest ?c_law_longest ?k_law_longest ?a_put_is_right ?l_put_is_right ?c_put_is_right ?k_put_is_right ?a_right ?l_right ?c_right ?k_right ?a_law ?l_law ?c_law ?k_law ?pg_Row ?hd_Row ?po_Row ?sa_Row ?na_Row_count ?na_Row_to ?pg_Take ?hd_Take ?po_Take ?sa_Take ?na_Take_count ?na_Take_source ?na_Take_to ?mk_Take ?in_Take ?fn_Take ?kp_Take ?pg_Put ?hd_Put ?po_Put ?sa_Put ?na_Put_count ?na_Put_signs ?na_Put_to ?mk_Put ?in_Put ?fn_Put ?kp_Put ?ma_Put_told ?mf_Put_told ?mp_Put_told ?ma_Take_told ?mf_Take_told ?mp_Take_told ?bs_Row_init ?br_Row_init ?bf_Row_init ?bk_Row_init ?n_isinstance ?n_len ?n_list ?n_max ?n_min ?n_range ?n_sorted ?n_tuple
    (case aC_Row => k_is)
    (case aC_Take => k_is)
    (case aC_Put => k_is)
    (case a_endings => k_is)
    (case tk_endings => exact L2.tabK_of (by kernel_rfl))
    (case l_endings => k_is)
    (case c_endings => k_is)
    (case k_endings => k_is)
    (case a_longest => k_is)
    (case l_longest => k_is)
    (case c_longest => k_is)
    (case k_longest => k_is)
    (case a_how_many_less => k_is)
    (case l_how_many_less => k_is)
    (case c_how_many_less => k_is)
    (case k_how_many_less => k_is)
    (case a_agreeing => k_is)
    (case l_agreeing => k_is)
    (case c_agreeing => k_is)
    (case k_agreeing => k_is)
    (case a_Row_init => k_is)
    (case l_Row_init => k_is)
    (case c_Row_init => k_is)
    (case k_Row_init => k_is)
    (case a_Take_init => k_is)
    (case l_Take_init => k_is)
    (case c_Take_init => k_is)
    (case k_Take_init => k_is)
    (case a_Take_told => k_is)
    (case l_Take_told => k_is)
    (case c_Take_told => k_is)
    (case k_Take_told => k_is)
    (case a_Put_init => k_is)
    (case l_Put_init => k_is)
    (case c_Put_init => k_is)
    (case k_Put_init => k_is)
    (case a_Put_told => k_is)
    (case l_Put_told => k_is)
    (case c_Put_told => k_is)
    (case k_Put_told => k_is)
    (case a_found => k_is)
    (case l_found => k_is)
    (case ld_found => k_is)
    (case c_found => k_is)
    (case k_found => k_is)
    (case a_rows_found => k_is)
    (case l_rows_found => k_is)
    (case c_rows_found => k_is)
    (case k_rows_found => k_is)
    (case a_put_ending_at => k_is)
    (case l_put_ending_at => k_is)
    (case c_put_ending_at => k_is)
    (case k_put_ending_at => k_is)
    (case a_cell_at => k_is)
    (case l_cell_at => k_is)
    (case c_cell_at => k_is)
    (case k_cell_at => k_is)
    (case a_draw => k_is)
    (case l_draw => k_is)
    (case c_draw => k_is)
    (case k_draw => k_is)
    (case a_digits => k_is)
    (case l_digits => k_is)
    (case c_digits => k_is)
    (case k_digits => k_is)
    (case a_elder => k_is)
    (case l_elder => k_is)
    (case c_elder => k_is)
    (case k_elder => k_is)
    (case a_newer => k_is)
    (case l_newer => k_is)
    (case c_newer => k_is)
    (case k_newer => k_is)
    (case a_alike => k_is)
    (case l_alike => k_is)
    (case c_alike => k_is)
    (case k_alike => k_is)
    (case a_law_longest => k_is)
    (case l_law_longest => k_is)
    (case c_law_longest => k_is)
    (case k_law_longest => k_is)
    (case a_put_is_right => k_is)
    (case l_put_is_right => k_is)
    (case c_put_is_right => k_is)
    (case k_put_is_right => k_is)
    (case a_right => k_is)
    (case l_right => k_is)
    (case c_right => k_is)
    (case k_right => k_is)
    (case a_law => k_is)
    (case l_law => k_is)
    (case c_law => k_is)
    (case k_law => k_is)
    (case pg_Row => k_is)
    (case hd_Row => k_is)
    (case po_Row => k_is)
    (case sa_Row => k_is)
    (case na_Row_count => k_is)
    (case na_Row_to => k_is)
    (case pg_Take => k_is)
    (case hd_Take => k_is)
    (case po_Take => k_is)
    (case sa_Take => k_is)
    (case na_Take_count => k_is)
    (case na_Take_source => k_is)
    (case na_Take_to => k_is)
    (case mk_Take => k_is)
    (case in_Take => k_is)
    (case fn_Take => k_is)
    (case kp_Take => k_is)
    (case pg_Put => k_is)
    (case hd_Put => k_is)
    (case po_Put => k_is)
    (case sa_Put => k_is)
    (case na_Put_count => k_is)
    (case na_Put_signs => k_is)
    (case na_Put_to => k_is)
    (case mk_Put => k_is)
    (case in_Put => k_is)
    (case fn_Put => k_is)
    (case kp_Put => k_is)
    (case ma_Put_told => k_is)
    (case mf_Put_told => k_is)
    (case mp_Put_told => k_is)
    (case ma_Take_told => k_is)
    (case mf_Take_told => k_is)
    (case mp_Take_told => k_is)
    (case bs_Row_init => k_is)
    (case br_Row_init => k_is)
    (case bf_Row_init => k_is)
    (case bk_Row_init => k_is)
    (case n_isinstance => k_is)
    (case n_len => k_is)
    (case n_list => k_is)
    (case n_max => k_is)
    (case n_min => k_is)
    (case n_range => k_is)
    (case n_sorted => k_is)
    (case n_tuple => k_is)
  case S => exact fun K H a ns hl hS hT => ⟨a, ns, rfl, hS, hl, hT _ (.head _), fun _ => rfl⟩
  case C => exact fun _ _ _ _ z => z
#print axioms PySem.Challenge.cw_oneroom_k36_rows_found_holds

