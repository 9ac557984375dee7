import PyProof.Rows.All
import Wide.All
import OpenK.AllK
import Wide.FinOn
import Lean
import PyProof.EqAt
import PyProof.EqKinds
import PyProof.TupleCall
import PySem.Challenge.RW_oneroom_k90_whole_falls
set_option Elab.async false
set_option linter.all false
set_option maxRecDepth 100000
namespace L2
open PySem PySem.Spec PyProof.Rows
abbrev Key := Sum Int Str
def xeN : Key → Value → Bool
  | .inl k, v => Value.isInt k v
  | .inr x, v => Value.isStrOf x v
def xp0 (w : World) : Key → Int
  | .inl k => hashInt k
  | .inr x => hashStr w x
theorem yZ : ∀ {k : Key} {v : Value}, xeN k v = true → (∃ i t, k = Sum.inl i ∧ v = Value.int i t) ∨ (∃ x t, k = Sum.inr x ∧ v = Value.str x t)
  | .inl i, v, h => by
    obtain ⟨t, e⟩ := Value.isInt_shape (k := i) (v := v) h
    exact .inl ⟨i, t, rfl, e⟩
  | .inr x, v, h => by
    obtain ⟨t, e⟩ := Value.isStrOf_shape (x := x) (v := v) h
    exact .inr ⟨x, t, rfl, e⟩
theorem xlb (i : Int) (t : Tok) : xeN (.inl i) (.int i t) = true := by simp [xeN, Value.isInt]
theorem xlc (x : Str) (t : Tok) : xeN (.inr x) (.str x t) = true := by simp [xeN, Value.isStrOf]
theorem xow (a b : Int) : decide ((Sum.inl a : Key) = Sum.inl b) = (a == b) := by
  by_cases e : a = b
  · subst e; simp
  · have h : ¬ (Sum.inl a : Key) = Sum.inl b := fun q => e (Sum.inl.inj q)
    rw [decide_eq_false h]
    exact (beq_eq_false_iff_ne.mpr e).symm
theorem xox (a b : Str) : decide ((Sum.inr a : Key) = Sum.inr b) = decide (a = b) := by
  by_cases e : a = b
  · subst e; simp
  · have h : ¬ (Sum.inr a : Key) = Sum.inr b := fun q => e (Sum.inr.inj q)
    rw [decide_eq_false h, decide_eq_false e]
theorem xoy (a : Int) (b : Str) : decide ((Sum.inl a : Key) = Sum.inr b) = false := decide_eq_false (fun q => nomatch q)
theorem xoz (a : Str) (b : Int) : decide ((Sum.inr a : Key) = Sum.inl b) = false := decide_eq_false (fun q => nomatch q)
def zQ (prog : Program) (w : World) : PySem.KeyKind prog w Key where
  is := xeN
  hash := xp0 w
  inj := fun v a b ha hb => by
    rcases yZ ha with ⟨i, t, rfl, rfl⟩ | ⟨x, t, rfl, rfl⟩
    · rcases yZ hb with ⟨j, u, rfl, e⟩ | ⟨y, u, rfl, e⟩
      · injection e with e1 _; rw [e1]
      · exact nomatch e
    · rcases yZ hb with ⟨j, u, rfl, e⟩ | ⟨y, u, rfl, e⟩
      · exact nomatch e
      · injection e with e1 _; rw [e1]
  byValue := fun k v h => by
    rcases yZ h with ⟨i, t, rfl, rfl⟩ | ⟨x, t, rfl, rfl⟩ <;> rfl
  pyHash := fun hv h => by
    rcases yZ hv with ⟨i, t, rfl, rfl⟩ | ⟨x, t, rfl, rfl⟩
    · exact wpAny_pyHash_int h
    · exact wpAny_pyHash_str h
  eqBool := fun hu hv h => by
    rcases yZ hu with ⟨i, t, rfl, rfl⟩ | ⟨x, t, rfl, rfl⟩
    · rcases yZ hv with ⟨j, u, rfl, rfl⟩ | ⟨y, u, rfl, rfl⟩
      · rw [xow] at h; exact wpAny_eqBool_int h
      · rw [xoy] at h; exact SeqAt.EqAt.int_str i t y u _ _ _ _ h
    · rcases yZ hv with ⟨j, u, rfl, rfl⟩ | ⟨y, u, rfl, rfl⟩
      · rw [xoz] at h; exact SeqAt.EqAt.str_int x t j u _ _ _ _ h
      · rw [xox] at h; exact wpAny_eqBool_str h
  «strs» := fun k x t v h => by
    rcases yZ h with ⟨i, u, rfl, e⟩ | ⟨y, u, rfl, e⟩
    · exact nomatch e
    · injection e with e1 _
      subst e1
      cases v <;> rfl
theorem xi6 (prog : Program) (w : World) (i : Int) (t : Tok) : (zQ prog w).is (.inl i) (.int i t) = true := xlb i t
theorem xi7 (prog : Program) (w : World) (x : Str) (t : Tok) : (zQ prog w).is (.inr x) (.str x t) = true := xlc x t
end L2
namespace L2
open PySem PySem.Spec PyProof.Rows
inductive V where
  | non | bl (b : Bool) | int (i : Int) | str (x : Str) | byt (b : Array UInt8) | flt (b : UInt64) | ref (a : Addr) | ty (n : String)
  deriving DecidableEq
def RelV : V → Value → Prop
  | .non, u => u = Value.none
  | .bl b, u => u = Value.bool b
  | .int i, u => ∃ t, u = Value.int i t
  | .str x, u => ∃ t, u = Value.str x t
  | .byt b, u => ∃ t, u = Value.bytes b t
  | .flt b, u => ∃ t, u = Value.float b t
  | .ref a, u => u = Value.ref a
  | .ty n, u => u = Value.type n
theorem RelV.fn {x y : V} {u : Value} (a : RelV x u) (b : RelV y u) : x = y := by
  cases x <;> simp only [RelV] at a <;> (first | subst a | (obtain ⟨_, rfl⟩ := a)) <;> cases y <;> simp only [RelV] at b <;> first | rfl | (cases b; done) | (cases b; rfl) | (obtain ⟨_, b⟩ := b; cases b; done) | (obtain ⟨_, b⟩ := b; cases b; rfl)
abbrev Vals : List V → List Value → Prop := Paired RelV
theorem Vals.length {xs : List V} {us : List Value} (r : Vals xs us) : xs.length = us.length := Paired.length r
theorem Vals.get : ∀ {xs : List V} {us : List Value} {i : Nat} {x : V}, Vals xs us → xs[i]? = some x → ∃ u, us[i]? = some u ∧ RelV x u
  | _, _, _, _, .nil, e => by simp at e
  | _, _, 0, _, .cons r _, e => by simp at e; subst e; exact ⟨_, rfl, r⟩
  | _, _, i + 1, x, .cons _ t, e => by
    obtain ⟨u, h1, h2⟩ := Vals.get (i := i) (x := x) t (by simpa using e)
    exact ⟨u, by simpa using h1, h2⟩
theorem Vals.set {x : V} {u : Value} (r : RelV x u) : ∀ {xs : List V} {us : List Value} (i : Nat), Vals xs us → Vals (xs.set i x) (us.set i u)
  | _, _, _, .nil => .nil
  | _, _, 0, .cons _ t => .cons r t
  | _, _, i + 1, .cons q t => .cons q (Vals.set r i t)
theorem Vals.append : ∀ {xs ys : List V} {us ws : List Value}, Vals xs us → Vals ys ws → Vals (xs ++ ys) (us ++ ws)
  | _, _, _, _, .nil, s => s
  | _, _, _, _, .cons r t, s => .cons r (Vals.append t s)
theorem Vals.take : ∀ {xs : List V} {us : List Value} (n : Nat), Vals xs us → Vals (xs.take n) (us.take n)
  | _, _, 0, _ => .nil
  | _, _, _ + 1, .nil => .nil
  | _, _, n + 1, .cons r t => .cons r (Vals.take n t)
theorem Vals.drop : ∀ {xs : List V} {us : List Value} (n : Nat), Vals xs us → Vals (xs.drop n) (us.drop n)
  | _, _, 0, r => r
  | _, _, _ + 1, .nil => .nil
  | _, _, n + 1, .cons _ t => Vals.drop n t
def xab : Option V → Option Value → Prop
  | some v, some u => RelV v u
  | none, none => True
  | _, _ => False
def KV {κ : Type} : List (κ × V) → List (κ × Value) → Prop := Paired fun (p : κ × V) (q : κ × Value) => p.1 = q.1 ∧ RelV p.2 q.2
def kV : Key → V
  | .inl i => .int i
  | .inr x => .str x
inductive HO where
  | lst (xs : List V)
  | tup (xs : List V)
  | dK (kvs : List (Key × V)) | dT (kvs : List (List Key × V))
  | set (S : Int → Bool) (n : Nat)
  | ins (C dx : Addr) (fs : List (Str × V))
  | own (x : Addr)
  | xd (fs : List (Str × V))
  | met (f x : Addr)
  | rng (lo hi : Int)
  | frz (o : Obj) (u : HO)
  | tbl (qs : List (Pos × Str))
  | cel (v : Option V)
  | ext (φ : Heap → Prop)
abbrev Hp := Addr → Option HO
def upd (H : Hp) (a : Addr) (o : HO) : Hp := fun b => if b = a then some o else H b
theorem xo {H : Hp} {a : Addr} {o : HO} : upd H a o a = some o := by unfold upd; rw [if_pos rfl]
theorem xn {H : Hp} {a b : Addr} {o : HO} (h : b ≠ a) : upd H a o b = H b := by unfold upd; rw [if_neg h]
theorem jl {H : Hp} {a : Addr} {o u : HO} : upd (upd H a o) a u = upd H a u := by
  funext b; unfold upd; split <;> rfl
theorem xar {H : Hp} {a b : Addr} {o u : HO} (h : H a = some o) (h' : H b = some u) (d : o ≠ u) : a ≠ b := by
  intro e; subst e; rw [h] at h'; exact d (Option.some.inj h')
theorem xB {H : Hp} {a b : Addr} {o : HO} (h : H a = some o) (h' : H b = none) : a ≠ b := by
  intro e; subst e; rw [h] at h'; cases h'
section
variable (P : Program) (w : World)
def xS (H : Hp) (h : Heap) (a : Addr) : HO → Prop
  | .lst xs => xs.length ≤ sizeLine ∧ ∃ (its : List Value) (n : Nat), Vals xs its ∧ h.get? a = some { cls := .type "list", data := .seq its.toArray n }
  | .tup xs => xs.length ≤ sizeLine ∧ ∃ its : List Value, Vals xs its ∧ IsTup h a its.toArray
  | .dK kvs => kvs.length ≤ sizeLine ∧ (a == sysModules) = false ∧ ∃ vs, KV kvs vs ∧ h.DictOf (zQ P w) a vs
  | .dT kvs => kvs.length ≤ sizeLine ∧ (a == sysModules) = false ∧ ∃ xs : List (List Key × Addr × Value),
      Paired (fun (p : List Key × V) (q : List Key × Addr × Value) => p.1 = q.1 ∧ H q.2.1 = some (.tup (p.1.map kV)) ∧ RelV p.2 q.2.2) kvs xs ∧
      ∃ o es ep, h.get? a = some o ∧ o.ExactDict ∧ o.data = .dict es ep ∧ es.toList = xs.map (entryOfKey (tupleKind (zQ P w))) ∧ (xs.map (·.1)).Nodup
  | .set S n => h.SetOf (intKind P w) a S n
  | .ins C dx fs => H dx = some (.own a) ∧ fs.length ≤ 1000 ∧ dx ≠ a ∧ h.get? a = some (PySem.W.instObj C dx) ∧
      ∃ mA, h.Ns1 dx mA ∧ (∀ f, xab (fs.lookup f) (mA f)) ∧ PySem.Within mA (fs.map (·.1))
  | .own _ => ∃ o, h.get? a = some o
  | .xd fs => ∃ mA, h.Ns1 a mA ∧ ∀ f, xab (fs.lookup f) (mA f)
  | .rng lo hi => ∃ t u v, h.get? a = some { cls := .type "range", data := .fields #[.int lo t, .int hi u, .int 1 v] }
  | .frz o u => h.get? a = some o ∧ xS H h a u
  | .tbl qs => ∃ ps : Array Value, h.get? a = some { cls := .none, data := .fields ps } ∧ TriplesOk ps.toList ∧ ∀ pos q, (pos, q) ∈ qs →
      codeAmong pos ps.toList = none ∨ ∃ c o u vs t, codeAmong pos ps.toList = some (.ref c) ∧ H c = some (.frz o u) ∧ o.data = .fields vs ∧ vs[1]? = some (.str q t)
  | .cel v => ∃ u, h.IsCell a u ∧ ∀ x, v = some x → ∃ y, u = some y ∧ RelV x y
  | .met f x => h.get? a = some (PySem.W.methodObj (.ref f) (.ref x))
  | .ext φ => φ h ∧ (∃ o, h.get? a = some o) ∧ ∀ h1 h2 : Heap, φ h1 → (∀ o, h1.get? a = some o → h2.get? a = some o) → φ h2
def HOk (H : Hp) (h : Heap) : Prop := ∀ a o, H a = some o → xS P w H h a o
end
section
variable {P : Program} {w : World} {H H' : Hp} {h h' : Heap} {a : Addr} {o : HO}
def xoA : HO → Prop
  | .tup _ => True
  | .frz _ _ => True
  | _ => False
def Fix : HO → Prop
  | .tup _ => True
  | .frz _ _ => True
  | .tbl _ => True
  | .cel _ => True
  | _ => False
theorem xS.lt (x : xS P w H h a o) : a < h.objs.size := by
  cases o with
  | lst xs => obtain ⟨_, _, _, _, e⟩ := x; exact Heap.lt_size e
  | tup xs => obtain ⟨_, _, _, p⟩ := x; exact p.lt
  | dK kvs => obtain ⟨_, _, _, _, o, _, _, e, _⟩ := x; exact Heap.lt_size e
  | dT kvs => obtain ⟨_, _, _, _, o, _, _, e, _⟩ := x; exact Heap.lt_size e
  | set S n => obtain ⟨o, _, _, _, e, _⟩ := x; exact Heap.lt_size e
  | ins C dx fs => obtain ⟨_, _, _, e, _⟩ := x; exact Heap.lt_size e
  | own y => obtain ⟨_, e⟩ := x; exact Heap.lt_size e
  | xd fs => obtain ⟨_, ⟨_, _, _, e, _⟩, _⟩ := x; exact Heap.lt_size e
  | rng lo hi => obtain ⟨_, _, _, e⟩ := x; exact Heap.lt_size e
  | frz ob u => obtain ⟨e, _⟩ := x; exact Heap.lt_size e
  | tbl qs => obtain ⟨_, e, _⟩ := x; exact Heap.lt_size e
  | cel v => obtain ⟨_, ⟨_, e, _⟩, _⟩ := x; exact Heap.lt_size e
  | met f y => exact Heap.lt_size (show h.get? a = some _ from x)
  | ext φ => obtain ⟨_, ⟨_, e⟩, _⟩ := x; exact Heap.lt_size e
theorem Paired.mapP {α β : Type} {F G : α → β → Prop} : ∀ {l₁ : List α} {l₂ : List β}, Paired F l₁ l₂ → (∀ a b, F a b → G a b) → Paired G l₁ l₂
  | _, _, .nil, _ => .nil
  | _, _, .cons r t, f => .cons (f _ _ r) (Paired.mapP t f)
theorem Paired.imp' {α β : Type} {F G : α → β → Prop} (f : ∀ a b, F a b → G a b) {l₁ : List α} {l₂ : List β} (r : Paired F l₁ l₂) : Paired G l₁ l₂ := Paired.mapP r f
theorem xS.stay (x : xS P w H h a o) (k : ∀ b u, (b = a ∨ H b = some (.own a)) → h.get? b = some u → h'.get? b = some u)
    (ho : ∀ b, H b = some (.own a) → H' b = some (.own a)) (ht : ∀ b u, H b = some u → xoA u → H' b = some u) : xS P w H' h' a o := by
  induction o with
  | lst xs => obtain ⟨z, its, n, r, e⟩ := x; exact ⟨z, its, n, r, k _ _ (.inl rfl) e⟩
  | tup xs => obtain ⟨z, its, r, ob, e, c⟩ := x; exact ⟨z, its, r, ob, k _ _ (.inl rfl) e, c⟩
  | dK kvs => obtain ⟨z, y, vs, r, ob, es, ep, e, c⟩ := x; exact ⟨z, y, vs, r, ob, es, ep, k _ _ (.inl rfl) e, c⟩
  | dT kvs =>
    obtain ⟨z, y, xs, r, ob, es, ep, e, c⟩ := x
    exact ⟨z, y, xs, Paired.mapP r fun p q z => ⟨z.1, ht _ _ z.2.1 trivial, z.2.2⟩, ob, es, ep, k _ _ (.inl rfl) e, c⟩
  | set S n => obtain ⟨ob, es, ep, t, e, c⟩ := x; exact ⟨ob, es, ep, t, k _ _ (.inl rfl) e, c⟩
  | ins C dx fs =>
    obtain ⟨d, z, ne, e, mA, ⟨od, es, ep, e2, c⟩, r⟩ := x
    exact ⟨ho _ d, z, ne, k _ _ (.inl rfl) e, mA, ⟨od, es, ep, k _ _ (.inr d) e2, c⟩, r⟩
  | own y => obtain ⟨ob, e⟩ := x; exact ⟨ob, k _ _ (.inl rfl) e⟩
  | xd fs => obtain ⟨mA, ⟨od, es, ep, e, c⟩, r⟩ := x; exact ⟨mA, ⟨od, es, ep, k _ _ (.inl rfl) e, c⟩, r⟩
  | rng lo hi => obtain ⟨t, u, v, e⟩ := x; exact ⟨t, u, v, k _ _ (.inl rfl) e⟩
  | frz ob u ih => obtain ⟨e, q⟩ := x; exact ⟨k _ _ (.inl rfl) e, ih q⟩
  | tbl qs =>
    obtain ⟨ps, e, tr, r⟩ := x
    refine ⟨ps, k _ _ (.inl rfl) e, tr, fun pos q m => ?_⟩
    rcases r pos q m with z | ⟨c, ob, u, vs, t, z1, z2, z3⟩
    · exact .inl z
    · exact .inr ⟨c, ob, u, vs, t, z1, ht _ _ z2 trivial, z3⟩
  | cel v => obtain ⟨u, ⟨ob, e, d⟩, r⟩ := x; exact ⟨u, ⟨ob, k _ _ (.inl rfl) e, d⟩, r⟩
  | met f y =>
    have e : h.get? a = some (PySem.W.methodObj (.ref f) (.ref y)) := x
    show h'.get? a = some (PySem.W.methodObj (.ref f) (.ref y))
    exact k a _ (.inl rfl) e
  | ext φ => obtain ⟨p, ⟨o, e⟩, st⟩ := x; exact ⟨st _ _ p fun o q => k _ _ (.inl rfl) q, ⟨o, k _ _ (.inl rfl) e⟩, st⟩
theorem HOk.lt (x : HOk P w H h) (e : H a = some o) : a < h.objs.size := (x a o e).lt
theorem HOk.fresh (x : HOk P w H h) (e : h.objs.size ≤ a) : H a = none := by
  cases q : H a with
  | none => rfl
  | some u => exact absurd (Nat.lt_of_lt_of_le (x.lt q) e) (Nat.lt_irrefl _)
theorem HOk.kept (x : HOk P w H h) (k : ∀ b u, h.get? b = some u → h'.get? b = some u) : HOk P w H h' := fun a o e =>
  (x a o e).stay (fun b u _ q => k b u q) (fun _ q => q) fun _ _ q _ => q
theorem HOk.laid (x : HOk P w H h) (k : ∀ b u, h.get? b = some u → h'.get? b = some u) (hp : h.objs.size ≤ a) (new : xS P w (upd H a o) h' a o) : HOk P w (upd H a o) h' := fun b u e => by
  have hn := x.fresh hp
  by_cases hb : b = a
  · subst hb; rw [xo] at e; cases e; exact new
  · rw [xn hb] at e
    exact (x b u e).stay (fun c v _ q => k c v q) (fun c q => by rw [xn (xB q hn)]; exact q) fun c xs q _ => by rw [xn (xB q hn)]; exact q
end
def Rd (H : Hp) (a : Addr) (u : HO) : Prop := H a = some u ∨ ∃ o, H a = some (.frz o u)
theorem Rd.ok {P : Program} {w : World} {H : Hp} {h : Heap} {a : Addr} {u : HO} (r : Rd H a u) (x : HOk P w H h) : xS P w H h a u := by
  rcases r with r | ⟨o, r⟩
  · exact x a u r
  · obtain ⟨_, q⟩ := x a _ r
    exact q
def Mut : Option HO → Prop
  | some (.lst _) => True
  | some (.dK _) => True
  | some (.dT _) => True
  | some (.set _ _) => True
  | some (.ins _ _ _) => True
  | some (.ext _) => True
  | _ => False
section
variable {P : Program} {w : World} {H : Hp} {h h' : Heap} {x e : Addr} {o' : HO}
theorem HOk.write (ok : HOk P w H h) (mu : Mut (H x)) (he : e = x ∨ H e = some (.own x)) (k : ∀ b u, b ≠ e → h.get? b = some u → h'.get? b = some u) (heo : ∃ u, h'.get? e = some u)
    (new : xS P w (upd H x o') h' x o') : HOk P w (upd H x o') h' := fun b u q => by
  have nown : ∀ c y, H c = some (.own y) → c ≠ x := fun c y r z => by subst z; rw [r] at mu; exact mu
  have ntup : ∀ c u, H c = some u → xoA u → c ≠ x := fun c u r hf z => by
    subst z; rw [r] at mu
    cases u <;> first | exact mu | exact hf
  by_cases hb : b = x
  · subst hb; rw [xo] at q; cases q; exact new
  · rw [xn hb] at q
    by_cases hbe : b = e
    · have q' : H b = some (.own x) := by
        rcases he with z | z
        · exact absurd (hbe.trans z) hb
        · rw [hbe]; exact z
      rw [q] at q'; cases q'
      obtain ⟨v, hv⟩ := heo
      exact ⟨v, by rw [hbe]; exact hv⟩
    · refine (ok b u q).stay (fun c v hc r => k c v ?_ r) (fun c r => by rw [xn (nown c b r)]; exact r) fun c xs r hf => by rw [xn (ntup c xs r hf)]; exact r
      rcases hc with rfl | hc
      · exact hbe
      · rintro rfl
        rcases he with z | z
        · exact nown c b hc z
        · rw [hc] at z; cases z; exact hb rfl
end
structure Un (fs ex : List Addr) (H H' : Hp) (h h' : Heap) : Prop where
  keep : ∀ b o, h.get? b = some o → H b = none → b ∉ fs → b ∉ ex → h'.get? b = some o
  slot : ∀ b o, h.get? b = some o → H b = none → b ∈ fs → b ∉ ex → ∃ sl, h'.get? b = some { o with slots := sl }
  free : ∀ b o, h.get? b = some o → H b = none → b ∉ ex → H' b = none
  there : ∀ b o, h.get? b = some o → b ∉ ex → ∃ o', h'.get? b = some o'
  fix : ∀ b u, H b = some u → Fix u → H' b = some u
section
variable {fs fs' ex ex' : List Addr} {H H1 H2 : Hp} {h h1 h2 h' : Heap} {a x e : Addr} {o : HO}
theorem Un.any (u : Un fs ex H H1 h h1) {b : Addr} {ob : Obj} (q : h.get? b = some ob) (n : H b = none) (hx : b ∉ ex) : ∃ sl, h1.get? b = some { ob with slots := sl } := by
  by_cases hb : b ∈ fs
  · exact u.slot b ob q n hb hx
  · exact ⟨ob.slots, u.keep b ob q n hb hx⟩
theorem Un.kept (k : ∀ b u, h.get? b = some u → h'.get? b = some u) : Un fs ex H H h h' :=
  ⟨fun b ob q _ _ _ => k b ob q, fun b ob q _ _ _ => ⟨ob.slots, k b ob q⟩, fun _ _ _ n _ => n, fun b ob q _ => ⟨ob, k b ob q⟩, fun _ _ q _ => q⟩
theorem Un.refl : Un fs ex H H h h := Un.kept fun _ _ q => q
theorem Un.laid (k : ∀ b u, h.get? b = some u → h'.get? b = some u) (hp : h.objs.size ≤ a) (hn : H a = none) : Un fs ex H (upd H a o) h h' where
  keep := fun b u q _ _ _ => k b u q
  slot := fun b u q _ _ _ => ⟨u.slots, k b u q⟩
  free := fun b u q n _ => by rw [xn (Nat.ne_of_lt (Nat.lt_of_lt_of_le (Heap.lt_size q) hp))]; exact n
  there := fun b u q _ => ⟨u, k b u q⟩
  fix := fun b u q _ => by rw [xn (xB q hn)]; exact q
theorem Un.write (mu : Mut (H x)) (he : e = x ∨ H e = some (.own x)) (k : ∀ b u, b ≠ e → h.get? b = some u → h'.get? b = some u) (heo : ∃ u, h'.get? e = some u) : Un fs ex H (upd H x o) h h' := by
  have hx : ∀ b, H b = none → b ≠ x := fun b n z => by subst z; rw [n] at mu; exact mu
  have hb : ∀ b, H b = none → b ≠ e := fun b n z => by
    subst z
    rcases he with r | r
    · exact hx b n r
    · rw [n] at r; cases r
  have hm : ∀ b u, H b = some u → ¬ Mut (some u) → b ≠ x := fun b u q nm z => by subst z; rw [q] at mu; exact nm mu
  refine ⟨fun b u q n _ _ => k b u (hb b n) q, fun b u q n _ _ => ⟨u.slots, k b u (hb b n) q⟩, fun b u q n _ => by rw [xn (hx b n)]; exact n, fun b u q _ => ?_,
    fun b u q hf => by rw [xn (hm b _ q fun z => by cases u <;> first | exact z | exact hf)]; exact q⟩
  by_cases hbe : b = e
  · subst hbe; exact heo
  · exact ⟨u, k b u hbe q⟩
end
def trk (h : Heap) (H : Hp) : List Addr := (List.range h.objs.size).filter fun a => (H a).isSome
def xdp (h : Heap) (H : Hp) : Heap := PySem.W.hideAll h (trk h H)
theorem xld (h : Heap) (H : Hp) : (xdp h H).objs.size = h.objs.size := PySem.W.hideAll_size _ _
theorem xme {h : Heap} {H : Hp} {b : Addr} {o : Obj} (e : h.get? b = some o) (n : H b = none) : (xdp h H).get? b = some o :=
  PySem.W.hideAll_get _ e fun hm => by
    have q : (H b).isSome = true := (List.mem_filter.mp hm).2
    rw [n] at q; simp at q
theorem xnD {h : Heap} {H : Hp} {b : Addr} {o : Obj} (e : (xdp h H).get? b = some o) : h.get? b = some o ∧ H b = none := by
  have e' : h.get? b = some o := PySem.W.of_hideAll (trk h H) e
  refine ⟨e', ?_⟩
  cases q : H b with
  | none => rfl
  | some x =>
    have hm : b ∈ trk h H := List.mem_filter.mpr ⟨List.mem_range.mpr (Heap.lt_size e'), by simp [q]⟩
    have z : (xdp h H).get? b = none := PySem.W.hideAll_none (trk h H) hm
    rw [z] at e; cases e
end L2
namespace L2
open PySem PySem.Spec PyProof.Rows
structure Mod (K : PySem.W.Frag) (mg : Str → Option Value) (base : Heap) : Prop where
  kin : K.In base
  glob : base.Ns mainGlobals mg
  blt : ∃ mb, base.Ns builtinsNs mb ∧ ∀ x : Str, x ≠ "__name__" → mb x = bootBuiltins x
  nolimit : base.NoLimit
  bm : ∃ b o, mg "__builtins__" = some (.ref b) ∧ b ≠ builtinsNs ∧ base.get? b = some o ∧ o.cls = .type "module" ∧ o.dict = some builtinsNs ∧ o.data = .plain
structure Cx where
  prog : Program
  w : World
  K : PySem.W.Frag
  mg : Str → Option Value
  base : Heap
  A : Around
  N : List Str
  s₀ : Shared
  H₀ : Hp
  env : Env
  outer : List Env
  stack : List Env
  ex : List Addr
  fn : Str → Bool
  calm : Bool
  pn : List (Addr × Obj)
  xe : Value → Shared → Prop
  cp : Str → Bool
def frs (l : List Env) : List Addr := l.filterMap (·.frame)
abbrev Cx.fs (X : Cx) : List Addr := frs X.outer
def Vis (sc : Scope) (x : Str) : Prop := sc.names.lookup x = some .local ∨ sc.names.lookup x = some .cell ∨ sc.names.lookup x = some .free
def Loc (sc : Scope) (x : Str) : Prop := sc.names.lookup x = some .local ∨ sc.names.lookup x = some .cell
def Look (env : Env) (h : Heap) (m : Str → Option Value) (x : Str) (u : Value) : Prop :=
  (env.kindOf x = some .local ∧ m x = some u) ∨ ((env.kindOf x = some .cell ∨ env.kindOf x = some .free) ∧ ∃ c, env.cells.lookup x = some c ∧ h.IsCell c (some u))
structure Cx.Ok (X : Cx) : Prop where
  mod : Mod X.K X.mg X.base
  kind : X.env.scope.kind = .function
  glob : X.env.globals = mainGlobals
  blt : X.env.builtins = builtinsNs
  above : X.s₀.heap.objs.size ≤ X.env.locals
  inj : ∀ x y c, X.env.cells.lookup x = some c → X.env.cells.lookup y = some c → x = y
  has : ∀ x, (X.env.kindOf x = some .cell ∨ X.env.kindOf x = some .free) → ∃ c, X.env.cells.lookup x = some c
  cab : ∀ x c, X.fn x = true → X.env.cells.lookup x = some c → X.s₀.heap.objs.size ≤ c
  hd : X.calm = true → X.A.handled = none
  frames : X.A.frames = some X.stack
  stk : X.stack = X.outer ∨ (X.stack = X.env :: X.outer ∧ X.env.frame = some X.env.locals)
  exf : ∀ b ∈ X.ex, b ≠ X.env.locals ∧ ∀ x c, X.env.cells.lookup x = some c → c ≠ b
  bs : ∀ b o, X.base.get? b = some o → X.s₀.heap.get? b = some o ∧ X.H₀ b = none
  bsz : X.base.objs.size ≤ X.s₀.heap.objs.size
  noex : ∀ b o, X.base.get? b = some o → b ∉ X.ex
  exfs : ∀ b ∈ X.ex, b ∉ X.fs
  funs : X.s₀.heap.FunFrames X.base X.outer
  frf : ∀ b ∈ X.fs, X.H₀ b = none
  cab2 : ∀ x c, X.cp x = true → X.env.cells.lookup x = some c → X.s₀.heap.objs.size ≤ c
  hz : ∀ b, X.s₀.heap.objs.size ≤ b → X.H₀ b = none
structure Inv (X : Cx) (pins : List (Addr × Obj)) (σ : List (Option V)) (H : Hp) (s : Shared) : Prop where
  ok : X.Ok
  os : s.os = X.s₀.os
  bare : AllBare s.gens
  base : Un X.fs X.ex X.H₀ H X.s₀.heap s.heap
  loc : ∃ m, s.heap.Ns X.env.locals m ∧ ∀ (i : Nat) (x : Str) (v : V), X.N[i]? = some x → σ[i]? = some (some v) → Vis X.env.scope x → ∃ u, RelV v u ∧ Look X.env s.heap m x u
  cell : ∀ x c, X.env.cells.lookup x = some c → ∃ v, s.heap.IsCell c v
  free : H X.env.locals = none
  freeC : ∀ x c, X.env.cells.lookup x = some c → H c = none ∨ (X.fn x = false ∧ ∃ o, H c = some (.cel o) ∧ (o = none → ∀ (i : Nat) v, X.N[i]? = some x → (X.env.kindOf x = some .cell ∨ X.env.kindOf x = some .free) → σ[i]? ≠ some (some v)))
  pin : ∀ p ∈ X.pn ++ pins, s.heap.get? p.1 = some p.2 ∧ H p.1 = none ∧ p.1 ≠ X.env.locals ∧ p.1 ∉ X.fs ∧ ∀ v, p.2.data ≠ .cell v
  hok : HOk X.prog X.w H s.heap
  len : σ.length = X.N.length
section
variable {X : Cx} {pins : List (Addr × Obj)} {σ : List (Option V)} {H H' : Hp} {s : Shared} {h' : Heap}
theorem Cx.Ok.nofr (ok : X.Ok) {b : Addr} {o : Obj} (e : X.base.get? b = some o) : b ∉ X.fs := fun hb => by
  have := (ok.funs.mem hb).1
  rw [e] at this; cases this
theorem Inv.bs (I : Inv X pins σ H s) : ∀ b o, X.base.get? b = some o → s.heap.get? b = some o ∧ H b = none := fun b o e =>
  ⟨I.base.keep b o (I.ok.bs b o e).1 (I.ok.bs b o e).2 (I.ok.nofr e) (I.ok.noex b o e), I.base.free b o (I.ok.bs b o e).1 (I.ok.bs b o e).2 (I.ok.noex b o e)⟩
theorem Inv.bk (I : Inv X pins σ H s) : ∀ b o, X.base.get? b = some o → s.heap.get? b = some o := fun b o e => (I.bs b o e).1
theorem Inv.mod (I : Inv X pins σ H s) : Mod X.K X.mg X.base := I.ok.mod
theorem Inv.kIn (I : Inv X pins σ H s) : X.K.In s.heap := I.ok.mod.kin.keeps I.bk
theorem Inv.lt (I : Inv X pins σ H s) : X.env.locals < s.heap.objs.size := let ⟨_, hn, _⟩ := I.loc; hn.lt
theorem Inv.sz (I : Inv X pins σ H s) : X.s₀.heap.objs.size ≤ s.heap.objs.size := Nat.le_trans I.ok.above (Nat.le_of_lt I.lt)
theorem Inv.nofs (I : Inv X pins σ H s) {a : Addr} (h : s.heap.objs.size ≤ a) : a ∉ X.fs := fun hb => by
  obtain ⟨_, o, ho, _⟩ := I.ok.funs.mem hb
  exact absurd (Nat.lt_of_lt_of_le (Heap.lt_size ho) (Nat.le_trans I.sz h)) (Nat.lt_irrefl _)
theorem Inv.cne (I : Inv X pins σ H s) : ∀ x c, X.env.cells.lookup x = some c → c ≠ X.env.locals := fun x c e z => by
  obtain ⟨v, o, ho, hd⟩ := I.cell x c e
  obtain ⟨m, ⟨o', es, ep, ho', hd', _⟩, _⟩ := I.loc
  rw [z, ho'] at ho; cases ho; rw [hd'] at hd; cases hd
theorem Inv.funs (I : Inv X pins σ H s) : s.heap.FunFrames X.base X.outer := by
  have all : ∀ (l : List Env), (∀ b ∈ frs l, b ∈ X.fs) → X.s₀.heap.FunFrames X.base l → s.heap.FunFrames X.base l := by
    intro l
    induction l with
    | nil => intro _ _; trivial
    | cons env r ih =>
      intro hs hl
      obtain ⟨hk, ⟨L, o, hf, hn, ho, hd⟩, hr⟩ := hl
      have hL : L ∈ X.fs := hs L (by unfold frs; rw [List.filterMap_cons, hf]; exact List.mem_cons_self)
      obtain ⟨sl, e⟩ := I.base.slot L o ho (I.ok.frf L hL) hL fun z => I.ok.exfs L z hL
      exact ⟨hk, ⟨L, _, hf, hn, e, hd⟩, ih (fun b hb => hs b (by unfold frs; rw [List.filterMap_cons, hf]; exact List.mem_cons_of_mem _ hb)) hr⟩
  exact all X.outer (fun _ hb => hb) I.ok.funs
theorem Inv.stack (I : Inv X pins σ H s) : s.heap.FunFrames X.base X.stack := by
  rcases I.ok.stk with e | ⟨e, hf⟩
  · rw [e]; exact I.funs
  · rw [e]
    obtain ⟨m, hn, _⟩ := I.loc
    refine .cons (by rw [I.ok.kind]; decide) hf hn ?_ I.funs
    exact Heap.get?_none_of_le (Nat.le_trans I.ok.bsz I.ok.above)
theorem Inv.stkSub (I : Inv X pins σ H s) : ∀ b ∈ frs X.stack, b ∈ X.env.locals :: X.fs := fun b hb => by
  rcases I.ok.stk with e | ⟨e, hf⟩
  · rw [e] at hb; exact List.mem_cons_of_mem _ hb
  · rw [e] at hb
    unfold frs at hb
    rw [List.filterMap_cons, hf] at hb
    exact hb
theorem Inv.stkFree (I : Inv X pins σ H s) : ∀ b ∈ frs X.stack, H b = none := fun b hb => by
  rcases List.mem_cons.mp (I.stkSub b hb) with e | hb
  · rw [e]; exact I.free
  · obtain ⟨_, o, ho, _⟩ := I.ok.funs.mem hb
    exact I.base.free b o ho (I.ok.frf b hb) fun z => I.ok.exfs b z hb
theorem Inv.step {g' : Array GenState} {t' : Nat} {d' : Drawn} {ch : List Addr} (I : Inv X pins σ H s)
    (hch : ∀ b ∈ ch, (b ∈ X.ex ∨ X.s₀.heap.objs.size ≤ b) ∧ b ≠ X.env.locals ∧ (∀ x c, X.env.cells.lookup x = some c → c ≠ b) ∧ ∀ p ∈ X.pn ++ pins, p.1 ≠ b)
    (keep : ∀ b o, b ≠ X.env.locals → b ∉ X.fs → b ∉ ch → s.heap.get? b = some o → H b = none → h'.get? b = some o)
    (slot : ∀ b o, b ≠ X.env.locals → b ∈ X.fs → b ∉ ch → s.heap.get? b = some o → H b = none → ∃ sl, h'.get? b = some { o with slots := sl }) (free : ∀ b o, b ∉ ch → s.heap.get? b = some o → H b = none → H' b = none)
    (there : ∀ b o, b ∉ ch → s.heap.get? b = some o → ∃ o', h'.get? b = some o')
    (fix : ∀ b u, H b = some u → Fix u → H' b = some u)
    (ns : ∀ m, s.heap.Ns X.env.locals m → h'.Ns X.env.locals m) (hok : HOk X.prog X.w H' h') (hg : AllBare g') :
    Inv X pins σ H' { s with heap := h', gens := g', drawn := d', toks := t' } := by
  have neL : ∀ b o, X.s₀.heap.get? b = some o → b ≠ X.env.locals := fun b o e => Nat.ne_of_lt (Nat.lt_of_lt_of_le (Heap.lt_size e) I.ok.above)
  have neC : ∀ b o, X.s₀.heap.get? b = some o → b ∉ X.ex → b ∉ ch := fun b o e hx hb => by
    rcases (hch b hb).1 with z | z
    · exact hx z
    · exact absurd (Nat.lt_of_lt_of_le (Heap.lt_size e) z) (Nat.lt_irrefl _)
  have cellK : ∀ x c, X.env.cells.lookup x = some c → H c = none → ∀ v, s.heap.IsCell c v → h'.IsCell c v := fun x c e hn v ⟨o, ho, hd⟩ => by
    have nch : c ∉ ch := fun z => (hch c z).2.2.1 x c e rfl
    by_cases hc : c ∈ X.fs
    · obtain ⟨sl, q⟩ := slot c o (I.cne x c e) hc nch ho hn
      exact ⟨_, q, hd⟩
    · exact ⟨o, keep c o (I.cne x c e) hc nch ho hn, hd⟩
  refine ⟨I.ok, I.os, hg, ⟨fun b o e n hb hx => ?_, fun b o e n hb hx => ?_, fun b o e n hx => ?_, fun b o e hx => ?_, fun b u e f => fix b u (I.base.fix b u e f) f⟩, ?_, fun x c e => ?_, ?_, fun x c e => ?_, fun p hp => ?_, hok, I.len⟩
  · exact keep b o (neL b o e) hb (neC b o e hx) (I.base.keep b o e n hb hx) (I.base.free b o e n hx)
  · obtain ⟨sl, e1⟩ := I.base.slot b o e n hb hx
    obtain ⟨sl', e2⟩ := slot b _ (neL b o e) hb (neC b o e hx) e1 (I.base.free b o e n hx)
    exact ⟨sl', e2⟩
  · obtain ⟨o', e1⟩ := I.base.there b o e hx
    exact free b o' (neC b o e hx) e1 (I.base.free b o e n hx)
  · obtain ⟨o', e1⟩ := I.base.there b o e hx
    exact there b o' (neC b o e hx) e1
  · obtain ⟨m, hn, hl⟩ := I.loc
    refine ⟨m, ns m hn, fun i x v e1 e2 e3 => ?_⟩
    obtain ⟨u, r, l⟩ := hl i x v e1 e2 e3
    rcases l with l | ⟨k, c, e, z⟩
    · exact ⟨u, r, .inl l⟩
    · rcases I.freeC x c e with hn' | ⟨_, o, ho, hno⟩
      · exact ⟨u, r, .inr ⟨k, c, e, cellK x c e hn' _ z⟩⟩
      · cases o with
        | none => exact absurd e2 (hno rfl i v e1 k)
        | some v' =>
          obtain ⟨y, hy, hr⟩ := I.hok c _ ho
          obtain ⟨y', hy', hr'⟩ := hok c _ (fix c _ ho trivial)
          obtain ⟨y2, rfl, r2⟩ := hr v' rfl
          obtain ⟨y3, rfl, r3⟩ := hr' v' rfl
          have : v = v' := RelV.fn r (by
            obtain ⟨o1, q1, q2⟩ := z
            obtain ⟨o2, q3, q4⟩ := hy
            rw [q1] at q3; cases q3
            rw [q2] at q4; cases q4
            exact r2)
          subst this
          exact ⟨y3, r3, .inr ⟨k, c, e, hy'⟩⟩
  · rcases I.freeC x c e with hn' | ⟨_, o, ho, _⟩
    · obtain ⟨v, z⟩ := I.cell x c e
      exact ⟨v, cellK x c e hn' v z⟩
    · obtain ⟨y', hy', _⟩ := hok c _ (fix c _ ho trivial)
      exact ⟨y', hy'⟩
  · obtain ⟨m, ⟨o, _, _, ho, _⟩, _⟩ := I.loc
    exact free _ o (fun z => (hch _ z).2.1 rfl) ho I.free
  · rcases I.freeC x c e with hn' | ⟨hf, o, ho, hno⟩
    · obtain ⟨v, o, ho, hd⟩ := I.cell x c e
      exact .inl (free c o (fun z => (hch c z).2.2.1 x c e rfl) ho hn')
    · exact .inr ⟨hf, o, fix c _ ho trivial, hno⟩
  · obtain ⟨e, n, ne, nf, d⟩ := I.pin p hp
    have nch : p.1 ∉ ch := fun z => (hch p.1 z).2.2.2 p hp rfl
    exact ⟨keep p.1 p.2 ne nf nch e n, free p.1 p.2 nch e n, ne, nf, d⟩
theorem Inv.un {t' : Nat} (I : Inv X pins σ H s) (u : Un X.fs [] H H' s.heap h') (hok : HOk X.prog X.w H' h') : Inv X pins σ H' { s with heap := h', toks := t' } := by
  obtain ⟨m, ⟨o, es, ep, ho, r⟩, _⟩ := id I.loc
  obtain ⟨sl, hL⟩ := u.any ho I.free (by simp)
  exact I.step (g' := s.gens) (d' := s.drawn) (ch := []) (fun _ z => nomatch z) (fun b o _ hb _ e n => u.keep b o e n hb (by simp)) (fun b o _ hb _ e n => u.slot b o e n hb (by simp)) (fun b o _ e n => u.free b o e n (by simp)) (fun b o _ e => u.there b o e (by simp)) u.fix (fun m' hm => by
    obtain ⟨o', es', ep', ho', r'⟩ := hm
    rw [ho] at ho'; cases ho'
    exact ⟨_, es', ep', hL, r'⟩) hok I.bare
theorem Inv.call {g' : Array GenState} {t' : Nat} {d' : Drawn} {ch : List Addr} (I : Inv X pins σ H s) (u : Un (frs X.stack) ch H H' s.heap h') (hok : HOk X.prog X.w H' h') (hg : AllBare g')
    (hch : ∀ b ∈ ch, (b ∈ X.ex ∨ X.s₀.heap.objs.size ≤ b) ∧ b ≠ X.env.locals ∧ (∀ x c, X.env.cells.lookup x = some c → c ≠ b) ∧ ∀ p ∈ X.pn ++ pins, p.1 ≠ b) :
    Inv X pins σ H' { s with heap := h', gens := g', drawn := d', toks := t' } := by
  obtain ⟨m, ⟨o, es, ep, ho, r⟩, _⟩ := id I.loc
  obtain ⟨sl, hL⟩ := u.any ho I.free fun z => (hch _ z).2.1 rfl
  exact I.step (ch := ch) hch (fun b o hL hb hc e n => u.keep b o e n (fun z => (List.mem_cons.mp (I.stkSub b z)).elim hL hb) hc) (fun b o _ _ hc e n => u.any e n hc) (fun b o hc e n => u.free b o e n hc) (fun b o hc e => u.there b o e hc) u.fix (fun m' hm => by
    obtain ⟨o', es', ep', ho', r'⟩ := hm
    rw [ho] at ho'; cases ho'
    exact ⟨_, es', ep', hL, r'⟩) hok hg
theorem Inv.turned {t' : Nat} {it : Addr} (I : Inv X pins σ H s) (k : ∀ b o, b ≠ it → s.heap.get? b = some o → h'.get? b = some o) (hn : H it = none) (hL : it ≠ X.env.locals)
    (h1 : it ∈ X.ex ∨ X.s₀.heap.objs.size ≤ it) (h2 : ∀ x c, X.env.cells.lookup x = some c → c ≠ it) (h3 : ∀ p ∈ X.pn ++ pins, p.1 ≠ it) : Inv X pins σ H { s with heap := h', toks := t' } := by
  have nit : ∀ b u, H b = some u → b ≠ it := fun b u e z => by rw [z, hn] at e; cases e
  refine I.step (g' := s.gens) (d' := s.drawn) (ch := [it]) (fun b hb => ?_) (fun b o _ _ hc e _ => k b o (fun z => hc (by simp [z])) e) (fun b o _ _ hc e _ => ⟨o.slots, k b o (fun z => hc (by simp [z])) e⟩) (fun _ _ _ _ n => n)
    (fun b o hc e => ⟨o, k b o (fun z => hc (by simp [z])) e⟩) (fun _ _ e _ => e) (fun m hm => ?_) (fun b u e => ?_) I.bare
  · have e : b = it := by simpa using hb
    subst e
    exact ⟨h1, hL, h2, h3⟩
  · obtain ⟨o, es, ep, ho, r⟩ := hm
    exact ⟨o, es, ep, k _ o (Ne.symm hL) ho, r⟩
  · refine (I.hok b u e).stay (fun c v hc q => k c v ?_ q) (fun _ q => q) fun _ _ q _ => q
    rcases hc with z | z
    · rw [z]; exact nit b u e
    · exact nit c _ z
theorem Inv.tok (I : Inv X pins σ H s) (t : Nat) : Inv X pins σ H { s with toks := t } := I.un (h' := s.heap) (t' := t) Un.refl I.hok
theorem Inv.kept {t' : Nat} (I : Inv X pins σ H s) (k : ∀ b u, s.heap.get? b = some u → h'.get? b = some u) : Inv X pins σ H { s with heap := h', toks := t' } := I.un (Un.kept k) (I.hok.kept k)
theorem Inv.laid {a : Addr} {o : HO} {t' : Nat} (I : Inv X pins σ H s) (k : ∀ b u, s.heap.get? b = some u → h'.get? b = some u) (hp : s.heap.objs.size ≤ a) (new : xS X.prog X.w (upd H a o) h' a o) :
    Inv X pins σ (upd H a o) { s with heap := h', toks := t' } := I.un (Un.laid k hp (I.hok.fresh hp)) (I.hok.laid k hp new)
theorem Inv.write {x e : Addr} {o : HO} {t' : Nat} (I : Inv X pins σ H s) (mu : Mut (H x)) (he : e = x ∨ H e = some (.own x)) (k : ∀ b u, b ≠ e → s.heap.get? b = some u → h'.get? b = some u) (heo : ∃ u, h'.get? e = some u)
    (new : xS X.prog X.w (upd H x o) h' x o) : Inv X pins σ (upd H x o) { s with heap := h', toks := t' } := I.un (Un.write mu he k heo) (I.hok.write mu he k heo new)
theorem Inv.weak {σ' : List (Option V)} (I : Inv X pins σ H s) (hl : σ'.length = σ.length) (w : ∀ (i : Nat) v, σ'[i]? = some (some v) → σ[i]? = some (some v)) : Inv X pins σ' H s :=
  ⟨I.ok, I.os, I.bare, I.base, let ⟨m, hn, hl'⟩ := I.loc; ⟨m, hn, fun i x v e1 e2 e3 => hl' i x v e1 (w i v e2) e3⟩, I.cell, I.free, fun x c e => (I.freeC x c e).imp id fun ⟨hf, o, ho, hno⟩ => ⟨hf, o, ho, fun z i v e1 k e2 => hno z i v e1 k (w i v e2)⟩, I.pin, I.hok, hl.trans I.len⟩
theorem Inv.pins_of {pins' : List (Addr × Obj)} (I : Inv X pins σ H s) (h : ∀ p ∈ pins', s.heap.get? p.1 = some p.2 ∧ H p.1 = none ∧ p.1 ≠ X.env.locals ∧ p.1 ∉ X.fs ∧ ∀ v, p.2.data ≠ .cell v) : Inv X pins' σ H s :=
  ⟨I.ok, I.os, I.bare, I.base, I.loc, I.cell, I.free, I.freeC, fun p hp => (List.mem_append.mp hp).elim (fun z => I.pin p (List.mem_append_left _ z)) (h p), I.hok, I.len⟩
theorem xdq {N : List Str} (hN : N.Nodup) {i j : Nat} {x : Str} (a : N[i]? = some x) (b : N[j]? = some x) : i = j := by
  obtain ⟨h1, e1⟩ := List.getElem?_eq_some_iff.mp a
  obtain ⟨h2, e2⟩ := List.getElem?_eq_some_iff.mp b
  exact (List.getElem_inj hN).mp (e1.trans e2.symm)
theorem xhk {M : Model} {A : Around} {E : Value → Shared → Prop} {i : Nat} {x : Str} {v : V} {u : Value} {Q : Unit → Shared → Prop} (I : Inv X pins σ H s) (hN : X.N.Nodup) (hi : X.N[i]? = some x) (hx : Loc X.env.scope x) (r : RelV v u)
    (h : ∀ s', Inv X pins (σ.set i (some v)) H s' → (∃ a, Heap.SameBut a s.heap s'.heap ∧ (a = X.env.locals ∨ X.env.cells.lookup x = some a)) → Q () s') (hf : X.fn x = true ∨ X.env.scope.names.lookup x = some .local := by first | exact .inl rfl | exact .inr rfl | assumption) : wpAny M A (storeName X.env x u) Q E s := by
  obtain ⟨m, hn, hl⟩ := id I.loc
  have hcls : (X.env.scope.kind == .class || (X.env.scope.kind == .module && X.env.locals != X.env.globals)) = false := by rw [I.ok.kind]; rfl
  have hiσ : i < σ.length := by rw [I.len]; exact (List.getElem?_eq_some_iff.mp hi).1
  have cne := I.cne
  have tracked : ∀ {a : Addr} {h' : Heap}, (∃ o, s.heap.get? a = some o ∧ H a = none) → Heap.SameBut a s.heap h' → HOk X.prog X.w H h' := fun {a h'} ha hs b ob e => by
    obtain ⟨_, _, hfree⟩ := ha
    refine (I.hok b ob e).stay (fun c w' hc q => (hs.2 c ?_).trans q) (fun _ q => q) fun _ _ q _ => q
    rintro rfl
    rcases hc with rfl | hc
    · rw [hfree] at e; cases e
    · rw [hfree] at hc; cases hc
  rcases hx with hk | hk
  · refine wpAny_storeName_local hk hn (fun h' hn' hs => ?_) hcls
    obtain ⟨oL, _, _, hoL, _⟩ := id hn
    refine h _ ⟨I.ok, I.os, I.bare, ⟨fun b o e n hb hx => ?_, fun b o e n hb hx => ?_, I.base.free, fun b o e hx => ?_, I.base.fix⟩, ⟨_, hn', fun j y v' e1 e2 e3 => ?_⟩, fun y c e => ?_, I.free, fun y c e => ?_, fun p hp => ?_, tracked ⟨oL, hoL, I.free⟩ hs, by simpa using I.len⟩ ⟨_, hs, .inl rfl⟩
    · exact (hs.2 b (Nat.ne_of_lt (Nat.lt_of_lt_of_le (Heap.lt_size e) I.ok.above))).trans (I.base.keep b o e n hb hx)
    · obtain ⟨sl, e1⟩ := I.base.slot b o e n hb hx
      exact ⟨sl, (hs.2 b (Nat.ne_of_lt (Nat.lt_of_lt_of_le (Heap.lt_size e) I.ok.above))).trans e1⟩
    · obtain ⟨o', e1⟩ := I.base.there b o e hx
      exact ⟨o', (hs.2 b (Nat.ne_of_lt (Nat.lt_of_lt_of_le (Heap.lt_size e) I.ok.above))).trans e1⟩
    · by_cases hj : j = i
      · subst hj
        rw [hi] at e1; cases e1
        rw [List.getElem?_set_self hiσ] at e2
        cases e2
        exact ⟨u, r, .inl ⟨hk, by simp⟩⟩
      · rw [List.getElem?_set_ne (Ne.symm hj)] at e2
        obtain ⟨u', r', q⟩ := hl j y v' e1 e2 e3
        refine ⟨u', r', ?_⟩
        rcases q with ⟨k, e⟩ | ⟨k, c, e, z⟩
        · refine .inl ⟨k, ?_⟩
          have : y ≠ x := fun e => hj (xdq hN e1 (e ▸ hi))
          simp [this, e]
        · exact .inr ⟨k, c, e, z.sameBut hs (cne y c e)⟩
    · obtain ⟨w', z⟩ := I.cell y c e
      exact ⟨w', z.sameBut hs (cne y c e)⟩
    · refine (I.freeC y c e).imp id fun ⟨hf', o', ho', hno⟩ => ⟨hf', o', ho', fun z j v' e1 k e2 => ?_⟩
      by_cases hj : j = i
      · subst hj
        rw [hi] at e1; cases e1
        have hk' : X.env.kindOf x = some .local := hk
        rw [hk'] at k
        rcases k with k | k <;> cases k
      · rw [List.getElem?_set_ne (Ne.symm hj)] at e2
        exact hno z j v' e1 k e2
    · obtain ⟨e, n, ne, nf, d⟩ := I.pin p hp
      exact ⟨(hs.2 p.1 ne).trans e, n, ne, nf, d⟩
  · have hfn : X.fn x = true := by
      rcases hf with z | z
      · exact z
      · rw [z] at hk; cases hk
    obtain ⟨c, hc⟩ := I.ok.has x (.inl hk)
    have hHc : H c = none := by
      rcases I.freeC x c hc with z | ⟨z, _⟩
      · exact z
      · rw [hfn] at z; cases z
    obtain ⟨w', z⟩ := I.cell x c hc
    refine wpAny_storeName_cell I.ok.kind hk hc z (fun h' hc' hs => ?_)
    obtain ⟨oc, hoc, hocd⟩ := id z
    refine h { s with heap := h' } ⟨I.ok, I.os, I.bare, ⟨fun b o e n hb hx => ?_, fun b o e n hb hx => ?_, I.base.free, fun b o e hx => ?_, I.base.fix⟩, ⟨m, hn.sameBut hs (Ne.symm (cne x c hc)), fun j y v' e1 e2 e3 => ?_⟩, fun y c' e => ?_, I.free, fun y c' e => ?_, fun p hp => ?_, tracked ⟨oc, hoc, hHc⟩ hs, by simpa using I.len⟩ ⟨c, hs, .inr hc⟩
    · exact (hs.2 b (Nat.ne_of_lt (Nat.lt_of_lt_of_le (Heap.lt_size e) (I.ok.cab x c hfn hc)))).trans (I.base.keep b o e n hb hx)
    · obtain ⟨sl, e1⟩ := I.base.slot b o e n hb hx
      exact ⟨sl, (hs.2 b (Nat.ne_of_lt (Nat.lt_of_lt_of_le (Heap.lt_size e) (I.ok.cab x c hfn hc)))).trans e1⟩
    · obtain ⟨o', e1⟩ := I.base.there b o e hx
      exact ⟨o', (hs.2 b (Nat.ne_of_lt (Nat.lt_of_lt_of_le (Heap.lt_size e) (I.ok.cab x c hfn hc)))).trans e1⟩
    · by_cases hj : j = i
      · subst hj
        rw [hi] at e1; cases e1
        rw [List.getElem?_set_self hiσ] at e2
        cases e2
        exact ⟨u, r, .inr ⟨.inl hk, c, hc, hc'⟩⟩
      · rw [List.getElem?_set_ne (Ne.symm hj)] at e2
        obtain ⟨u', r', q⟩ := hl j y v' e1 e2 e3
        refine ⟨u', r', ?_⟩
        rcases q with q | ⟨k, c', e, z'⟩
        · exact .inl q
        · refine .inr ⟨k, c', e, z'.sameBut hs ?_⟩
          rintro rfl
          exact hj (xdq hN e1 (I.ok.inj _ _ _ e hc ▸ hi))
    · by_cases hcc : c' = c
      · subst hcc; exact ⟨_, hc'⟩
      · obtain ⟨w2, z2⟩ := I.cell y c' e
        exact ⟨w2, z2.sameBut hs hcc⟩
    · refine (I.freeC y c' e).imp id fun ⟨hf', o', ho', hno⟩ => ⟨hf', o', ho', fun z j v' e1 k e2 => ?_⟩
      by_cases hj : j = i
      · subst hj
        rw [hi] at e1; cases e1
        rw [hfn] at hf'; cases hf'
      · rw [List.getElem?_set_ne (Ne.symm hj)] at e2
        exact hno z j v' e1 k e2
    · obtain ⟨e, n, ne, nf, d⟩ := I.pin p hp
      refine ⟨(hs.2 p.1 ?_).trans e, n, ne, nf, d⟩
      intro q
      rw [q, hoc] at e
      have q' : oc = p.2 := Option.some.inj e
      exact d w' (by rw [← q']; exact hocd)
theorem xfK {M : Model} {A : Around} {E : Value → Shared → Prop} {i : Nat} {x : Str} {v : V} {u : Value} {Q : Unit → Shared → Prop} (I : Inv X pins σ H s) (hN : X.N.Nodup) (hi : X.N[i]? = some x) (hx : Loc X.env.scope x) (r : RelV v u)
    (h : ∀ s', Inv X pins (σ.set i (some v)) H s' → Q () s') (hf : X.fn x = true ∨ X.env.scope.names.lookup x = some .local := by first | exact .inl rfl | exact .inr rfl | assumption) : wpAny M A (storeName X.env x u) Q E s :=
  xhk I hN hi hx r (fun s' I' _ => h s' I') hf
theorem Inv.call' {s' : Shared} {ch : List Addr} (I : Inv X pins σ H s) (ho : s'.os = s.os) (u : Un (frs X.stack) ch H H' s.heap s'.heap) (hok : HOk X.prog X.w H' s'.heap) (hg : AllBare s'.gens)
    (hch : ∀ b ∈ ch, (b ∈ X.ex ∨ X.s₀.heap.objs.size ≤ b) ∧ b ≠ X.env.locals ∧ (∀ x c, X.env.cells.lookup x = some c → c ≠ b) ∧ ∀ p ∈ X.pn ++ pins, p.1 ≠ b) : Inv X pins σ H' s' := by
  obtain ⟨h', g', d', t', o'⟩ := s'
  have e : o' = s.os := ho
  subst e
  exact I.call (g' := g') (t' := t') (d' := d') u hok hg hch
end
abbrev XK := Value → Option Addr → Hp → Prop
abbrev St := List (Option V)
abbrev VK := V → Hp → Prop
abbrev TE := St → Hp → VK → Prop
abbrev TT := St → Hp → (Bool → Hp → Prop) → Prop
abbrev TA := St → Hp → (List V → Hp → Prop) → Prop
structure Ends where
  nx : St → Hp → Prop
  rt : VK
  bk : St → Hp → Prop := fun _ _ => False
  ct : St → Hp → Prop := fun _ _ => False
abbrev TS := Ends → St → Hp → Prop
def EP (X : Cx) (pins : List (Addr × Obj)) (σ : St) (Q : VK) (u : Value) (s' : Shared) : Prop := ∃ v H', Inv X pins σ H' s' ∧ RelV v u ∧ Q v H'
def TP (X : Cx) (pins : List (Addr × Obj)) (σ : St) (Q : Bool → Hp → Prop) (b : Bool) (s' : Shared) : Prop := ∃ H', Inv X pins σ H' s' ∧ Q b H'
def AP (X : Cx) (pins : List (Addr × Obj)) (σ : St) (Q : List V → Hp → Prop) (us : List Value) (s' : Shared) : Prop := ∃ vs H', Inv X pins σ H' s' ∧ Vals vs us ∧ Q vs H'
def SP (X : Cx) (pins : List (Addr × Obj)) (D : Ends) (f : Flow) (s' : Shared) : Prop :=
  match f with
  | .next => ∃ σ' H', Inv X pins σ' H' s' ∧ D.nx σ' H'
  | .brk => ∃ σ' H', Inv X pins σ' H' s' ∧ D.bk σ' H'
  | .cont => ∃ σ' H', Inv X pins σ' H' s' ∧ D.ct σ' H'
  | .ret u => ∃ v σ' H', Inv X pins σ' H' s' ∧ RelV v u ∧ D.rt v H'
def PE (X : Cx) (e : Expr) (t : TE) : Prop :=
  ∀ (pins : List (Addr × Obj)) (s : Shared) (σ : St) (H : Hp) (Q : VK), Inv X pins σ H s → t σ H Q → wpAny (model X.prog X.w) X.A (eval e X.env) (EP X pins σ Q) X.xe s
def PT (X : Cx) (e : Expr) (t : TT) : Prop :=
  ∀ (pins : List (Addr × Obj)) (s : Shared) (σ : St) (H : Hp) (Q : Bool → Hp → Prop), Inv X pins σ H s → t σ H Q → wpAny (model X.prog X.w) X.A (isTrue e X.env (eval e X.env)) (TP X pins σ Q) X.xe s
def PW (X : Cx) (e : Expr) (t : TT) : Prop :=
  ∀ (whole : Sem Value) (pins : List (Addr × Obj)) (s : Shared) (σ : St) (H : Hp) (Q : Bool → Hp → Prop), Inv X pins σ H s → t σ H Q → wpAny (model X.prog X.w) X.A (isTrue e X.env whole) (TP X pins σ Q) X.xe s
theorem PW.pt {X : Cx} {e : Expr} {t : TT} (h : PW X e t) : PT X e t := h _
def PA (X : Cx) (es : List Expr) (t : TA) : Prop :=
  ∀ (pos : Pos) (pins : List (Addr × Obj)) (s : Shared) (σ : St) (H : Hp) (Q : List V → Hp → Prop), Inv X pins σ H s → t σ H Q → wpAny (model X.prog X.w) X.A (spliced (backTo pos (starEach es X.env))) (AP X pins σ Q) X.xe s
def PS (X : Cx) (st : Stmt) (t : TS) : Prop :=
  ∀ (pins : List (Addr × Obj)) (s : Shared) (σ : St) (H : Hp) (D : Ends), Inv X pins σ H s → t D σ H → wpAny (model X.prog X.w) X.A (exec st X.env) (SP X pins D) X.xe s
def PSs (X : Cx) (st : List Stmt) (t : TS) : Prop :=
  ∀ (pins : List (Addr × Obj)) (s : Shared) (σ : St) (H : Hp) (D : Ends), Inv X pins σ H s → t D σ H → wpAny (model X.prog X.w) X.A (execs st X.env) (SP X pins D) X.xe s
theorem thn {α : Type} {t : Sem α} {Q Q' : α → Shared → Prop} {M : Model} {A : Around} {E : Value → Shared → Prop} {s : Shared} (h : wpAny M A t Q E s) (hQ : ∀ a s, Q a s → Q' a s) : wpAny M A t Q' E s := wpAny_mono h hQ fun _ _ x => x
end L2
namespace L2
open PySem PySem.Spec PyProof.Rows
section
variable {X : Cx}
def xoB (i : Nat) : TE := fun σ H Q => ∃ v, σ[i]? = some (some v) ∧ Q v H
def tC (v : V) : TE := fun _ H Q => Q v H
theorem xif {i : Nat} {x : Str} {pos : Pos} (hN : X.N[i]? = some x) (hv : Vis X.env.scope x) (hd : (x == ("__debug__" : Str)) = false := by decide) (hcd : (x == ("__classdict__" : Str)) = false := by decide) : PE X (.Name x pos) (xoB i) := by
  intro pins s σ H Q I h
  obtain ⟨v, e, h⟩ := h
  obtain ⟨m, hn, hl⟩ := I.loc
  obtain ⟨u, r, l⟩ := hl i x v hN e hv
  have fin : EP X pins σ Q u s := ⟨v, H, I, r, h⟩
  rcases l with ⟨hk, hm⟩ | ⟨hk, c, hc, hcell⟩
  · exact wpAny_Name (wpAny_loadName_local I.ok.kind hk hn hm fin) hd
  · rcases hk with hk | hk
    · exact wpAny_Name (wpAny_loadName_cell I.ok.kind hk hc hcell fin) hd
    · exact wpAny_Name (wpAny_loadName_free I.ok.kind hk hc hcell fin hcd) hd
theorem xh {i j pos} : PE X (.Constant (.int i) j pos) (tC (.int i)) := fun _ _ _ H _ I h => wpAny_Constant_int ⟨.int i, H, I.tok _, ⟨_, rfl⟩, h⟩
theorem jP {b j pos} : PE X (.Constant (.bool b) j pos) (tC (.bl b)) := fun _ _ _ H _ I h => Constant_bool ⟨.bl b, H, I, rfl, h⟩
theorem xbm {j pos} : PE X (.Constant .none j pos) (tC .non) := fun _ _ _ H _ I h => Constant_none ⟨.non, H, I, rfl, h⟩
theorem xas {x j pos} : PE X (.Constant (.str x) j pos) (tC (.str x)) := fun _ _ _ H _ I h => Calls.Constant_str ⟨.str x, H, I.tok _, ⟨_, rfl⟩, h⟩
def Gl (X : Cx) (x : Str) : Prop := X.env.kindOf x = some .globalImplicit
theorem xaW {E : Value → Shared → Prop} {pins : List (Addr × Obj)} {s : Shared} {σ : St} {H : Hp} {x : Str} {u : Value} {pos : Pos} {Q : Value → Shared → Prop} (I : Inv X pins σ H s) (hg : Gl X x) (hm : X.mg x = some u) (h : Q u s)
    (hd : (x == ("__debug__" : Str)) = false := by decide) : wpAny (model X.prog X.w) X.A (eval (.Name x pos) X.env) Q E s :=
  Calls.Name_function_global I.ok.kind hg (Calls.loadGlobal_global (by rw [I.ok.glob]; exact I.mod.glob.keeps I.bk) hm h) hd
theorem vR {E : Value → Shared → Prop} {pins : List (Addr × Obj)} {s : Shared} {σ : St} {H : Hp} {x : Str} {u : Value} {pos : Pos} {Q : Value → Shared → Prop} (I : Inv X pins σ H s) (hg : Gl X x) (hm : X.mg x = none) (hv : bootBuiltins x = some u) (h : Q u s)
    (hn : x ≠ "__name__" := by decide) (hd : (x == ("__debug__" : Str)) = false := by decide) : wpAny (model X.prog X.w) X.A (eval (.Name x pos) X.env) Q E s := by
  obtain ⟨mb, h1, h2⟩ := I.mod.blt
  exact Calls.Name_function_global I.ok.kind hg (Calls.loadGlobal_builtin (by rw [I.ok.glob]; exact I.mod.glob.keeps I.bk) hm (by rw [I.ok.blt]; exact h1.keeps I.bk) ((h2 x hn).trans hv) h) hd
theorem xeO {x : Str} {v : V} {u : Value} {pos : Pos} (hg : Gl X x) (hm : X.mg x = some u) (r : RelV v u) (hd : (x == ("__debug__" : Str)) = false := by decide) : PE X (.Name x pos) (tC v) :=
  fun _ _ _ H _ I h => xaW I hg hm ⟨v, H, I, r, h⟩ hd
theorem xc2 {x : Str} {v : V} {u : Value} {pos : Pos} (hg : Gl X x) (hm : X.mg x = none) (hv : bootBuiltins x = some u) (r : RelV v u) (hn : x ≠ "__name__" := by decide) (hd : (x == ("__debug__" : Str)) = false := by decide) : PE X (.Name x pos) (tC v) :=
  fun _ _ _ H _ I h => vR I hg hm hv ⟨v, H, I, r, h⟩ hn hd
variable {a b : Expr} {ta tb : TE} {pos : Pos}
def PC (X : Cx) (op : CmpOp) (a b : Expr) (t : TE) : Prop :=
  ∀ (pins : List (Addr × Obj)) (s : Shared) (σ : St) (H : Hp) (Q : VK), Inv X pins σ H s → t σ H Q →
    wpAny (model X.prog X.w) X.A (eval a X.env) (fun v s₁ => wpAny (model X.prog X.w) X.A (eval b X.env) (fun u s₂ => wpAny (model X.prog X.w) X.A (compareOp op v u) (EP X pins σ Q) X.xe s₂) X.xe s₁) X.xe s
theorem xmf (b : Expr) {op : CmpOp} (h : op ≠ .In) (h2 : op ≠ .NotIn) : behindInMarks op b = false := by
  have e1 : (op == CmpOp.In) = false := by cases op <;> first | rfl | exact absurd rfl h
  have e2 : (op == CmpOp.NotIn) = false := by cases op <;> first | rfl | exact absurd rfl h2
  cases b <;> simp [behindInMarks, e1, e2]
def xp1 (ta : TE) : TE := fun σ H Q => ta σ H fun x H1 => Q (.bl (decide (x = .non))) H1
def xps (ta : TE) : TE := fun σ H Q => ta σ H fun x H1 => Q (.bl (!decide (x = .non))) H1
theorem RelV.none_iff {x : V} {v : Value} (r : RelV x v) : (v == Value.none) = decide (x = .non) := by
  cases x with
  | non => cases r; rfl
  | bl _ => cases r; rfl
  | int _ => obtain ⟨t, rfl⟩ := r; rfl
  | str _ => obtain ⟨t, rfl⟩ := r; rfl
  | byt _ => obtain ⟨t, rfl⟩ := r; rfl
  | flt _ => obtain ⟨t, rfl⟩ := r; rfl
  | ref _ => cases r; rfl
  | ty _ => cases r; rfl
theorem xoC {j pos'} (ha : PE X a ta) : PC X .Is a (.Constant .none j pos') (xp1 ta) := by
  intro pins s σ H Q I h
  refine thn (ha pins s σ H _ I h) fun v s1 ⟨x, H1, I1, r1, q1⟩ => ?_
  exact Constant_none (is_none_gen ⟨.bl _, H1, I1, by rw [r1.none_iff]; rfl, q1⟩)
theorem xnE {j pos'} (ha : PE X a ta) : PC X .IsNot a (.Constant .none j pos') (xps ta) := by
  intro pins s σ H Q I h
  refine thn (ha pins s σ H _ I h) fun v s1 ⟨x, H1, I1, r1, q1⟩ => ?_
  exact Constant_none (isnot_none_gen ⟨.bl _, H1, I1, by rw [r1.none_iff]; rfl, q1⟩)
def tB (t : TE) : TT := fun σ H Q => t σ H fun x H1 => ∃ c, x = .bl c ∧ Q c H1
theorem xle {op : CmpOp} {t : TE} (h : PC X op a b t) (h1 : behindInMarks op b = false := by first | exact xmf _ (by decide) (by decide) | rfl) : PT X (.Compare a [op] [b] pos) (tB t) := by
  intro pins s σ H Q I hw
  refine wpAny_isTrue_Compare1 (thn (h pins s σ H _ I hw) fun v s1 h1 => thn h1 fun u s2 h2 => thn h2 fun c s3 ⟨x, H1, I1, r1, q1⟩ => ?_) h1
  obtain ⟨d, rfl, q⟩ := q1
  cases r1
  exact wpAny_truthy_bool ⟨H1, I1, q⟩
variable {tA tB' : TT} {rest : List Expr}
def xp2 (t : TT) : TT := fun σ H Q => t σ H fun c H1 => Q (!c) H1
theorem xbY (ha : PT X a tA) : PW X (.BoolOp .And [a] pos) tA := by
  intro wh pins s σ H Q I h
  refine isTrue_and (thn (ha pins s σ H Q I h) fun c s1 e => ?_)
  cases c with
  | true => exact isTrue_and_nil e
  | false => exact e
theorem xeb (ha : PT X a tA) : PW X (.BoolOp .Or [a] pos) tA := by
  intro wh pins s σ H Q I h
  refine isTrue_or (thn (ha pins s σ H Q I h) fun c s1 e => ?_)
  cases c with
  | false => exact isTrue_or_nil e
  | true => exact e
theorem xec (ha : PT X a tA) : PT X (.UnaryOp .Not a pos) (xp2 tA) := by
  intro pins s σ H Q I h
  exact isTrue_not (ha pins s σ H (fun c H1 => Q (!c) H1) I h)
theorem xbn {op} {t : TE} (h : PE X a t) : PE X (.BoolOp op [a] pos) t := fun pins s σ H Q I hw => BoolOp_one (h pins s σ H Q I hw)
end
end L2
namespace L2
open PySem PySem.Spec PyProof.Rows
def SqL (K : PySem.W.Frag) (H : Hp) (a : Addr) (xs : List V) : Prop :=
  Rd H a (.lst xs) ∨
    ∃ (o : Obj) (its : Array Value) (n : Nat), K.lookup a = some o ∧ o.cls = .type "list" ∧ o.dict = none ∧ o.data = .seq its n ∧ its.size ≤ sizeLine ∧ Vals xs its.toList
def SqT (K : PySem.W.Frag) (H : Hp) (a : Addr) (xs : List V) : Prop :=
  Rd H a (.tup xs) ∨
    ∃ (o : Obj) (its : Array Value) (n : Nat), K.lookup a = some o ∧ o.cls = .type "tuple" ∧ o.data = .seq its n ∧ its.size ≤ sizeLine ∧ Vals xs its.toList
def xp3 : Value → Option V
  | .none => some .non
  | .bool b => some (.bl b)
  | .int i _ => some (.int i)
  | .str x _ => some (.str x)
  | .bytes b _ => some (.byt b)
  | .float b _ => some (.flt b)
  | .ref a => some (.ref a)
  | .type n => some (.ty n)
  | _ => none
theorem RelV.abs {x : V} {u : Value} (r : RelV x u) : xp3 u = some x := by
  cases x with
  | non => cases r; rfl
  | bl _ => cases r; rfl
  | int _ => obtain ⟨t, rfl⟩ := r; rfl
  | str _ => obtain ⟨t, rfl⟩ := r; rfl
  | byt _ => obtain ⟨t, rfl⟩ := r; rfl
  | flt _ => obtain ⟨t, rfl⟩ := r; rfl
  | ref _ => cases r; rfl
  | ty _ => cases r; rfl
theorem RelV.inj {x y : V} {u : Value} (r : RelV x u) (q : RelV y u) : x = y := Option.some.inj (r.abs.symm.trans q.abs)
theorem Vals.inj : ∀ {xs ys : List V} {us : List Value}, Vals xs us → Vals ys us → xs = ys
  | _, _, _, .nil, .nil => rfl
  | _, _, _, .cons r t, .cons r' t' => by rw [r.inj r', Vals.inj t t']
section
variable {X : Cx} {pins : List (Addr × Obj)} {σ : St} {H : Hp} {s : Shared} {a : Addr} {xs ys : List V}
theorem SqL.of {K : PySem.W.Frag} (h : H a = some (.lst xs)) : SqL K H a xs := .inl (.inl h)
theorem SqT.of {K : PySem.W.Frag} (h : H a = some (.tup xs)) : SqT K H a xs := .inl (.inl h)
theorem Inv.list (I : Inv X pins σ H s) (h : SqL X.K H a xs) : ∃ its : List Value, Vals xs its ∧ PlainL s.heap a its.toArray ∧ xs.length ≤ sizeLine := by
  rcases h with h | ⟨o, its, n, hk, hc, hd, hs, hz, r⟩
  · obtain ⟨z, its, n, r, e⟩ := h.ok I.hok
    exact ⟨its, r, ⟨_, n, e, rfl, rfl, rfl⟩, z⟩
  · refine ⟨its.toList, r, ⟨o, n, I.kIn a o hk, hc, hd, by simpa using hs⟩, ?_⟩
    have e := r.length
    simp only [Array.length_toList] at e
    omega
theorem Inv.tuple (I : Inv X pins σ H s) (h : SqT X.K H a xs) : ∃ its : List Value, Vals xs its ∧ IsTup s.heap a its.toArray ∧ xs.length ≤ sizeLine := by
  rcases h with h | ⟨o, its, n, hk, hc, hs, hz, r⟩
  · obtain ⟨z, its, r, p⟩ := h.ok I.hok
    exact ⟨its, r, p, z⟩
  · refine ⟨its.toList, r, ⟨o, I.kIn a o hk, hc, n, by simpa using hs⟩, ?_⟩
    have e := r.length
    simp only [Array.length_toList] at e
    omega
theorem Inv.list_inj (I : Inv X pins σ H s) (h : SqL X.K H a xs) (h' : SqL X.K H a ys) : xs = ys := by
  obtain ⟨its, r, ⟨o, n, e, _, _, d⟩, _⟩ := I.list h
  obtain ⟨its', r', ⟨o', n', e', _, _, d'⟩, _⟩ := I.list h'
  rw [e] at e'; cases e'
  rw [d] at d'
  injection d' with d1 _
  have : its = its' := by simpa using congrArg Array.toList d1
  subst this
  exact r.inj r'
theorem Inv.tuple_inj (I : Inv X pins σ H s) (h : SqT X.K H a xs) (h' : SqT X.K H a ys) : xs = ys := by
  obtain ⟨its, r, ⟨o, e, _, n, d⟩, _⟩ := I.tuple h
  obtain ⟨its', r', ⟨o', e', _, n', d'⟩, _⟩ := I.tuple h'
  rw [e] at e'; cases e'
  rw [d] at d'
  injection d' with d1 _
  have : its = its' := by simpa using congrArg Array.toList d1
  subst this
  exact r.inj r'
end
abbrev Cx.wish (X : Cx) (E : Value → Shared → Prop) : Cx := { X with xe := E }
abbrev Cx.nox (X : Cx) : Cx := X.wish fun _ _ => False
theorem Cx.Ok.wish {X : Cx} (ok : X.Ok) (E : Value → Shared → Prop) : (X.wish E).Ok :=
  ⟨ok.mod, ok.kind, ok.glob, ok.blt, ok.above, ok.inj, ok.has, ok.cab, ok.hd, ok.frames, ok.stk, ok.exf, ok.bs, ok.bsz, ok.noex, ok.exfs, ok.funs, ok.frf, ok.cab2, ok.hz⟩
theorem Cx.Ok.unwish {X : Cx} {E : Value → Shared → Prop} (ok : (X.wish E).Ok) : X.Ok :=
  ⟨ok.mod, ok.kind, ok.glob, ok.blt, ok.above, ok.inj, ok.has, ok.cab, ok.hd, ok.frames, ok.stk, ok.exf, ok.bs, ok.bsz, ok.noex, ok.exfs, ok.funs, ok.frf, ok.cab2, ok.hz⟩
section
variable {X : Cx} {pins : List (Addr × Obj)} {σ : St} {H : Hp} {s : Shared} {E : Value → Shared → Prop}
theorem Inv.wish (I : Inv X pins σ H s) (E : Value → Shared → Prop) : Inv (X.wish E) pins σ H s := ⟨I.ok.wish E, I.os, I.bare, I.base, I.loc, I.cell, I.free, I.freeC, I.pin, I.hok, I.len⟩
theorem Inv.unwish (I : Inv (X.wish E) pins σ H s) : Inv X pins σ H s := ⟨I.ok.unwish, I.os, I.bare, I.base, I.loc, I.cell, I.free, I.freeC, I.pin, I.hok, I.len⟩
theorem SP.unwish {D : Ends} {f : Flow} {s' : Shared} (h : SP (X.wish E) pins D f s') : SP X pins D f s' := by
  cases f with
  | next => obtain ⟨σ', H', I, q⟩ := h; exact ⟨σ', H', I.unwish, q⟩
  | brk => obtain ⟨σ', H', I, q⟩ := h; exact ⟨σ', H', I.unwish, q⟩
  | cont => obtain ⟨σ', H', I, q⟩ := h; exact ⟨σ', H', I.unwish, q⟩
  | ret u => obtain ⟨v, σ', H', I, r, q⟩ := h; exact ⟨v, σ', H', I.unwish, r, q⟩
theorem PSs.nox {st : List Stmt} {t : TS} (h : PSs X.nox st t) : PSs X st t := fun pins s σ H D I hw =>
  wpAny_mono (h pins s σ H D (I.wish _) hw) (fun _ _ q => q.unwish) fun _ _ z => False.elim z
end
section
variable {X : Cx} {st : Stmt} {rest : List Stmt} {t u : TS} {e : Expr} {te : TE} {pos : Pos}
def xpt : TS := fun D σ H => D.nx σ H
def xp4 (t u : TS) : TS := fun D σ H => t { D with nx := u D } σ H
theorem xF : PSs X [] xpt := fun _ _ σ H _ I h => wpAny_execs_nil ⟨σ, H, I, h⟩
theorem xk (h1 : PS X st t) (h2 : PSs X rest u) : PSs X (st :: rest) (xp4 t u) := by
  intro pins s σ H D I h
  refine wpAny_execs_cons (thn (h1 pins s σ H { D with nx := u D } I h) fun f s1 q => ?_)
  cases f with
  | next =>
    obtain ⟨σ', H', I', q⟩ := q
    exact h2 pins s1 σ' H' D I' q
  | ret v => exact q
  | brk => exact q
  | cont => exact q
theorem xl (h1 : PS X st t) : PSs X [st] t := by
  intro pins s σ H D I h
  refine wpAny_execs_cons (thn (h1 pins s σ H D I h) fun f s1 q => ?_)
  cases f with
  | next => exact wpAny_execs_nil q
  | ret v => exact q
  | brk => exact q
  | cont => exact q
theorem Inv.quiet {pins : List (Addr × Obj)} {σ : St} {H : Hp} {s : Shared} (I : Inv X pins σ H s) : interactive X.env = false := by simp [interactive, I.ok.kind]
def xpu (te : TE) : TS := fun D σ H => te σ H fun _ H1 => D.nx σ H1
theorem yk (he : PE X e te) (hs : swapsWith e none pos.line X.env = pure false := by rfl) : PS X (.Expr e pos) (xpu te) := by
  intro pins s σ H D I h
  exact wpAny_Expr_any (thn (he pins s σ H _ I h) fun v s1 ⟨x, H1, I1, r1, q1⟩ => ⟨σ, H1, I1, q1⟩) I.quiet hs
def xp5 (te : TE) : TS := fun D σ H => te σ H D.rt
theorem xu (he : PE X e te) : PS X (.Return (some e) pos) (xp5 te) := by
  intro pins s σ H D I h
  exact wpAny_Return_some (thn (he pins s σ H _ I h) fun v s1 ⟨x, H1, I1, r1, q1⟩ => ⟨x, σ, H1, I1, r1, q1⟩)
def xpv : TS := fun D _ H => D.rt .non H
theorem xnF : PS X (.Return none pos) xpv := fun _ _ σ H _ I h => wpAny_Return_none ⟨.non, σ, H, I, rfl, h⟩
end
abbrev TG := V → St → Hp → (St → Hp → Prop) → Prop
abbrev TGs := List V → St → Hp → (St → Hp → Prop) → Prop
def PG (X : Cx) (target : Expr) (t : TG) : Prop :=
  ∀ (pins : List (Addr × Obj)) (s : Shared) (σ : St) (H : Hp) (v : V) (u : Value) (Q : St → Hp → Prop), Inv X pins σ H s → RelV v u → t v σ H Q →
    wpAny (model X.prog X.w) X.A (assign target X.env u) (fun _ s' => ∃ σ' H', Inv X pins σ' H' s' ∧ Q σ' H') X.xe s
def PGs (X : Cx) (ts : List Expr) (t : TGs) : Prop :=
  ∀ (pins : List (Addr × Obj)) (s : Shared) (σ : St) (H : Hp) (vs : List V) (us : List Value) (Q : St → Hp → Prop), Inv X pins σ H s → Vals vs us → t vs σ H Q →
    wpAny (model X.prog X.w) X.A (assignInOrder ((assignEach ts X.env).map (·.2)) us) (fun _ s' => ∃ σ' H', Inv X pins σ' H' s' ∧ Q σ' H') X.xe s
abbrev xmg := V → V → V → Hp → (Hp → Prop) → Prop
def xoD (X : Cx) (t : xmg) : Prop :=
  ∀ (pins : List (Addr × Obj)) (s : Shared) (σ : St) (H : Hp) (o i v : V) (ov iv u : Value) (Q : Hp → Prop), Inv X pins σ H s → RelV o ov → RelV i iv → RelV v u → t o i v H Q →
    wpAny (model X.prog X.w) X.A (setItem ov iv u) (fun _ s' => ∃ H', Inv X pins σ H' s' ∧ Q H') X.xe s
section
variable {X : Cx} {pos : Pos}
def xeP (i : Nat) : TG := fun v σ H Q => Q (σ.set i (some v)) H
theorem xM {i : Nat} {x : Str} (hN : X.N.Nodup) (hi : X.N[i]? = some x) (hx : Loc X.env.scope x) (hf : X.fn x = true ∨ X.env.scope.names.lookup x = some .local := by first | exact .inl rfl | exact .inr rfl | assumption) : PG X (.Name x pos) (xeP i) := by
  intro pins s σ H v u Q I r h
  exact wpAny_assign_Name (xfK I hN hi hx r (fun s' I' => ⟨_, H, I', h⟩) hf)
def xoE : TGs := fun vs σ H Q => vs = [] ∧ Q σ H
def xkc (t : TG) (u : TGs) : TGs := fun vs σ H Q => ∃ v r, vs = v :: r ∧ t v σ H fun σ' H' => u r σ' H' Q
theorem xaX : PGs X [] xoE := by
  intro pins s σ H vs us Q I r h
  obtain ⟨e, h⟩ := h
  subst e
  cases r
  exact assignInOrder_nil ⟨σ, H, I, h⟩
theorem yE {e : Expr} {es : List Expr} {t : TG} {u : TGs} (h1 : PG X e t) (h2 : PGs X es u)
    (hs : (assignEach (e :: es) X.env).map (·.2) = assign e X.env :: (assignEach es X.env).map (·.2) := by rfl) : PGs X (e :: es) (xkc t u) := by
  intro pins s σ H vs us Q I r h
  obtain ⟨v, vr, e1, h⟩ := h
  subst e1
  cases r with
  | cons r rr =>
    rw [hs]
    refine assignInOrder_cons (thn (h1 pins s σ H _ _ _ I r h) fun _ s1 ⟨σ1, H1, I1, q1⟩ => ?_)
    exact h2 pins s1 σ1 H1 _ _ Q I1 rr q1
def xoF (K : PySem.W.Frag) (n : Nat) (t : TGs) : TG := fun v σ H Q => ∃ a xs, v = .ref a ∧ SqT K H a xs ∧ xs.length = n ∧ t xs σ H Q
theorem xb6 {es : List Expr} {k : Nat} {t : TGs} {n : Nat} (hc : X.calm = true) (h : PGs X es t)
    (hn : (assignEach es X.env).length = n := by rfl) (hst : (assignEach es X.env).findIdx? (·.1) = none := by rfl) : PG X (.Tuple es k pos) (xoF X.K n t) := by
  intro pins s σ H v u Q I r hw
  obtain ⟨a, xs, e1, hq, hl, hw⟩ := hw
  subst e1
  cases r
  obtain ⟨its, rv, ht, hz⟩ := I.tuple hq
  refine assign_Tuple_tuple (I.ok.hd hc) ht (by simp [hn, ← hl, rv.length]) hst fun h' hx => ?_
  have I1 : Inv X pins σ H { s with heap := h' } := I.kept (t' := s.toks) fun b o e => hx b o (Nat.ne_of_lt (Heap.lt_size e)) e
  exact h pins _ σ H xs _ Q I1 (by simpa using rv) hw
def xp6 (to ti : TE) (t : xmg) : TG := fun v σ H Q => to σ H fun o H1 => ti σ H1 fun i H2 => t o i v H2 fun H3 => Q σ H3
theorem xf6 {o i : Expr} {to ti : TE} {t : xmg} (ho : PE X o to) (hi : PE X i ti) (hs : xoD X t)
    (ha : ∀ v, assign (.Subscript o i pos) X.env v = (do
      let ov ← holding [v] (eval o X.env)
      let iv ← holding [v, ov] (eval i X.env)
      standAt pos
      holding [v, ov, iv] (setItem ov iv v)
      release [v, ov, iv] []) := by intro _; rfl) : PG X (.Subscript o i pos) (xp6 to ti t) := by
  intro pins s σ H v u Q I r h
  rw [ha]
  refine wpAny_bind (wpAny_holding (thn (ho pins s σ H _ I h) fun ov s1 ⟨x, H1, I1, r1, q1⟩ => ?_))
  refine wpAny_bind (wpAny_holding (thn (hi pins s1 σ H1 _ I1 q1) fun iv s2 ⟨y, H2, I2, r2, q2⟩ => ?_))
  refine wpAny_bind (wpAny_standAt (wpAny_bind (wpAny_holding (thn (hs pins s2 σ H2 x y v ov iv u _ I2 r1 r2 r q2) fun _ s3 ⟨H3, I3, q3⟩ => ?_))))
  exact wpAny_release ⟨σ, H3, I3, q3⟩
def xmh (te : TE) (g : TG) : TS := fun D σ H => te σ H fun x H1 => g x σ H1 D.nx
theorem xed {tg e : Expr} {te : TE} {g : TG} (he : PE X e te) (hg : PG X tg g) (hs : swapsWithSole [tg] e pos.line X.env = pure false := by rfl) (hw : swappedStores [tg] e X.env = pure none := by rfl)
    (h1 : (assignEach [tg] X.env).map (·.2) = [assign tg X.env] := by rfl) : PS X (.Assign [tg] e pos) (xmh te g) := by
  intro pins s σ H D I h
  refine wpAny_Assign_stores (thn (he pins s σ H _ I h) fun v s1 ⟨x, H1, I1, r1, q1⟩ => ?_) hs hw
  rw [h1]
  exact thn (hg pins s1 σ H1 x v _ I1 r1 q1) fun _ s2 q => q
theorem xC {i : Nat} {x : Str} {e : Expr} {te : TE} {pos' : Pos} (hN : X.N.Nodup) (hi : X.N[i]? = some x) (hx : Loc X.env.scope x) (he : PE X e te) (hs : swapsWith e (some (.Name x pos')) pos.line X.env = pure false := by rfl) (hf : X.fn x = true ∨ X.env.scope.names.lookup x = some .local := by first | exact .inl rfl | exact .inr rfl | assumption) :
    PS X (.Assign [.Name x pos'] e pos) (xmh te (xeP i)) := by
  intro pins s σ H D I h
  refine wpAny_Assign_Name (thn (he pins s σ H _ I h) fun v s1 ⟨y, H1, I1, r1, q1⟩ => ?_) hs
  exact xfK I1 hN hi hx r1 (fun s2 I2 => ⟨_, H1, I2, q1⟩) hf
end
section
variable {X : Cx} {pos : Pos}
end
structure It where
  go : Nat → Hp → Prop
  yld : Nat → Hp → V → Hp → Prop
  stop : Nat → Hp → Prop
def xaY (X : Cx) (pins : List (Addr × Obj)) (H : Hp) (b : Addr) : Prop :=
  H b = none ∧ b ≠ X.env.locals ∧ b ∉ X.fs ∧ (b ∈ X.ex ∨ X.s₀.heap.objs.size ≤ b) ∧ (∀ x c, X.env.cells.lookup x = some c → c ≠ b) ∧ ∀ p ∈ X.pn ++ pins, p.1 ≠ b
theorem Inv.fpOk {X : Cx} {pins : List (Addr × Obj)} {σ : St} {H H' : Hp} {s : Shared} {b : Addr} (I : Inv X pins σ H s) (hb : s.heap.objs.size ≤ b) (hn : H' b = none) : xaY X pins H' b := by
  refine ⟨hn, Nat.ne_of_gt (Nat.lt_of_lt_of_le I.lt hb), I.nofs hb, .inr (Nat.le_trans I.sz hb), fun x c e z => ?_, fun p hp z => ?_⟩
  · obtain ⟨v, q⟩ := I.cell x c e
    exact absurd (Nat.lt_of_lt_of_le q.lt (by rw [z]; exact hb)) (Nat.lt_irrefl _)
  · exact absurd (Nat.lt_of_lt_of_le (Heap.lt_size (I.pin p hp).1) (by rw [z]; exact hb)) (Nat.lt_irrefl _)
structure Turn (P : Program) (w : World) (K : PySem.W.Frag) (tg : Expr) (J : It) (fp : List Addr) (it : Addr) (tn : Nat → Heap → Prop) : Prop where
  mem : it ∈ fp
  obj : ∀ i h, tn i h → ∀ b ∈ fp, ∃ o, h.get? b = some o ∧ ∀ v, o.data ≠ .cell v
  keep : ∀ i h h', tn i h → (∀ b ∈ fp, ∀ o, h.get? b = some o → h'.get? b = some o) → tn i h'
  item : ∀ (X : Cx), X.prog = P → X.w = w → X.K = K → X.calm = true → ∀ (i : Nat) (pins : List (Addr × Obj)) (s : Shared) (σ : St) (H : Hp) (E : Value → Shared → Prop), Inv X pins σ H s → (∀ b ∈ fp, xaY X pins H b) → tn i s.heap → J.go i H →
    wpAny (model P w) X.A (pyNext (.ref it)) (fun r s1 => ∃ u, r = some u ∧
      wpAny (model P w) X.A (letOwnedTupleGo tg (.ref it) u) (fun _ s2 => ∃ x H', Inv X pins σ H' s2 ∧ RelV x u ∧ J.yld i H x H' ∧ tn (i + 1) s2.heap ∧ ∀ b ∈ fp, H' b = none) E s1) E s
  done : ∀ (X : Cx), X.prog = P → X.w = w → X.K = K → X.calm = true → ∀ (i : Nat) (pins : List (Addr × Obj)) (s : Shared) (σ : St) (H : Hp) (E : Value → Shared → Prop), Inv X pins σ H s → (∀ b ∈ fp, xaY X pins H b) → tn i s.heap → J.stop i H →
    wpAny (model P w) X.A (pyNext (.ref it)) (fun r s1 => r = none ∧ Inv X pins σ H s1) E s
  self : ∀ (A : Around) (i : Nat) (s : Shared) (Q : Value → Shared → Prop) (E : Value → Shared → Prop), tn i s.heap → Q (.ref it) s → wpAny (model P w) A (pyIter (.ref it)) Q E s
abbrev TI := St → Hp → (It → Hp → Prop) → Prop
def PIE (X : Cx) (pins : List (Addr × Obj)) (σ : St) (tg : Expr) (R : It → Hp → Prop) (itv : Value) (s2 : Shared) : Prop :=
  ∃ (it : Addr) (fp : List Addr) (tn : Nat → Heap → Prop) (J : It) (H' : Hp), itv = .ref it ∧ Inv X pins σ H' s2 ∧ Turn X.prog X.w X.K tg J fp it tn ∧ tn 0 s2.heap ∧ (∀ b ∈ fp, xaY X pins H' b) ∧ R J H'
def PI (X : Cx) (tg iter : Expr) (wi : TI) : Prop :=
  ∀ (pins : List (Addr × Obj)) (s : Shared) (σ : St) (H : Hp) (R : It → Hp → Prop), Inv X pins σ H s → wi σ H R →
    wpAny (model X.prog X.w) X.A (eval iter X.env) (fun v s1 => wpAny (model X.prog X.w) X.A (pyIter v) (PIE X pins σ tg R) X.xe s1) X.xe s
theorem xh8 {M : Model} {A : Around} {E : Value → Shared → Prop} {s : Shared} {tg : Expr} {it : Addr} {u : Value} {o : Obj} {n : String} {vs : Array Value} {Q : Unit → Shared → Prop} (ho : s.heap.get? it = some o) (hc : o.cls = .type n) (hd : o.data = .fields vs)
    (hn : ["enumerate", "zip", "dict_itemiterator", "dict_reverseitemiterator", "odict_iterator", "itertools.zip_longest", "itertools.pairwise"].contains n = false) (hQ : Q () s) : wpAny M A (letOwnedTupleGo tg (.ref it) u) Q E s := by
  unfold letOwnedTupleGo
  cases tg <;> first
    | exact wpAny_pure hQ
    | (cases u <;> first
        | exact wpAny_pure hQ
        | (refine wpAny_bind (wpAny_load ho ?_)
           rw [hc, hd]
           show wpAny M A (if (["enumerate", "zip", "dict_itemiterator", "dict_reverseitemiterator", "odict_iterator", "itertools.zip_longest", "itertools.pairwise"].contains n && vs[0]? == some (rawInt _)) = true then _ else _) Q E s
           rw [if_neg (by intro h; rw [hn, Bool.false_and] at h; cases h)]
           exact wpAny_pure hQ))
def Itl (K : PySem.W.Frag) (a : Addr) : It :=
  ⟨fun i H => ∃ xs x, SqL K H a xs ∧ xs[i]? = some x, fun i H x H' => H' = H ∧ ∀ xs, SqL K H a xs → xs[i]? = some x, fun i H => ∃ xs, SqL K H a xs ∧ xs.length ≤ i⟩
def Itt (K : PySem.W.Frag) (a : Addr) : It :=
  ⟨fun i H => ∃ xs x, SqT K H a xs ∧ xs[i]? = some x, fun i H x H' => H' = H ∧ ∀ xs, SqT K H a xs → xs[i]? = some x, fun i H => ∃ xs, SqT K H a xs ∧ xs.length ≤ i⟩
theorem xlf {P : Program} {w : World} {K : PySem.W.Frag} {tg : Expr} (a it : Addr) : Turn P w K tg (Itl K a) [it] it (fun i h => h.IsListIter it a i) where
  mem := by simp
  obj := fun i h st b hb => by
    have e : b = it := by simpa using hb
    subst e
    obtain ⟨o, e, c, d⟩ := st
    exact ⟨o, e, fun v z => by rw [d] at z; cases z⟩
  keep := fun i h h' st k => st.at fun o e => k it (by simp) o e
  item := by
    intro X hP hw hK hc i pins s σ H E I hf st hg
    subst hP hw hK
    obtain ⟨xs, x, hq, hx⟩ := hg
    obtain ⟨its, rv, p, hz⟩ := I.list hq
    obtain ⟨u, hu, ru⟩ := rv.get hx
    obtain ⟨f0, f1, f2, f3, f4, f5⟩ := hf it (by simp)
    refine wpAny_pyNext_list_item st p.isList (x := u) (by simpa using hu) fun h' st' sb => ?_
    have I1 : Inv X pins σ H { s with heap := h' } := I.turned (t' := s.toks) (fun b o hb e => (sb.2 b hb).trans e) f0 f1 f3 f4 f5
    obtain ⟨o, e, c, d⟩ := id st'
    exact ⟨u, rfl, xh8 (s := { s with heap := h' }) e c d (by decide) ⟨x, H, I1, ru, ⟨rfl, fun ys hy => by rw [I.list_inj hy hq]; exact hx⟩, st', fun b hb => (hf b hb).1⟩⟩
  done := by
    intro X hP hw hK hc i pins s σ H E I hf st hg
    subst hP hw hK
    obtain ⟨xs, hq, hx⟩ := hg
    obtain ⟨its, rv, p, hz⟩ := I.list hq
    obtain ⟨f0, f1, f2, f3, f4, f5⟩ := hf it (by simp)
    have hl := rv.length
    exact wpAny_pyNext_list_end (I.ok.hd hc) st p.isList (by simp; omega) fun h' eb => ⟨rfl, I.turned (t' := s.toks) (fun b o hb e => eb b o hb e) f0 f1 f3 f4 f5⟩
  self := fun _ _ _ _ _ st h => wpAny_pyIter_listiter st h
theorem xkd {P : Program} {w : World} {K : PySem.W.Frag} {tg : Expr} (a it : Addr) : Turn P w K tg (Itt K a) [it] it (fun i h => h.IsTupleIter it a i) where
  mem := by simp
  obj := fun i h st b hb => by
    have e : b = it := by simpa using hb
    subst e
    obtain ⟨o, e, c, d⟩ := st
    exact ⟨o, e, fun v z => by rw [d] at z; cases z⟩
  keep := fun i h h' st k => st.at fun o e => k it (by simp) o e
  item := by
    intro X hP hw hK hc i pins s σ H E I hf st hg
    subst hP hw hK
    obtain ⟨xs, x, hq, hx⟩ := hg
    obtain ⟨its, rv, p, hz⟩ := I.tuple hq
    obtain ⟨u, hu, ru⟩ := rv.get hx
    obtain ⟨f0, f1, f2, f3, f4, f5⟩ := hf it (by simp)
    refine wpAny_pyNext_tuple_item st (show s.heap.IsTuple a its.toArray from p) (x := u) (by simpa using hu) fun h' st' sb => ?_
    have I1 : Inv X pins σ H { s with heap := h' } := I.turned (t' := s.toks) (fun b o hb e => (sb.2 b hb).trans e) f0 f1 f3 f4 f5
    obtain ⟨o, e, c, d⟩ := id st'
    exact ⟨u, rfl, xh8 (s := { s with heap := h' }) e c d (by decide) ⟨x, H, I1, ru, ⟨rfl, fun ys hy => by rw [I.tuple_inj hy hq]; exact hx⟩, st', fun b hb => (hf b hb).1⟩⟩
  done := by
    intro X hP hw hK hc i pins s σ H E I hf st hg
    subst hP hw hK
    obtain ⟨xs, hq, hx⟩ := hg
    obtain ⟨its, rv, p, hz⟩ := I.tuple hq
    obtain ⟨f0, f1, f2, f3, f4, f5⟩ := hf it (by simp)
    have hl := rv.length
    exact wpAny_pyNext_tuple_end (I.ok.hd hc) st (show s.heap.IsTuple a its.toArray from p) (by simp; omega) fun h' eb => ⟨rfl, I.turned (t' := s.toks) (fun b o hb e => eb b o hb e) f0 f1 f3 f4 f5⟩
  self := fun _ _ _ _ _ st h => wpAny_pyIter_tupleiter st h
end L2
namespace L2
open PySem PySem.Spec PyProof.Rows
section
variable {X : Cx} {tg : Expr}
def xpw (K : PySem.W.Frag) (tl : TE) : TI := fun σ H R => tl σ H fun x H1 => ∃ a, x = .ref a ∧ (∃ xs, SqL K H1 a xs) ∧ R (Itl K a) H1
def xp7 (K : PySem.W.Frag) (tl : TE) : TI := fun σ H R => tl σ H fun x H1 => ∃ a, x = .ref a ∧ (∃ xs, SqT K H1 a xs) ∧ R (Itt K a) H1
theorem zo {l : Expr} {tl : TE} (hl : PE X l tl) : PI X tg l (xpw X.K tl) := by
  intro pins s σ H R I h
  refine thn (hl pins s σ H _ I h) fun v s1 ⟨x, H1, I1, r1, q1⟩ => ?_
  obtain ⟨a, e, ⟨xs, hq⟩, q⟩ := q1
  subst e
  cases r1
  obtain ⟨its, rv, p, hz⟩ := I1.list hq
  refine wpAny_pyIter_list p.isList ?_
  refine ⟨s1.heap.objs.size, [s1.heap.objs.size], _, _, H1, rfl, I1.kept (t' := s1.toks) fun b o e => Heap.get?_push_of_some _ e, xlf a _, ⟨_, Heap.get?_push_size _ rfl, rfl, rfl⟩, fun b hb => ?_, q⟩
  have e : b = s1.heap.objs.size := by simpa using hb
  subst e
  exact I1.fpOk (Nat.le_refl _) (I1.hok.fresh (Nat.le_refl _))
theorem xf7 {l : Expr} {tl : TE} (hl : PE X l tl) : PI X tg l (xp7 X.K tl) := by
  intro pins s σ H R I h
  refine thn (hl pins s σ H _ I h) fun v s1 ⟨x, H1, I1, r1, q1⟩ => ?_
  obtain ⟨a, e, ⟨xs, hq⟩, q⟩ := q1
  subst e
  cases r1
  obtain ⟨its, rv, p, hz⟩ := I1.tuple hq
  refine wpAny_pyIter_tuple (show s1.heap.IsTuple a its.toArray from p) ?_
  refine ⟨s1.heap.objs.size, [s1.heap.objs.size], _, _, H1, rfl, I1.kept (t' := s1.toks) fun b o e => Heap.get?_push_of_some _ e, xkd a _, ⟨_, Heap.get?_push_size _ rfl, rfl, rfl⟩, fun b hb => ?_, q⟩
  have e : b = s1.heap.objs.size := by simpa using hb
  subst e
  exact I1.fpOk (Nat.le_refl _) (I1.hok.fresh (Nat.le_refl _))
def xmi (wi : TI) (g : TG) (tb : TS) : TS := fun D σ H => wi σ H fun J H1 => ∃ W : Nat → Nat → St → Hp → Prop, (∃ m, W 0 m σ H1) ∧ ∀ i m σ H, W i m σ H →
  (J.stop i H ∧ D.nx σ H) ∨ (J.go i H ∧ ∃ N : St → Hp → Prop, (∀ σ' H', N σ' H' → ∃ m', m' < m ∧ W (i + 1) m' σ' H') ∧ ∀ x H', J.yld i H x H' → g x σ H' fun σ2 H2 => tb { D with nx := N, ct := N, bk := D.nx } σ2 H2)
def jI (fp : List Addr) (h : Heap) : List (Addr × Obj) := fp.filterMap fun b => (h.get? b).map fun o => (b, o)
theorem jm {fp : List Addr} {h : Heap} {b : Addr} {o : Obj} (hb : b ∈ fp) (e : h.get? b = some o) : (b, o) ∈ jI fp h := List.mem_filterMap.mpr ⟨b, hb, by rw [e]; rfl⟩
theorem xlg {fp : List Addr} {h : Heap} {p : Addr × Obj} (hp : p ∈ jI fp h) : p.1 ∈ fp ∧ h.get? p.1 = some p.2 := by
  obtain ⟨b, hb, e⟩ := List.mem_filterMap.mp hp
  cases q : h.get? b with
  | none => rw [q] at e; cases e
  | some o =>
    rw [q] at e
    have e' : (b, o) = p := Option.some.inj e
    subst e'
    exact ⟨hb, q⟩
theorem Inv.pinned {pins : List (Addr × Obj)} {σ : St} {H : Hp} {s : Shared} {fp : List Addr} (I : Inv X pins σ H s) (hf : ∀ b ∈ fp, xaY X pins H b) (ho : ∀ b ∈ fp, ∃ o, s.heap.get? b = some o ∧ ∀ v, o.data ≠ .cell v) : Inv X (pins ++ jI fp s.heap) σ H s :=
  I.pins_of fun p hp => (List.mem_append.mp hp).elim (fun z => I.pin p (List.mem_append_right _ z)) fun z => by
    obtain ⟨hb, e⟩ := xlg z
    obtain ⟨f0, f1, f2, _⟩ := hf p.1 hb
    obtain ⟨o, e', d⟩ := ho p.1 hb
    rw [e] at e'; cases e'
    exact ⟨e, f0, f1, f2, d⟩
theorem Inv.unpinned {pins pl : List (Addr × Obj)} {σ : St} {H : Hp} {s : Shared} (I : Inv X (pins ++ pl) σ H s) : Inv X pins σ H s := I.pins_of fun p hp => I.pin p (List.mem_append_right _ (List.mem_append_left _ hp))
theorem xoG {iter : Expr} {body : List Stmt} {wi : TI} {g : TG} {tb : TS} {pos : Pos} (hp : PassesOwn (model X.prog X.w) X.A X.env X.xe) (hc : X.calm = true) (hi : PI X tg iter wi) (hg : PG X tg g) (hb : PSs X body tb)
    (hs : ∀ x, foldedSetIterable iter X.env x = pure x := by intro _; rfl) : PS X (.For tg iter body [] pos) (xmi wi g tb) := by
  intro pins s σ H D I h
  refine wpAny_For (thn (hi pins s σ H _ I h) fun v s1 h1 => thn h1 fun itv s2 h2 => ?_) hs
  obtain ⟨it, fp, tn, J, H2, e, I2, T, st2, f2, W, ⟨m0, w0⟩, turn⟩ := h2
  subst e
  -- what stays true of the iterator's objects through the loop
  have stat : ∀ {H' : Hp}, (∀ b ∈ fp, H' b = none) → ∀ b ∈ fp, xaY X pins H' b := fun hn b hb => ⟨hn b hb, (f2 b hb).2⟩
  refine codeAny_forLoop_any (fun n s' => ∃ i σ' H', Inv X pins σ' H' s' ∧ tn i s'.heap ∧ (∀ b ∈ fp, H' b = none) ∧ W i n σ' H') ?_ m0 ⟨0, σ, H2, I2, st2, fun b hb => (f2 b hb).1, w0⟩
  rintro n s3 ⟨i, σ3, H3, I3, st3, fr3, w3⟩
  rcases turn i n σ3 H3 w3 with ⟨stop, qn⟩ | ⟨go, N, hN, step⟩
  · refine wpAny_passesOwn hp (thn (T.done X rfl rfl rfl hc i pins s3 σ3 H3 X.xe I3 (stat fr3) st3 stop) fun r s4 ⟨hr, I4⟩ => ?_)
    subst hr
    exact wpAny_execs_nil ⟨σ3, H3, I4, qn⟩
  · refine wpAny_passesOwn hp (thn (T.item X rfl rfl rfl hc i pins s3 σ3 H3 X.xe I3 (stat fr3) st3 go) fun r s4 ⟨u, hr, h4⟩ => ?_)
    subst hr
    refine wpAny_passesOwn hp (thn h4 fun _ s5 ⟨x, H5, I5, r5, y5, st5, fr5⟩ => ?_)
    have I5' := I5.pinned (stat fr5) (T.obj _ _ st5)
    refine wpAny_passesOwn hp (thn (hg _ s5 σ3 H5 x u _ I5' r5 (step x H5 y5)) fun _ s6 ⟨σ6, H6, I6, q6⟩ => ?_)
    refine wpAny_passesOwn hp (thn (hb _ s6 σ6 H6 _ I6 q6) fun f s7 q7 => ?_)
    have again : ∀ {σ7 : St} {H7 : Hp}, Inv X (pins ++ jI fp s5.heap) σ7 H7 s7 → N σ7 H7 → ∃ m, m < n ∧ ∃ i σ' H', Inv X pins σ' H' s7 ∧ tn i s7.heap ∧ (∀ b ∈ fp, H' b = none) ∧ W i m σ' H' := fun {σ7 H7} I7 n7 => by
      obtain ⟨m', hm, w7⟩ := hN σ7 H7 n7
      refine ⟨m', hm, i + 1, σ7, H7, I7.unpinned, T.keep _ _ _ st5 fun b hb o e => (I7.pin (b, o) (List.mem_append_right _ (List.mem_append_right _ (jm hb e)))).1, fun b hb => ?_, w7⟩
      obtain ⟨o, e, d⟩ := T.obj _ _ st5 b hb
      exact (I7.pin (b, o) (List.mem_append_right _ (List.mem_append_right _ (jm hb e)))).2.1
    cases f with
    | next => obtain ⟨σ7, H7, I7, n7⟩ := q7; exact again I7 n7
    | cont => obtain ⟨σ7, H7, I7, n7⟩ := q7; exact again I7 n7
    | brk => obtain ⟨σ7, H7, I7, q7⟩ := q7; exact ⟨σ7, H7, I7.unpinned, q7⟩
    | ret v => obtain ⟨x7, σ7, H7, I7, r7, q7⟩ := q7; exact ⟨x7, σ7, H7, I7.unpinned, r7, q7⟩
end
theorem xmj {K : PySem.W.Frag} {a : Addr} {xs : List V} {g : TG} {tb : TS} {D : Ends} {σ : St} {H : Hp} (Pv : Nat → St → Hp → Prop) (h0 : Pv 0 σ H) (hl : ∀ i σ H, i ≤ xs.length → Pv i σ H → SqL K H a xs)
    (hs : ∀ i x σ H, xs[i]? = some x → Pv i σ H → g x σ H fun σ2 H2 => tb { D with nx := Pv (i + 1), ct := Pv (i + 1), bk := D.nx } σ2 H2) (hd : ∀ σ H, Pv xs.length σ H → D.nx σ H) :
    ∃ W : Nat → Nat → St → Hp → Prop, (∃ m, W 0 m σ H) ∧ ∀ i m σ H, W i m σ H →
      ((Itl K a).stop i H ∧ D.nx σ H) ∨ ((Itl K a).go i H ∧ ∃ N : St → Hp → Prop, (∀ σ' H', N σ' H' → ∃ m', m' < m ∧ W (i + 1) m' σ' H') ∧ ∀ x H', (Itl K a).yld i H x H' → g x σ H' fun σ2 H2 => tb { D with nx := N, ct := N, bk := D.nx } σ2 H2) := by
  refine ⟨fun i m σ H => m = xs.length - i ∧ i ≤ xs.length ∧ Pv i σ H, ⟨xs.length, by simp, Nat.zero_le _, h0⟩, ?_⟩
  rintro i m σ H ⟨rfl, hi, p⟩
  have q := hl i σ H hi p
  by_cases hlt : i < xs.length
  · refine .inr ⟨⟨xs, xs[i], q, by simp [hlt]⟩, Pv (i + 1), fun σ' H' p' => ⟨xs.length - (i + 1), by omega, rfl, hlt, p'⟩, fun x H' y => ?_⟩
    obtain ⟨e, y⟩ := y
    subst e
    exact hs i x σ _ (y xs q) p
  · have e : i = xs.length := by omega
    subst e
    exact .inl ⟨⟨xs, q, Nat.le_refl _⟩, hd σ H p⟩
theorem xnG {K : PySem.W.Frag} {a : Addr} {xs : List V} {g : TG} {tb : TS} {D : Ends} {σ : St} {H : Hp} (Pv : Nat → St → Hp → Prop) (h0 : Pv 0 σ H) (hl : ∀ i σ H, i ≤ xs.length → Pv i σ H → SqT K H a xs)
    (hs : ∀ i x σ H, xs[i]? = some x → Pv i σ H → g x σ H fun σ2 H2 => tb { D with nx := Pv (i + 1), ct := Pv (i + 1), bk := D.nx } σ2 H2) (hd : ∀ σ H, Pv xs.length σ H → D.nx σ H) :
    ∃ W : Nat → Nat → St → Hp → Prop, (∃ m, W 0 m σ H) ∧ ∀ i m σ H, W i m σ H →
      ((Itt K a).stop i H ∧ D.nx σ H) ∨ ((Itt K a).go i H ∧ ∃ N : St → Hp → Prop, (∀ σ' H', N σ' H' → ∃ m', m' < m ∧ W (i + 1) m' σ' H') ∧ ∀ x H', (Itt K a).yld i H x H' → g x σ H' fun σ2 H2 => tb { D with nx := N, ct := N, bk := D.nx } σ2 H2) := by
  refine ⟨fun i m σ H => m = xs.length - i ∧ i ≤ xs.length ∧ Pv i σ H, ⟨xs.length, by simp, Nat.zero_le _, h0⟩, ?_⟩
  rintro i m σ H ⟨rfl, hi, p⟩
  have q := hl i σ H hi p
  by_cases hlt : i < xs.length
  · refine .inr ⟨⟨xs, xs[i], q, by simp [hlt]⟩, Pv (i + 1), fun σ' H' p' => ⟨xs.length - (i + 1), by omega, rfl, hlt, p'⟩, fun x H' y => ?_⟩
    obtain ⟨e, y⟩ := y
    subst e
    exact hs i x σ _ (y xs q) p
  · have e : i = xs.length := by omega
    subst e
    exact .inl ⟨⟨xs, q, Nat.le_refl _⟩, hd σ H p⟩
end L2
namespace L2
open PySem PySem.Spec PyProof.Rows
abbrev R2 := V → V → Hp → VK → Prop
def OpR (X : Cx) (f : Value → Value → Sem Value) (r : R2) : Prop :=
  ∀ (pins : List (Addr × Obj)) (s : Shared) (σ : St) (H : Hp) (x y : V) (v u : Value) (Q : VK), Inv X pins σ H s → RelV x v → RelV y u → r x y H Q →
    wpAny (model X.prog X.w) X.A (f v u) (EP X pins σ Q) X.xe s
def UnR (X : Cx) (f : Value → Sem Value) (r : V → Hp → VK → Prop) : Prop :=
  ∀ (pins : List (Addr × Obj)) (s : Shared) (σ : St) (H : Hp) (x : V) (v : Value) (Q : VK), Inv X pins σ H s → RelV x v → r x H Q →
    wpAny (model X.prog X.w) X.A (f v) (EP X pins σ Q) X.xe s
def zp (X : Cx) (f : Value) (r : List V → Hp → VK → Prop) : Prop :=
  ∀ (pins : List (Addr × Obj)) (s : Shared) (σ : St) (H : Hp) (xs : List V) (us : List Value) (Q : VK), Inv X pins σ H s → Vals xs us → r xs H Q →
    wpAny (model X.prog X.w) X.A (call f us) (EP X pins σ Q) X.xe s
def tOp (r : R2) (ta tb : TE) : TE := fun σ H Q => ta σ H fun x H1 => tb σ H1 fun y H2 => r x y H2 Q
def tUn (r : V → Hp → VK → Prop) (ta : TE) : TE := fun σ H Q => ta σ H fun x H1 => r x H1 Q
def rI (C : Int → Int → Prop) (g : Int → Int → V) : R2 := fun x y H Q => ∃ i j, x = .int i ∧ y = .int j ∧ C i j ∧ Q (g i j) H
def rI0 (g : Int → Int → V) : R2 := fun x y H Q => ∃ i j, x = .int i ∧ y = .int j ∧ Q (g i j) H
def rU (g : Int → V) : V → Hp → VK → Prop := fun x H Q => ∃ i, x = .int i ∧ Q (g i) H
section
variable {X : Cx} {a b c : Expr} {ta tb tc : TE} {pos : Pos}
theorem xmk (ha : PE X a ta) (hb : PE X b tb) {pins : List (Addr × Obj)} {s : Shared} {σ : St} {H : Hp} {R : V → V → Hp → Prop} (I : Inv X pins σ H s)
    (h : ta σ H fun x H1 => tb σ H1 fun y H2 => R x y H2) {Q : Value → Shared → Prop} {f : Value → Value → Sem Value}
    (hf : ∀ v u s2 x y H2, Inv X pins σ H2 s2 → RelV x v → RelV y u → R x y H2 → wpAny (model X.prog X.w) X.A (f v u) Q X.xe s2) :
    wpAny (model X.prog X.w) X.A (eval a X.env) (fun v s₁ => wpAny (model X.prog X.w) X.A (eval b X.env) (fun u s₂ => wpAny (model X.prog X.w) X.A (f v u) Q X.xe s₂) X.xe s₁) X.xe s := by
  refine thn (ha pins s σ H _ I h) fun v s1 ⟨x, H1, I1, r1, q1⟩ => ?_
  refine thn (hb pins s1 σ H1 _ I1 q1) fun u s2 ⟨y, H2, I2, r2, q2⟩ => ?_
  exact hf v u s2 x y H2 I2 r1 r2 q2
theorem xp {op : Operator} {r : R2} (ho : OpR X (binaryOp op) r) (ha : PE X a ta) (hb : PE X b tb) : PE X (.BinOp a op b pos) (tOp r ta tb) := by
  intro pins s σ H Q I h
  exact wpAny_BinOp (xmk ha hb I h fun v u s2 x y H2 I2 rx ry q => ho pins s2 σ H2 x y v u Q I2 rx ry q)
theorem xeQ {op : UnaryOp} {r : V → Hp → VK → Prop} (ho : UnR X (unaryOp op) r) (ha : PE X a ta) : PE X (.UnaryOp op a pos) (tUn r ta) := by
  intro pins s σ H Q I h
  exact UnaryOp_ (thn (ha pins s σ H _ I h) fun v s1 ⟨x, H1, I1, r1, q1⟩ => ho pins s1 σ H1 x v Q I1 r1 q1)
theorem opI {f : Value → Value → Sem Value} {C : Int → Int → Prop} {g : Int → Int → Int}
    (rule : ∀ (i j : Int) (t u : Tok) (s : Shared) (Q : Value → Shared → Prop) (E : Value → Shared → Prop), C i j → Q (.int (g i j) s.toks) { s with toks := s.toks + 1 } → wpAny (model X.prog X.w) X.A (f (.int i t) (.int j u)) Q E s) :
    OpR X f (rI C fun i j => .int (g i j)) := by
  intro pins s σ H x y v u Q I rx ry h
  obtain ⟨i, j, rfl, rfl, hc, q⟩ := h
  obtain ⟨t, rfl⟩ := rx
  obtain ⟨t', rfl⟩ := ry
  exact rule i j t t' s _ _ hc ⟨.int (g i j), H, I.tok _, ⟨_, rfl⟩, q⟩
theorem xoH {f : Value → Value → Sem Value} {g : Int → Int → Int}
    (rule : ∀ (i j : Int) (t u : Tok) (s : Shared) (Q : Value → Shared → Prop) (E : Value → Shared → Prop), Q (.int (g i j) s.toks) { s with toks := s.toks + 1 } → wpAny (model X.prog X.w) X.A (f (.int i t) (.int j u)) Q E s) :
    OpR X f (rI0 fun i j => .int (g i j)) := by
  intro pins s σ H x y v u Q I rx ry h
  obtain ⟨i, j, rfl, rfl, q⟩ := h
  obtain ⟨t, rfl⟩ := rx
  obtain ⟨t', rfl⟩ := ry
  exact rule i j t t' s _ _ ⟨.int (g i j), H, I.tok _, ⟨_, rfl⟩, q⟩
theorem xke {f : Value → Value → Sem Value} {g : Int → Int → Bool}
    (rule : ∀ (i j : Int) (t u : Tok) (s : Shared) (Q : Value → Shared → Prop) (E : Value → Shared → Prop), Q (.bool (g i j)) s → wpAny (model X.prog X.w) X.A (f (.int i t) (.int j u)) Q E s) :
    OpR X f (rI0 fun i j => .bl (g i j)) := by
  intro pins s σ H x y v u Q I rx ry h
  obtain ⟨i, j, rfl, rfl, q⟩ := h
  obtain ⟨t, rfl⟩ := rx
  obtain ⟨t', rfl⟩ := ry
  exact rule i j t t' s _ _ ⟨.bl (g i j), H, I, rfl, q⟩
def xoI (i j : Int) : Prop := 0 ≤ j ∧ j ≤ 1000000 ∧ i.natAbs < 2 ^ 64
def xkf (i j : Int) : Prop := (-(2 ^ 64) < i ∧ i < 2 ^ 64) ∨ (-(2 ^ 64) < j ∧ j < 2 ^ 64)
theorem xkf.ok {i j : Int} (h : xkf i j) : IntMulOk i j := by
  rcases h with ⟨h1, h2⟩ | ⟨h1, h2⟩
  · exact .of_left (intBits_le_64 h1 h2)
  · exact .of_right (intBits_le_64 h1 h2)
theorem xkg (k : Nat) : (0 : Int) ≤ 2 ^ k := by
  rw [two_pow_cast]
  exact Int.natCast_nonneg _
theorem xoJ : OpR X (binaryOp .Add) (rI0 fun i j => .int (i + j)) := xoH fun _ _ _ _ _ _ _ q => add_int q
theorem xoK : OpR X (binaryOp .Sub) (rI0 fun i j => .int (i - j)) := xoH fun _ _ _ _ _ _ _ q => sub_int q
theorem xoL : OpR X (binaryOp .Mult) (rI xkf fun i j => .int (i * j)) := opI fun _ _ _ _ _ _ _ hc q => mul_int q hc.ok
theorem xoM : OpR X (binaryOp .Mod) (rI (fun _ j => 0 < j) fun i j => .int (i % j)) := opI fun i j _ _ _ _ _ hc q => by
  have h1 : (0 : Int) < j := hc
  exact mod_int' (by omega) (by rw [Int.fmod_eq_emod_of_nonneg i (by omega)]; exact q)
theorem xoN : OpR X (binaryOp .Pow) (rI xoI fun i j => .int (i ^ j.toNat)) := opI fun _ _ _ _ _ _ _ hc q => pow_int_small hc.1 hc.2.1 hc.2.2 q
theorem xoO : OpR X (binaryOp .RShift) (rI (fun _ j => 0 ≤ j) fun i j => .int (i / 2 ^ j.toNat)) := opI fun i j _ _ _ _ _ hc q =>
  rshift_int hc (by rw [Int.fdiv_eq_ediv_of_nonneg i (xkg _)]; exact q)
theorem unI {f : Value → Sem Value} {g : Int → Int}
    (rule : ∀ (i : Int) (t : Tok) (s : Shared) (Q : Value → Shared → Prop) (E : Value → Shared → Prop), Q (.int (g i) s.toks) { s with toks := s.toks + 1 } → wpAny (model X.prog X.w) X.A (f (.int i t)) Q E s) :
    UnR X f (rU fun i => .int (g i)) := by
  intro pins s σ H x v Q I rx h
  obtain ⟨i, rfl, q⟩ := h
  obtain ⟨t, rfl⟩ := rx
  exact rule i t s _ _ ⟨.int (g i), H, I.tok _, ⟨_, rfl⟩, q⟩
theorem xoP : UnR X (unaryOp .USub) (rU fun i => .int (-i)) := unI fun _ _ _ _ _ q => neg_int q
end
def xoQ : V → V → Bool
  | .non, .non => true | .non, .int _ => true | .int _, .non => true | .non, .bl _ => true | .bl _, .non => true | .non, .str _ => true | .str _, .non => true
  | .int _, .int _ => true | .bl _, .bl _ => true | .str _, .str _ => true | .byt _, .byt _ => true
  | .int _, .str _ => true | .str _, .int _ => true | .bl _, .str _ => true | .str _, .bl _ => true
  | _, _ => false
def rEq : R2 := fun x y H Q => xoQ x y = true ∧ Q (.bl (decide (x = y))) H
def rNe : R2 := fun x y H Q => xoQ x y = true ∧ Q (.bl (!decide (x = y))) H
theorem xjy {i j : Int} : decide (V.int i = V.int j) = (i == j) := by
  rw [Bool.eq_iff_iff]
  simp
theorem xlh {i j : Bool} : decide (V.bl i = V.bl j) = (i == j) := by
  rw [Bool.eq_iff_iff]
  simp
theorem xjz {i j : Str} : decide (V.str i = V.str j) = (i == j) := by
  rw [Bool.eq_iff_iff]
  simp
theorem xjA {i j : Array UInt8} : decide (V.byt i = V.byt j) = (i.toList == j.toList) := by
  rw [Bool.eq_iff_iff]
  cases i
  cases j
  simp
section
variable {X : Cx} {a b c : Expr} {ta tb tc : TE} {pos : Pos}
theorem xQ {pins : List (Addr × Obj)} {σ : St} {H : Hp} {s : Shared} {Q : VK} {k k' : Bool} (I : Inv X pins σ H s) (q : Q (.bl k) H) (e : k = k') : EP X pins σ Q (.bool k') s := by
  subst e
  exact ⟨.bl k, H, I, rfl, q⟩
theorem xnp : OpR X (compareOp .Eq) rEq := by
  intro pins s σ H x y v u Q I rx ry h
  obtain ⟨hs, q⟩ := h
  cases x with
  | non =>
    cases rx
    cases y with
    | non => cases ry; exact PySem.EqNone.eq_none_none (xQ I q (by simp))
    | bl j => cases ry; exact PySem.EqNone.eq_none_bool (xQ I q (by simp))
    | int j => obtain ⟨t', rfl⟩ := ry; exact PySem.EqNone.eq_none_int (xQ I q (by simp))
    | str j => obtain ⟨t', rfl⟩ := ry; exact PySem.EqNone.eq_none_str (xQ I q (by simp))
    | _ => exact absurd (show false = true from hs) Bool.false_ne_true
  | bl i =>
    cases rx
    cases y with
    | non => cases ry; exact PySem.EqNone.eq_bool_none (xQ I q (by simp))
    | bl j => cases ry; exact eq_bool (xQ I q xlh)
    | str j => obtain ⟨t', rfl⟩ := ry; exact PySem.EqMixed.eq_bool_str (xQ I q (by simp))
    | _ => exact absurd (show false = true from hs) Bool.false_ne_true
  | int i =>
    obtain ⟨t, rfl⟩ := rx
    cases y with
    | non => cases ry; exact PySem.EqNone.eq_int_none (xQ I q (by simp))
    | int j => obtain ⟨t', rfl⟩ := ry; exact eq_int (xQ I q xjy)
    | str j => obtain ⟨t', rfl⟩ := ry; exact PySem.EqMixed.eq_int_str (xQ I q (by simp))
    | _ => exact absurd (show false = true from hs) Bool.false_ne_true
  | str i =>
    obtain ⟨t, rfl⟩ := rx
    cases y with
    | non => cases ry; exact PySem.EqNone.eq_str_none (xQ I q (by simp))
    | bl j => cases ry; exact PySem.EqMixed.eq_str_bool (xQ I q (by simp))
    | int j => obtain ⟨t', rfl⟩ := ry; exact PySem.EqMixed.eq_str_int (xQ I q (by simp))
    | str j => obtain ⟨t', rfl⟩ := ry; exact eq_str (xQ I q xjz)
    | _ => exact absurd (show false = true from hs) Bool.false_ne_true
  | byt i =>
    obtain ⟨t, rfl⟩ := rx
    cases y with
    | byt j => obtain ⟨t', rfl⟩ := ry; exact PySem.W.eq_bytes (xQ I q xjA)
    | _ => exact absurd (show false = true from hs) Bool.false_ne_true
  | _ => cases y <;> exact absurd (show false = true from hs) Bool.false_ne_true
theorem xnq : OpR X (compareOp .NotEq) rNe := by
  intro pins s σ H x y v u Q I rx ry h
  obtain ⟨hs, q⟩ := h
  cases x with
  | non =>
    cases rx
    cases y with
    | non => cases ry; exact PySem.EqNone.ne_none_none (xQ I q (by simp))
    | bl j => cases ry; exact PySem.EqNone.ne_none_bool (xQ I q (by simp))
    | int j => obtain ⟨t', rfl⟩ := ry; exact PySem.EqNone.ne_none_int (xQ I q (by simp))
    | str j => obtain ⟨t', rfl⟩ := ry; exact PySem.EqNone.ne_none_str (xQ I q (by simp))
    | _ => exact absurd (show false = true from hs) Bool.false_ne_true
  | bl i =>
    cases rx
    cases y with
    | non => cases ry; exact PySem.EqNone.ne_bool_none (xQ I q (by simp))
    | bl j => cases ry; exact ne_bool (xQ I q (congrArg not xlh))
    | str j => obtain ⟨t', rfl⟩ := ry; exact PySem.EqMixed.ne_bool_str (xQ I q (by simp))
    | _ => exact absurd (show false = true from hs) Bool.false_ne_true
  | int i =>
    obtain ⟨t, rfl⟩ := rx
    cases y with
    | non => cases ry; exact PySem.EqNone.ne_int_none (xQ I q (by simp))
    | int j => obtain ⟨t', rfl⟩ := ry; exact ne_int (xQ I q (congrArg not xjy))
    | str j => obtain ⟨t', rfl⟩ := ry; exact PySem.EqMixed.ne_int_str (xQ I q (by simp))
    | _ => exact absurd (show false = true from hs) Bool.false_ne_true
  | str i =>
    obtain ⟨t, rfl⟩ := rx
    cases y with
    | non => cases ry; exact PySem.EqNone.ne_str_none (xQ I q (by simp))
    | bl j => cases ry; exact PySem.EqMixed.ne_str_bool (xQ I q (by simp))
    | int j => obtain ⟨t', rfl⟩ := ry; exact PySem.EqMixed.ne_str_int (xQ I q (by simp))
    | str j => obtain ⟨t', rfl⟩ := ry; exact ne_str (xQ I q (congrArg not xjz))
    | _ => exact absurd (show false = true from hs) Bool.false_ne_true
  | byt i =>
    obtain ⟨t, rfl⟩ := rx
    cases y with
    | byt j => obtain ⟨t', rfl⟩ := ry; exact PySem.W.ne_bytes (xQ I q (congrArg not xjA))
    | _ => exact absurd (show false = true from hs) Bool.false_ne_true
  | _ => cases y <;> exact absurd (show false = true from hs) Bool.false_ne_true
theorem xpx : OpR X (compareOp .Lt) (rI0 fun i j => .bl (decide (i < j))) := xke fun _ _ _ _ _ _ _ q => lt_int q
theorem xpy : OpR X (compareOp .LtE) (rI0 fun i j => .bl (decide (i ≤ j))) := xke fun _ _ _ _ _ _ _ q => le_int q
theorem xpz : OpR X (compareOp .Gt) (rI0 fun i j => .bl (decide (j < i))) := xke fun _ _ _ _ _ _ _ q => gt_int q
theorem xpA : OpR X (compareOp .GtE) (rI0 fun i j => .bl (decide (j ≤ i))) := xke fun _ _ _ _ _ _ _ q => ge_int q
theorem xli (b : Expr) {op : CmpOp} (h : op ≠ .In := by decide) (h2 : op ≠ .NotIn := by decide) : behindInMarks op b = false := by
  have e1 : (op == CmpOp.In) = false := by cases op <;> first | rfl | exact absurd rfl h
  have e2 : (op == CmpOp.NotIn) = false := by cases op <;> first | rfl | exact absurd rfl h2
  cases b <;> simp [behindInMarks, e1, e2]
theorem xnH {op : CmpOp} {r : R2} (ho : OpR X (compareOp op) r) (ha : PE X a ta) (hb : PE X b tb) (hm : behindInMarks op b = false) : PE X (.Compare a [op] [b] pos) (tOp r ta tb) := by
  intro pins s σ H Q I h
  exact wpAny_Compare1 (xmk ha hb I h fun v u s2 x y H2 I2 rx ry q => ho pins s2 σ H2 x y v u Q I2 rx ry q) hm
theorem xf8 : (sizeLine : Nat) < 2 ^ 63 := by rw [sizeLine_eq]; decide
theorem vals1 {x : V} {us : List Value} (r : Vals [x] us) : ∃ u, us = [u] ∧ RelV x u := by
  cases r with
  | cons r1 r2 => cases r2; exact ⟨_, rfl, r1⟩
theorem vals2 {x y : V} {us : List Value} (r : Vals [x, y] us) : ∃ u w', us = [u, w'] ∧ RelV x u ∧ RelV y w' := by
  cases r with
  | cons r1 r2 =>
    cases r2 with
    | cons r3 r4 => cases r4; exact ⟨_, _, rfl, r1, r3⟩
theorem xml : zp X (.builtin "abs") (fun xs H Q => ∃ i, xs = [.int i] ∧ Q (.int (if i < 0 then -i else i)) H) := by
  intro pins s σ H xs us Q I r h
  obtain ⟨i, rfl, q⟩ := h
  obtain ⟨u, rfl, t, rfl⟩ := vals1 r
  exact call_abs_int fun u tk => ⟨.int (if i < 0 then -i else i), H, I.tok _, ⟨_, rfl⟩, q⟩
theorem xlj (hc : X.calm = true) : zp X (.builtin "max") (fun xs H Q => ∃ i j, xs = [.int i, .int j] ∧ Q (.int (if j > i then j else i)) H) := by
  intro pins s σ H xs us Q I r h
  obtain ⟨i, j, rfl, q⟩ := h
  obtain ⟨u, w', rfl, ⟨t, rfl⟩, ⟨t', rfl⟩⟩ := vals2 r
  refine max_two_ints (I.ok.hd hc) fun h' tk k => ⟨_, H, I.kept k, ?_, q⟩
  by_cases hj : j > i
  · rw [if_pos hj, if_pos hj]; exact ⟨_, rfl⟩
  · rw [if_neg hj, if_neg hj]; exact ⟨_, rfl⟩
theorem xlk (hc : X.calm = true) : zp X (.builtin "min") (fun xs H Q => ∃ i j, xs = [.int i, .int j] ∧ Q (.int (if j < i then j else i)) H) := by
  intro pins s σ H xs us Q I r h
  obtain ⟨i, j, rfl, q⟩ := h
  obtain ⟨u, w', rfl, ⟨t, rfl⟩, ⟨t', rfl⟩⟩ := vals2 r
  refine min_two_ints (I.ok.hd hc) fun h' tk k => ⟨_, H, I.kept k, ?_, q⟩
  by_cases hj : j < i
  · rw [if_pos hj, if_pos hj]; exact ⟨_, rfl⟩
  · rw [if_neg hj, if_neg hj]; exact ⟨_, rfl⟩
theorem xll : zp X (.type "int") (fun xs H Q => (∃ i, xs = [.int i] ∧ Q (.int i) H) ∨ ∃ k, xs = [.bl k] ∧ Q (.int (if k then 1 else 0)) H) := by
  intro pins s σ H xs us Q I r h
  rcases h with ⟨i, rfl, q⟩ | ⟨k, rfl, q⟩
  · obtain ⟨u, rfl, t, rfl⟩ := vals1 r
    exact call_int_int ⟨.int i, H, I, ⟨_, rfl⟩, q⟩
  · obtain ⟨u, rfl, r1⟩ := vals1 r
    cases r1
    exact call_int_bool ⟨.int (if k then 1 else 0), H, I.tok _, ⟨_, rfl⟩, q⟩
end
end L2
namespace L2
open PySem PySem.Spec PyProof.Rows
structure xfL (h : Heap) (x dx C : Addr) (mA : Str → Option Value) : Prop where
  obj : h.get? x = some (PySem.W.instObj C dx)
  ns : h.Ns1 dx mA
  ne : dx ≠ x
theorem xlm {h : Heap} {dx : Addr} {mA : Str → Option Value} (n : h.Ns1 dx mA) : ∃ od, h.get? dx = some od ∧ ∀ name, PySem.W.lookIn name od = some (mA name) := by
  obtain ⟨o, es, ep, ho, hd, hk, _, hm⟩ := n
  refine ⟨o, ho, fun name => ?_⟩
  have e := hm name
  unfold nsFind findBy at e
  rw [← Array.find?_toList] at e
  unfold PySem.W.lookIn
  rw [hd]
  dsimp only
  split
  · rename_i y q
    rw [q] at e
    exact congrArg some e
  · rename_i q
    rw [q] at e
    have a : es.toList.any (·.refKey) = false := by
      rw [List.any_eq_false]
      intro y hy
      obtain ⟨z, t, hkey⟩ := hk y (Array.mem_toList_iff.mp hy)
      simp [DictEntry.refKey, hkey]
    have a' : ¬ es.toList.any (·.refKey) = true := by rw [a]; exact Bool.false_ne_true
    rw [if_neg a']
    exact congrArg some e
theorem xfL.look {h : Heap} {x dx C : Addr} {mA : Str → Option Value} (I : xfL h x dx C mA) : ∃ od, PySem.W.InstAt h x (PySem.W.instObj C dx) C (some od) ∧ ∀ name, PySem.W.lookIn name od = some (mA name) :=
  let ⟨od, ho, hl⟩ := xlm I.ns
  ⟨od, ⟨I.obj, rfl, rfl, ho⟩, hl⟩
section
variable {prog : Program} {w : World} {A : Around} {E : Value → Shared → Prop} {s : Shared} {K : PySem.W.Frag} {x dx C f : Addr} {mA : Str → Option Value} {name : Str} {v : Value}
theorem get_map {expr : Bool} {Q : Value → Shared → Prop} (X : K.In s.heap) (I : xfL s.heap x dx C mA) (hg : PySem.W.plainGet K C name = true) (hh : PySem.W.hasDictIn K C = true)
    (ha : PySem.W.findIn K (.ref C) name = some none) (hv : mA name = some v) (hv' : PySem.W.handedIn v = true) (h : Q v { s with toks := s.toks + 1 }) :
    wpAny (model prog w) A (getAttr (.ref x) name expr) Q E s := by
  obtain ⟨od, J, hl⟩ := I.look
  exact PySem.W.get_value X J (PySem.W.plainGet_of hg).1 (PySem.W.findObj_own hh ha rfl (by rw [hl, hv])) hv' h
theorem xmm {pl : Sem Bool} {Q : Value × List Value → Shared → Prop} (X : K.In s.heap) (I : xfL s.heap x dx C mA) (hg : PySem.W.plainGet K C name = true)
    (hf : PySem.W.findIn K (.ref C) name = some (some (.ref f))) (ht : PySem.W.isFn K (.ref f) = true) (hv : mA name = none) (h : Q (.ref f, [.ref x]) s) :
    wpAny (model prog w) A (getMethod (.ref x) name pl) Q E s := by
  obtain ⟨od, J, hl⟩ := I.look
  exact PySem.W.method_fn X J (PySem.W.plainGet_of hg).1 (PySem.W.plainGet_of hg).2 hf (beq_iff_eq.mp ht) (by show (PySem.W.lookIn name od).map (·.isSome) = some false; rw [hl, hv]; rfl) h
theorem xnI {ns : List Str} {Q : Unit → Shared → Prop} (X : K.In s.heap) (I : xfL s.heap x dx C mA)
    (hs : PySem.W.findIn K (.ref C) "__setattr__" = some (some (.builtin "object.__setattr__"))) (hp : PySem.W.plainOver K C = true) (ht : PySem.W.takerIn K C name = some none) (hh : PySem.W.hasDictIn K C = true)
    (hw : PySem.Within mA ns) (hsz : ns.length ≤ sizeLine)
    (h : ∀ h', xfL h' x dx C (fun y => if y = name then some v else mA y) → Heap.SameBut dx s.heap h' → Q () { s with heap := h', toks := s.toks + 2 }) :
    wpAny (model prog w) A (setAttr (.ref x) name v) Q E s := by
  obtain ⟨od, J, hl⟩ := I.look
  refine PySem.W.set_plain X J hs (PySem.W.osa_open (s := { s with toks := s.toks + 1 }) (r := none) X J hp ht fun b => ?_)
  obtain ⟨cd, hc, hd'⟩ := PySem.W.any_some hh
  have hx : s.heap.get? x = some ⟨.ref C, some dx, .plain, #[]⟩ := I.obj
  refine wpAny_bind (wpAny_pure (wpAny_bind (wpAny_bind (wpAny_loadPart hx (wpAny_bind (PySem.W.Looks.here (s := { s with toks := s.toks + 1 }) (PySem.W.looks_clsIn X hc) ?_))))))
  rw [hd']
  refine wpAny_pure (a := some dx) (wpAny_bind (wpAny_pure (wpAny_bind ?_)))
  refine wpAny_nsSet1 (s := { s with toks := s.toks + 1 }) I.ns fun h' hn2 hs2 => ?_
  obtain ⟨oD, esD, epD, hoD, hdD, hcD⟩ := hn2.count (PySem.Within.cons name v hw)
  refine wpAny_bind (wpAny_lookBehind hoD (by rw [hdD]; exact pastItsLine_dict (Nat.le_trans hcD (by rw [List.length_cons]; omega))) ?_)
  exact wpAny_pure (h _ ⟨(hs2.2 _ (Ne.symm I.ne)).trans I.obj, hn2, I.ne⟩ hs2)
theorem xmn {R : Result → Shared → Prop} {vs : List Value} {kw : List (Str × Value)} (X : K.In s.heap) (hm : PySem.W.makesIn K C = true)
    (hi : PySem.W.findIn K (.ref C) "__init__" = some (some (.ref f))) (hf : PySem.W.typeIn K (.ref f) = some (.type "function"))
    (h : codeAny (model prog w) (A.under (.builtin "type.__call__" ⟨.ref C :: vs, kw⟩)) (.call (.ref f) ⟨.ref (s.heap.objs.size + 1) :: vs, kw⟩) (PySem.W.InitBack (s.heap.objs.size + 1) R)
      { s with heap := (s.heap.push PySem.W.emptyDict).push (PySem.W.instObj C s.heap.objs.size) }) :
    codeAny (model prog w) A (.call (.ref C) ⟨vs, kw⟩) R s := by
  obtain ⟨hh, g, d, t, os⟩ := s
  exact PySem.W.make_core (PySem.W.makes_of X hm) (PySem.W.looks_findIn X hi) (fun self => PySem.W.bind_fn X self hf) (.inl rfl) h
end
def vS (f : Str) (v : V) : List (Str × V) → List (Str × V)
  | [] => [(f, v)]
  | (g, x) :: r => if g = f then (g, v) :: r else (g, x) :: vS f v r
theorem xfs (f g : Str) (v : V) : ∀ fs : List (Str × V), (vS f v fs).lookup g = if g = f then some v else fs.lookup g
  | [] => by
    show List.lookup g [(f, v)] = _
    by_cases h : g = f
    · have hb : (g == f) = true := beq_iff_eq.mpr h
      simp only [List.lookup, hb, if_pos h]
    · have hb : (g == f) = false := beq_eq_false_iff_ne.mpr h
      simp only [List.lookup, hb, if_neg h]
  | (k, x) :: r => by
    have ih := xfs f g v r
    rw [show vS f v ((k, x) :: r) = (if k = f then (k, v) :: r else (k, x) :: vS f v r) from rfl]
    by_cases hk : k = f
    · rw [if_pos hk]
      by_cases h : g = k
      · have hb : (g == k) = true := beq_iff_eq.mpr h
        simp only [List.lookup, hb, if_pos (h.trans hk)]
      · have hb : (g == k) = false := beq_eq_false_iff_ne.mpr h
        simp only [List.lookup, hb, if_neg (fun e : g = f => h (e.trans hk.symm))]
    · rw [if_neg hk]
      by_cases h : g = k
      · have hb : (g == k) = true := beq_iff_eq.mpr h
        simp only [List.lookup, hb, if_neg (fun e : g = f => hk (h.symm.trans e))]
      · have hb : (g == k) = false := beq_eq_false_iff_ne.mpr h
        simp only [List.lookup, hb]
        exact ih
theorem xee (f : Str) (v : V) : ∀ fs : List (Str × V), f ∈ (vS f v fs).map (·.1) ∧ ∀ g, g ∈ fs.map (·.1) → g ∈ (vS f v fs).map (·.1)
  | [] => ⟨by simp [vS], fun g h => by simp at h⟩
  | (k, x) :: r => by
    obtain ⟨i1, i2⟩ := xee f v r
    rw [show vS f v ((k, x) :: r) = (if k = f then (k, v) :: r else (k, x) :: vS f v r) from rfl]
    by_cases hk : k = f
    · rw [if_pos hk]
      subst hk
      exact ⟨by simp, fun g h => by simpa using h⟩
    · rw [if_neg hk]
      refine ⟨?_, fun g h => ?_⟩
      · rw [List.map_cons]
        exact List.mem_cons_of_mem _ i1
      · rw [List.map_cons] at h ⊢
        rcases List.mem_cons.mp h with e | e
        · exact List.mem_cons.mpr (.inl e)
        · exact List.mem_cons_of_mem _ (i2 g e)
theorem xcR (f : Str) (v : V) : ∀ fs : List (Str × V), (vS f v fs).length ≤ fs.length + 1
  | [] => by simp [vS]
  | (k, x) :: r => by
    have ih := xcR f v r
    rw [show vS f v ((k, x) :: r) = (if k = f then (k, v) :: r else (k, x) :: vS f v r) from rfl]
    by_cases hk : k = f
    · rw [if_pos hk, List.length_cons, List.length_cons]; omega
    · rw [if_neg hk, List.length_cons, List.length_cons]; omega
theorem xab.some_of {v : V} {o : Option Value} (r : xab (some v) o) : ∃ u, o = some u ∧ RelV v u := by
  cases o with
  | none => exact (show False from r).elim
  | some u => exact ⟨u, rfl, r⟩
theorem xab.none_of {o : Option Value} (r : xab none o) : o = none := by
  cases o with
  | none => rfl
  | some u => exact (show False from r).elim
theorem xln {v : V} {u : Value} (r : RelV v u) : PySem.W.handedIn u = true := by
  cases v with
  | non => cases (show u = Value.none from r); rfl
  | bl b => cases (show u = Value.bool b from r); rfl
  | int i => obtain ⟨t, e⟩ := (show ∃ t, u = Value.int i t from r); cases e; rfl
  | str x => obtain ⟨t, e⟩ := (show ∃ t, u = Value.str x t from r); cases e; rfl
  | byt b => obtain ⟨t, e⟩ := (show ∃ t, u = Value.bytes b t from r); cases e; rfl
  | flt b => obtain ⟨t, e⟩ := (show ∃ t, u = Value.float b t from r); cases e; rfl
  | ref a => cases (show u = Value.ref a from r); rfl
  | ty n => cases (show u = Value.type n from r); rfl
section
variable {P : Program} {w : World} {H H' : Hp} {h h' : Heap} {a C dx : Addr} {fs fs' : List (Str × V)}
theorem xeR (hok : HOk P w H h) (e : H a = some (.ins C dx fs)) : ∃ mA, xfL h a dx C mA ∧ (∀ f, xab (fs.lookup f) (mA f)) ∧ PySem.Within mA (fs.map (·.1)) ∧ fs.length ≤ 1000 ∧ H dx = some (.own a) := by
  obtain ⟨d, z, ne, ob, mA, n, r, q⟩ := (show xS P w H h a (.ins C dx fs) from hok a _ e)
  exact ⟨mA, ⟨ob, n, ne⟩, r, q, z, d⟩
end
structure Cls (K : PySem.W.Frag) (C : Addr) : Prop where
  pg : PySem.W.plainGet K C Str.empty = true
  hd : PySem.W.hasDictIn K C = true
  po : PySem.W.plainOver K C = true
  sa : PySem.W.findIn K (.ref C) "__setattr__" = some (some (.builtin "object.__setattr__"))
theorem Cls.get {K : PySem.W.Frag} {C : Addr} (c : Cls K C) (f : Str) : PySem.W.plainGet K C f = true := c.pg
def xR (K : PySem.W.Frag) (C : Addr) (f : Str) : Prop := PySem.W.findIn K (.ref C) f = some none
theorem xR.taker {K : PySem.W.Frag} {C : Addr} {f : Str} (n : xR K C f) : PySem.W.takerIn K C f = some none := by
  unfold PySem.W.takerIn
  rw [show PySem.W.findIn K (.ref C) f = some none from n]
  rfl
structure Meth (K : PySem.W.Frag) (C : Addr) (m : Str) (f : Addr) : Prop where
  at_ : PySem.W.findIn K (.ref C) m = some (some (.ref f))
  fn : PySem.W.isFn K (.ref f) = true
  kp : PySem.W.keepIn K (.ref f) = true
section
variable {X : Cx} {pins : List (Addr × Obj)} {σ : St} {H : Hp} {s : Shared} {a C dx : Addr} {fs : List (Str × V)} {f : Str} {v : V} {A : Around} {E : Value → Shared → Prop}
theorem xkh {b : Bool} {Q : Value → Shared → Prop} (I : Inv X pins σ H s) (e : H a = some (.ins C dx fs)) (c : Cls X.K C) (n : xR X.K C f) (l : fs.lookup f = some v)
    (h : ∀ u s', Inv X pins σ H s' → RelV v u → Q u s') : wpAny (model X.prog X.w) A (getAttr (.ref a) f b) Q E s := by
  obtain ⟨mA, O, r, _, _, _⟩ := xeR I.hok e
  obtain ⟨u, hu, ru⟩ := xab.some_of (v := v) (o := mA f) (by rw [← l]; exact r f)
  exact get_map I.kIn O (c.get f) c.hd n hu (xln ru) (h u _ (I.tok _) ru)
theorem xdr {m : Str} {g : Addr} {pl : Sem Bool} {Q : Value × List Value → Shared → Prop} (I : Inv X pins σ H s) (e : H a = some (.ins C dx fs)) (c : Cls X.K C) (k : Meth X.K C m g) (l : fs.lookup m = none)
    (h : Q (.ref g, [.ref a]) s) : wpAny (model X.prog X.w) A (getMethod (.ref a) m pl) Q E s := by
  obtain ⟨mA, O, r, _, _, _⟩ := xeR I.hok e
  have hn : mA m = none := xab.none_of (by rw [← l]; exact r m)
  exact xmm I.kIn O (c.get m) k.at_ k.fn hn h
theorem xki {y : V} {u : Value} {Q : Unit → Shared → Prop} (I : Inv X pins σ H s) (e : H a = some (.ins C dx fs)) (c : Cls X.K C) (n : xR X.K C f) (hl : fs.length < 1000) (ry : RelV y u)
    (h : ∀ s', Inv X pins σ (upd H a (.ins C dx (vS f y fs))) s' → Q () s') : wpAny (model X.prog X.w) A (setAttr (.ref a) f u) Q E s := by
  obtain ⟨mA, O, r, wi, _, ho⟩ := xeR I.hok e
  have hz : (fs.map (·.1)).length ≤ sizeLine := by rw [List.length_map, sizeLine_eq]; omega
  refine xnI I.kIn O c.sa c.po n.taker c.hd wi hz fun h' O' sb => h _ ?_
  have hd : ∃ o, h'.get? dx = some o := let ⟨o, _, _, e', _⟩ := O'.ns; ⟨o, e'⟩
  refine I.write (x := a) (e := dx) (by rw [e]; exact True.intro) (.inr ho) (fun b q hb z => (sb.2 b hb).trans z) hd ?_
  refine ⟨by rw [xn O.ne]; exact ho, ?_, O.ne, O'.obj, _, O'.ns, fun g => ?_, fun g hg => ?_⟩
  · have := xcR f y fs; omega
  · show xab ((vS f y fs).lookup g) (if g = f then some u else mA g)
    rw [xfs]
    by_cases q : g = f
    · rw [if_pos q, if_pos q]; exact ry
    · rw [if_neg q, if_neg q]; exact r g
  · by_cases q : g = f
    · rw [q]; exact (xee f y fs).1
    · refine (xee f y fs).2 g (wi g fun z => hg ?_)
      show (if g = f then some u else mA g) = none
      rw [if_neg q]; exact z
theorem Inv.made (I : Inv X pins σ H s) : Inv X pins σ (upd (upd H s.heap.objs.size (.own (s.heap.objs.size + 1))) (s.heap.objs.size + 1) (.ins C s.heap.objs.size []))
    { s with heap := (s.heap.push PySem.W.emptyDict).push (PySem.W.instObj C s.heap.objs.size) } := by
  have e1 : (s.heap.push PySem.W.emptyDict).get? s.heap.objs.size = some PySem.W.emptyDict := Heap.get?_push_size s.heap rfl
  have e2 : ((s.heap.push PySem.W.emptyDict).push (PySem.W.instObj C s.heap.objs.size)).get? (s.heap.objs.size + 1) = some (PySem.W.instObj C s.heap.objs.size) := by
    have := Heap.get?_push_size (s.heap.push PySem.W.emptyDict) (o := PySem.W.instObj C s.heap.objs.size) rfl
    rwa [Heap.size_push] at this
  have e3 : (s.heap.push PySem.W.emptyDict).Ns s.heap.objs.size (fun _ => none) := ⟨PySem.W.emptyDict, #[], _, e1, rfl, (fun e he => absurd he (by simp)), fun _ => rfl⟩
  have I1 := I.laid (a := s.heap.objs.size) (o := .own (s.heap.objs.size + 1)) (h' := s.heap.push PySem.W.emptyDict) (t' := s.toks) (fun b u q => Heap.get?_push_of_some _ q) (Nat.le_refl _) ⟨_, e1⟩
  refine I1.laid (a := s.heap.objs.size + 1) (o := .ins C s.heap.objs.size []) (t' := s.toks) (fun b u q => Heap.get?_push_of_some _ q) (Nat.le_of_eq (Heap.size_push _ _)) ?_
  have ne : s.heap.objs.size ≠ s.heap.objs.size + 1 := Nat.ne_of_lt (Nat.lt_succ_self _)
  refine ⟨by rw [xn ne, xo], Nat.zero_le _, ne, e2, fun _ => none, (Heap.Ns1.of_empty e3).at fun o q => Heap.get?_push_of_some _ q, fun _ => True.intro, fun y hy => absurd rfl hy⟩
theorem xnJ {prog : Program} {w : World} {env : Env} {e : Expr} {f : Str} {pos : Pos} {s : Shared} {Q : Value → Shared → Prop} (hb : attributeBase e f env (eval e env) = eval e env)
    (h : wpAny (model prog w) A (eval e env) (fun o s₁ => wpAny (model prog w) A (getAttr o f true) Q E s₁) E s) : wpAny (model prog w) A (eval (.Attribute e f pos) env) Q E s :=
  Attribute_any_ h (by rw [arm_eval_Attribute, hb])
end
def xp8 (K : PySem.W.Frag) (ta : TE) (f : Str) : TE := fun σ H Q => ta σ H fun x H1 => ∃ a C dx fs v, x = .ref a ∧ H1 a = some (.ins C dx fs) ∧ Cls K C ∧ xR K C f ∧ fs.lookup f = some v ∧ Q v H1
def xp9 (K : PySem.W.Frag) (ta tv : TE) (f : Str) : TS := fun D σ H => tv σ H fun y H1 => ta σ H1 fun x H2 => ∃ a C dx fs, x = .ref a ∧ H2 a = some (.ins C dx fs) ∧ Cls K C ∧ xR K C f ∧ fs.length < 1000 ∧
  D.nx σ (upd H2 a (.ins C dx (vS f y fs)))
section
variable {X : Cx} {o e value : Expr} {f : Str} {pos pos' tpos : Pos} {ta tv : TE}
theorem xH (he : PE X e ta) (hb : attributeBase e f X.env (eval e X.env) = eval e X.env) : PE X (.Attribute e f pos) (xp8 X.K ta f) := by
  intro pins s σ H Q I h
  refine xnJ hb (thn (he pins s σ H _ I h) fun u s1 ⟨x, H1, I1, rx, a, C, dx, fs, v, ex, ea, c, n, l, q⟩ => ?_)
  subst ex
  obtain rfl : u = Value.ref a := rx
  exact xkh I1 ea c n l fun u' s2 I2 ru => ⟨v, H1, I2, ru, q⟩
theorem vh (ha : PE X o ta) (hv : PE X value tv) (hs : swapsWith value (some (.Attribute o f pos')) pos.line X.env = pure false) : PS X (.Assign [.Attribute o f pos'] value pos) (xp9 X.K ta tv f) := by
  intro pins s σ H D I h
  refine plainObj_wpAny_Assign_Attribute (thn (hv pins s σ H _ I h) fun u s1 ⟨y, H1, I1, ry, q⟩ => thn (ha pins s1 σ H1 _ I1 q) fun ov s2 ⟨x, H2, I2, rx, a, C, dx, fs, ex, ea, c, n, l, q2⟩ => ?_) hs
  subst ex
  obtain rfl : ov = Value.ref a := rx
  exact xki I2 ea c n l ry fun s3 I3 => ⟨σ, _, I3, q2⟩
end
section
variable {X : Cx} {pins : List (Addr × Obj)} {σ : St} {H : Hp} {s : Shared} {A : Around} {E : Value → Shared → Prop} {Q : Value → Shared → Prop} {c : Value} {b : Bool}
inductive uy (K : PySem.W.Frag) (H : Hp) : V → Value → Prop where
  | non : uy K H .non (.type "NoneType")
  | bl (x : Bool) : uy K H (.bl x) (.type "bool")
  | int (i : Int) : uy K H (.int i) (.type "int")
  | str (x : Str) : uy K H (.str x) (.type "str")
  | flt (x : UInt64) : uy K H (.flt x) (.type "float")
  | lst {a : Addr} {xs : List V} (e : H a = some (.lst xs)) : uy K H (.ref a) (.type "list")
  | frz {a : Addr} {o : Obj} {xs : List V} (e : H a = some (.frz o (.lst xs))) : uy K H (.ref a) (.type "list")
  | tup {a : Addr} {xs : List V} (e : H a = some (.tup xs)) : uy K H (.ref a) (.type "tuple")
  | dK {a : Addr} {kvs : List (Key × V)} (e : H a = some (.dK kvs)) : uy K H (.ref a) (.type "dict")
  | dT {a : Addr} {kvs : List (List Key × V)} (e : H a = some (.dT kvs)) : uy K H (.ref a) (.type "dict")
  | ins {a C dx : Addr} {fs : List (Str × V)} (e : H a = some (.ins C dx fs)) (cl : Cls K C) (ha : PySem.W.findIn K (.ref C) "__class__" = some (some (.builtin "object.__class__")))
      (hn : PySem.W.specialIn K (.builtin "object.__class__") "__get__" = some (some (.builtin "getset_descriptor.__get__"))) (htk : PySem.W.takesIn K (.builtin "object.__class__") = some true)
      (hm : PySem.W.mroIn K C (.type "object") = some true) : uy K H (.ref a) (.ref C)
theorem xlo {x : V} {u t : Value} (I : Inv X pins σ H s) (rx : RelV x u) (ty : uy X.K H x t) (e : PySem.W.kitOne X.K t c = some b) (h : ∀ tk, Q (.bool b) { s with toks := tk }) :
    wpAny (model X.prog X.w) A (call (.builtin "isinstance") [u, c]) Q E s := by
  cases ty with
  | non => cases (show u = Value.none from rx); exact PySem.W.kia_one PySem.W.kitx_none I.kIn True.intro e (fun z => nomatch z) h
  | bl y => cases (show u = Value.bool y from rx); exact PySem.W.kia_one PySem.W.kitx_bool I.kIn True.intro e (fun z => nomatch z) h
  | int i => obtain ⟨t, q⟩ := (show ∃ t, u = Value.int i t from rx); cases q; exact PySem.W.kia_one PySem.W.kitx_int I.kIn True.intro e (fun z => nomatch z) h
  | str y => obtain ⟨t, q⟩ := (show ∃ t, u = Value.str y t from rx); cases q; exact PySem.W.kia_one PySem.W.kitx_str I.kIn True.intro e (fun z => nomatch z) h
  | flt y => obtain ⟨t, q⟩ := (show ∃ t, u = Value.float y t from rx); cases q; exact PySem.W.kia_one PySem.W.kitx_float I.kIn True.intro e (fun z => nomatch z) h
  | @lst a xs ea =>
    cases (show u = Value.ref a from rx)
    obtain ⟨_, _, n, _, h1⟩ := (show xS X.prog X.w H s.heap a (.lst xs) from I.hok a _ ea)
    exact PySem.W.kia_one PySem.W.kitx_list I.kIn ⟨_, h1, rfl⟩ e (fun z => nomatch z) h
  | @frz a ob xs ea =>
    cases (show u = Value.ref a from rx)
    obtain ⟨_, _, _, n, _, h1⟩ := (show xS X.prog X.w H s.heap a (.frz ob (.lst xs)) from I.hok a _ ea)
    exact PySem.W.kia_one PySem.W.kitx_list I.kIn ⟨_, h1, rfl⟩ e (fun z => nomatch z) h
  | @tup a xs ea =>
    cases (show u = Value.ref a from rx)
    obtain ⟨_, _, _, p⟩ := (show xS X.prog X.w H s.heap a (.tup xs) from I.hok a _ ea)
    obtain ⟨o, h1, h2, _⟩ := p
    exact PySem.W.kia_one PySem.W.kitx_tuple I.kIn ⟨o, h1, h2⟩ e (fun z => nomatch z) h
  | @dK a kvs ea =>
    cases (show u = Value.ref a from rx)
    obtain ⟨_, _, vs, _, p⟩ := (show xS X.prog X.w H s.heap a (.dK kvs) from I.hok a _ ea)
    obtain ⟨o, es, ep, h1, h2, _⟩ := p
    exact PySem.W.kia_one PySem.W.kitx_dict I.kIn ⟨o, h1, h2.1⟩ e (fun z => nomatch z) h
  | @dT a kvs ea =>
    cases (show u = Value.ref a from rx)
    obtain ⟨_, _, xs, _, o, es, ep, h1, h2, _⟩ := (show xS X.prog X.w H s.heap a (.dT kvs) from I.hok a _ ea)
    exact PySem.W.kia_one PySem.W.kitx_dict I.kIn ⟨o, h1, h2.1⟩ e (fun z => nomatch z) h
  | @ins a C dx fs ea cl ha hn htk hm =>
    cases (show u = Value.ref a from rx)
    obtain ⟨mA, O, _⟩ := xeR I.hok ea
    obtain ⟨od, J, _⟩ := O.look
    exact PySem.W.kia_one (PySem.W.kitx_own (cl.get _) cl.hd ha hn htk hm) I.kIn J e (fun z => nomatch z) h
end
end L2
namespace L2
open PySem PySem.Spec PyProof.Rows
structure xX (k : Nat) (A : Around) : Prop where
  hd : A.handled = none
  dp : A.depth + 3 * k + 5 < recursionLimit
  un : A.units + 16 * k + 200 < cLine
theorem xX.mono {j k : Nat} {A : Around} (r : xX k A) (h : j ≤ k) : xX j A := ⟨r.hd, by have := r.dp; omega, by have := r.un; omega⟩
theorem xX.deeper {k : Nat} {A : Around} (r : xX (k + 1) A) (env : Env) : xX k (A.deeper env) :=
  ⟨r.hd, by have := r.dp; show A.depth + 1 + 3 * k + 5 < _; omega, by have := r.un; show A.units + 3 + 16 * k + 200 < _; omega⟩
theorem xkj {A : Around} {C : Addr} {us : List Value} {kw : List (Str × Value)} : (A.under (.builtin "type.__call__" ⟨.ref C :: us, kw⟩)).depth = A.depth + 1 := by
  first | rfl | simp [Around.under, Code.weight, Code.isCreation, Code.isGuard, Code.isCaller, Code.frames, Code.isFrame, guardIds]
theorem xkk {A : Around} {C : Addr} {us : List Value} {kw : List (Str × Value)} : (A.under (.builtin "type.__call__" ⟨.ref C :: us, kw⟩)).units = A.units + 1 := by
  first | rfl | simp [Around.under, Code.cUnits, Code.frames, Code.isFrame]
theorem xX.make {k : Nat} {A : Around} (r : xX (k + 1) A) (C : Addr) (us : List Value) (kw : List (Str × Value)) : xX k (A.under (.builtin "type.__call__" ⟨.ref C :: us, kw⟩)) :=
  ⟨r.hd, by have := r.dp; rw [xkj]; omega, by have := r.un; rw [xkk]; omega⟩
theorem xX.depth {k : Nat} {A : Around} (r : xX k A) : A.depth < recursionLimit := by have := r.dp; omega
theorem xX.units {k : Nat} {A : Around} (r : xX k A) : A.units + 64 < cLine := by have := r.un; omega
def xat : TA := fun _ H Q => Q [] H
def xf9 (ta : TE) (tr : TA) : TA := fun σ H Q => ta σ H fun x H1 => tr σ H1 fun xs H2 => Q (x :: xs) H2
section
variable {X : Cx} {e : Expr} {es : List Expr} {te : TE} {t : TA} {pos : Pos}
theorem xf : PA X [] xat := fun _ _ _ _ H Q I h => Calls.spliced_nil ⟨[], H, I, .nil, h⟩
theorem xa (ha : PE X e te) (hr : PA X es t) (hs : starEach (e :: es) X.env = (false, eval e X.env) :: starEach es X.env := by rfl) : PA X (e :: es) (xf9 te t) := by
  intro pos pins s σ H Q I h
  rw [hs]
  show wpAny _ _ (spliced ((false, eval e X.env) :: backTo pos (starEach es X.env))) _ _ s
  refine Calls.spliced_cons (thn (ha pins s σ H _ I h) fun u s1 ⟨x, H1, I1, r1, q1⟩ => ?_)
  exact thn (hr pos pins s1 σ H1 _ I1 q1) fun us s2 ⟨xs, H2, I2, r2, q2⟩ => ⟨x :: xs, H2, I2, .cons r1 r2, q2⟩
def xqa (t : TA) : TE := fun σ H Q => t σ H fun xs H1 => xs.length ≤ sizeLine ∧ ∀ p, H1 p = none → Q (.ref p) (upd H1 p (.tup xs))
def xqb (t : TA) : TE := fun σ H Q => t σ H fun xs H1 => xs.length ≤ sizeLine ∧ ∀ p, H1 p = none → Q (.ref p) (upd H1 p (.lst xs))
theorem uG {x1} (h : PA X es t) : PE X (.Tuple es x1 pos) (xqa t) := by
  intro pins s σ H Q I hq
  refine wpAny_Tuple_spliced (thn (h pos pins s σ H _ I hq) fun us s1 ⟨xs, H1, I1, r, z, q⟩ => ⟨by rw [← r.length]; exact z, ?_⟩)
  have hf : H1 s1.heap.objs.size = none := I1.hok.fresh (Nat.le_refl _)
  refine ⟨.ref s1.heap.objs.size, upd H1 s1.heap.objs.size (.tup xs), I1.laid (t' := s1.toks) (fun b u e => Heap.get?_push_of_some _ e) (Nat.le_refl _) ?_, rfl, q _ hf⟩
  exact ⟨z, us, r, ⟨_, Heap.get?_push_size _ rfl, rfl, _, rfl⟩⟩
theorem zk (h : PA X es t) : PE X (.List es pos) (xqb t) := by
  intro pins s σ H Q I hq
  refine wpAny_List_spliced (thn (h pos pins s σ H _ I hq) fun us s1 ⟨xs, H1, I1, r, z, q⟩ => ⟨by rw [← r.length]; exact z, ?_⟩)
  have hf : H1 s1.heap.objs.size = none := I1.hok.fresh (Nat.le_refl _)
  refine ⟨.ref s1.heap.objs.size, upd H1 s1.heap.objs.size (.lst xs), I1.laid (t' := s1.toks) (fun b u e => Heap.get?_push_of_some _ e) (Nat.le_refl _) ?_, rfl, q _ hf⟩
  exact ⟨z, us, 0, r, Heap.get?_push_size _ rfl⟩
end
abbrev Sp := List V → Hp → VK → XK → Prop
abbrev CXT := List Env → Hp → Shared → XK → Value → Shared → Prop
structure xds (P : Program) (w : World) (K : PySem.W.Frag) (mg : Str → Option Value) (base : Heap) (A : Around) (outer : List Env) (s : Shared) (H : Hp) : Prop where
  frames : A.frames = some outer
  mod : Mod K mg base
  bs : ∀ b o, base.get? b = some o → s.heap.get? b = some o ∧ H b = none
  bsz : base.objs.size ≤ s.heap.objs.size
  funs : s.heap.FunFrames base outer
  frf : ∀ b ∈ frs outer, H b = none
  hok : HOk P w H s.heap
  bare : AllBare s.gens
def CE (outer : List Env) (P : Program) (w : World) (H : Hp) (s : Shared) (Q : VK) (u : Value) (s' : Shared) : Prop :=
  ∃ v H', s'.os = s.os ∧ AllBare s'.gens ∧ Un (frs outer) [] H H' s.heap s'.heap ∧ HOk P w H' s'.heap ∧ RelV v u ∧ Q v H'
def CR (CX : CXT) (outer : List Env) (P : Program) (w : World) (H : Hp) (s : Shared) (Q : VK) (E : XK) (r : Result) (s' : Shared) : Prop :=
  match r with
  | .ok (.ret u) => CE outer P w H s Q u s'
  | .ok _ => False
  | .error e => CX outer H s E e s'
structure xA (P : Program) (w : World) (K : PySem.W.Frag) (mg : Str → Option Value) (base : Heap) (CX : CXT) (k : Nat) (f : Addr) (fd : FuncData) (ps : List Str) (sp : Sp) : Prop where
  len : ∀ vs H Q E, sp vs H Q E → vs.length = ps.length
  run : ∀ (A : Around) (outer : List Env) (s : Shared) (H : Hp) (args : Args) (us : List Value) (vs : List V) (Q : VK) (E : XK), xX k A → xds P w K mg base A outer s H → BindsTo s fd args (ps.zip us) → Vals vs us → sp vs H Q E →
    codeAny (model P w) A (.call (.ref f) args) (CR CX outer P w H s Q E) s
theorem xds.make {P : Program} {w : World} {K : PySem.W.Frag} {mg : Str → Option Value} {base : Heap} {A : Around} {outer : List Env} {s : Shared} {H : Hp} (e : xds P w K mg base A outer s H) (C : Addr) (us : List Value) (kw : List (Str × Value)) :
    xds P w K mg base (A.under (.builtin "type.__call__" ⟨.ref C :: us, kw⟩)) outer s H := ⟨by first | exact e.frames | (simpa [Around.under, Code.envs, Code.isFrame, pushEnvs] using e.frames), e.mod, e.bs, e.bsz, e.funs, e.frf, e.hok, e.bare⟩
section
variable {X : Cx} {pins : List (Addr × Obj)} {σ : St} {H : Hp} {s s' : Shared}
theorem Inv.env0 (I : Inv X pins σ H s) : xds X.prog X.w X.K X.mg X.base X.A X.stack s H :=
  ⟨I.ok.frames, I.ok.mod, I.bs, Nat.le_trans I.ok.bsz I.sz, I.stack, I.stkFree, I.hok, I.bare⟩
theorem Inv.after {Q : VK} {u : Value} (I : Inv X pins σ H s) (h : CE X.stack X.prog X.w H s Q u s') : EP X pins σ Q u s' := by
  obtain ⟨v, H', os, bare, un, hok, r, q⟩ := h
  obtain ⟨hh, g, d, t, os'⟩ := s'
  obtain rfl : os' = s.os := os
  exact ⟨v, H', I.call (h' := hh) (g' := g) (d' := d) (t' := t) (ch := []) un hok bare (fun b z => absurd z (by simp)), r, q⟩
end
def xeS (sp : Sp) (dvs : List V) (E : XK) (t : TA) : TE := fun σ H Q => t σ H fun vs H1 => sp (vs ++ dvs) H1 Q E
def zZ (C : Addr) (m : Str) (sp : Sp) (dvs : List V) (E : XK) (ta : TE) (t : TA) : TE := fun σ H Q => ta σ H fun x H1 => ∃ a dx fs, x = .ref a ∧ H1 a = some (.ins C dx fs) ∧ fs.lookup m = none ∧
  t σ H1 fun vs H2 => sp (x :: (vs ++ dvs)) H2 Q E
def xpB (C : Addr) (sp : Sp) (dvs : List V) (E : XK) (t : TA) : TE := fun σ H Q => t σ H fun vs H1 => ∀ x dx, H1 x = none → H1 dx = none → dx ≠ x →
  sp (.ref x :: (vs ++ dvs)) (upd (upd H1 dx (.own x)) x (.ins C dx [])) (fun v H2 => v = .non ∧ Q (.ref x) H2) E
def Binds (K : PySem.W.Frag) (fd : FuncData) (ps : List Str) (ds : List Value) : Prop :=
  ∀ (s : Shared) (us : List Value), K.In s.heap → (us ++ ds).length = ps.length → BindsTo s fd ⟨us, []⟩ (ps.zip (us ++ ds))
theorem Binds.all {K : PySem.W.Frag} {fd : FuncData} {ps : List Str} (h : ∀ us : List Value, us.length = ps.length → bindArgs fd ⟨us, []⟩ = pure (ps.zip us)) : Binds K fd ps [] := fun s us _ hl => by
  rw [List.append_nil] at hl ⊢
  exact .of_eq (h us hl)
def Passes (CX : CXT) (X : Cx) (E : XK) : Prop := ∀ (pins : List (Addr × Obj)) (σ : St) (H : Hp) (s : Shared) (e : Value) (s' : Shared), Inv X pins σ H s → CX X.stack H s E e s' → X.xe e s'
section
variable {X : Cx} {CX : CXT} {k : Nat} {f C : Addr} {fd : FuncData} {ps : List Str} {sp : Sp} {dvs : List V} {ds : List Value} {E : XK} {x m : Str} {p pos apos : Pos} {e o : Expr} {es : List Expr} {ta : TE} {t : TA}
theorem xga {pins : List (Addr × Obj)} {σ : St} {H : Hp} {s : Shared} {Q : VK} {us : List Value} {vs : List V} (F : xA X.prog X.w X.K X.mg X.base CX k f fd ps sp) (hr : xX k X.A) (hb : Binds X.K fd ps ds) (hd : Vals dvs ds) (hx : Passes CX X E)
    (I : Inv X pins σ H s) (r : Vals vs us) (h : sp (vs ++ dvs) H Q E) : wpAny (model X.prog X.w) X.A (call (.ref f) us) (EP X pins σ Q) X.xe s := by
  have r2 : Vals (vs ++ dvs) (us ++ ds) := r.append hd
  have hl : (us ++ ds).length = ps.length := by rw [← r2.length]; exact F.len _ _ _ _ h
  refine wpAny_call (codeAny_mono (F.run X.A X.stack s H ⟨us, []⟩ (us ++ ds) (vs ++ dvs) Q E hr I.env0 (hb s us I.kIn hl) r2 h) fun r s' hq => ?_)
  cases r with
  | error e => exact hx pins σ H s e s' I hq
  | ok fl =>
    cases fl with
    | ret u => exact I.after hq
    | next => exact False.elim hq
    | brk => exact False.elim hq
    | cont => exact False.elim hq
theorem xv (F : xA X.prog X.w X.K X.mg X.base CX k f fd ps sp) (hr : xX k X.A) (hg : Gl X x) (hm : X.mg x = some (.ref f)) (hk : PySem.W.keepIn X.K (.ref f) = true) (hb : Binds X.K fd ps ds) (hd : Vals dvs ds) (hx : Passes CX X E)
    (ha : PA X (e :: es) t) (hdb : (x == ("__debug__" : Str)) = false := by decide) (he : starEach (e :: es) X.env = (false, eval e X.env) :: starEach es X.env := by rfl) (hpl : (backTo pos (starEach es X.env)).any (·.1) = false := by rfl) :
    PE X (.Call (.Name x p) (e :: es) [] pos) (xeS sp dvs E t) := by
  intro pins s σ H Q I h
  refine wpAny_Call_Name_kw (xaW I hg hm ?_ hdb)
  refine PySem.W.callWith_K (h₀ := X.base) I.ok.mod.kin hk (thn (ha pos pins s σ H _ I h) fun us s1 ⟨vs, H1, I1, r, q⟩ => ⟨I1.kIn, ?_⟩) he hpl
  exact xga F hr hb hd hx I1 r q
theorem xaf {pl : Sem Bool} (he : PE X o ta) (c : Cls X.K C) (hm : Meth X.K C m f) (F : xA X.prog X.w X.K X.mg X.base CX k f fd ps sp) (hr : xX k X.A) (hb : Binds X.K fd ps ds) (hd : Vals dvs ds) (hx : Passes CX X E) (ha : PA X (e :: es) t)
    (hst : starEach (e :: es) X.env = (false, eval e X.env) :: starEach es X.env := by rfl) (hpl : (backTo pos (starEach es X.env)).any (·.1) = false := by rfl)
    (ht : eval (.Call (.Attribute o m apos) (e :: es) [] pos) X.env = (do
      let ov ← eval o X.env
      standAt apos.atName
      let (f, first) ← holding [ov] (getMethod ov m pl)
      callWith pos f first (backTo pos (starEach (e :: es) X.env)) (backToKw pos (keywordEach [] X.env))) := by rfl) :
    PE X (.Call (.Attribute o m apos) (e :: es) [] pos) (zZ C m sp dvs E ta t) := by
  intro pins s σ H Q I h
  refine PySem.W.methodCall_KW (pl := pl) (thn (he pins s σ H _ I h) fun u s1 ⟨x, H1, I1, rx, a, dx, fs, ex, ea, l, q⟩ => ?_) ht
  subst ex
  obtain rfl : u = Value.ref a := rx
  refine xdr I1 ea c hm l ?_
  refine PySem.W.callWith_K (first := [.ref a]) (h₀ := X.base) I.ok.mod.kin hm.kp (thn (ha pos pins s1 σ H1 _ I1 q) fun us s2 ⟨vs, H2, I2, r, q2⟩ => ⟨I2.kIn, ?_⟩) hst hpl
  exact xga (us := .ref a :: us) (vs := .ref a :: vs) F hr hb hd hx I2 (.cons rfl r) q2
theorem xT {pl : Sem Bool} (he : PE X o ta) (c : Cls X.K C) (hm : Meth X.K C m f) (F : xA X.prog X.w X.K X.mg X.base CX k f fd ps sp) (hr : xX k X.A) (hb : Binds X.K fd ps ds) (hd : Vals dvs ds) (hx : Passes CX X E)
    (ht : eval (.Call (.Attribute o m apos) [] [] pos) X.env = (do
      let ov ← eval o X.env
      standAt apos.atName
      let (f, first) ← holding [ov] (getMethod ov m pl)
      callWith pos f first (backTo pos (starEach [] X.env)) (backToKw pos (keywordEach [] X.env))) := by rfl) :
    PE X (.Call (.Attribute o m apos) [] [] pos) (zZ C m sp dvs E ta xat) := by
  intro pins s σ H Q I h
  refine PySem.W.methodCall_KW (pl := pl) (thn (he pins s σ H _ I h) fun u s1 ⟨x, H1, I1, rx, a, dx, fs, ex, ea, l, q⟩ => ?_) ht
  subst ex
  obtain rfl : u = Value.ref a := rx
  refine xdr I1 ea c hm l ?_
  exact PySem.W.callWith_K0 (first := [.ref a]) I1.kIn hm.kp (xga (us := [.ref a]) (vs := [.ref a]) F hr hb hd hx I1 (.cons rfl .nil) q)
structure Mk (K : PySem.W.Frag) (C f : Addr) : Prop where
  makes : PySem.W.makesIn K C = true
  init : PySem.W.findIn K (.ref C) "__init__" = some (some (.ref f))
  fn : PySem.W.isFn K (.ref f) = true
  kp : PySem.W.keepIn K (.ref C) = true
theorem xmo {pins : List (Addr × Obj)} {σ : St} {H : Hp} {s : Shared} {Q : VK} {us : List Value} {vs : List V} (M : Mk X.K C f) (F : xA X.prog X.w X.K X.mg X.base CX k f fd ps sp) (hr : xX (k + 1) X.A) (hb : Binds X.K fd ps ds) (hd : Vals dvs ds)
    (hx : Passes CX X E) (I : Inv X pins σ H s) (r : Vals vs us)
    (h : ∀ x dx, H x = none → H dx = none → dx ≠ x → sp (.ref x :: (vs ++ dvs)) (upd (upd H dx (.own x)) x (.ins C dx [])) (fun v H2 => v = .non ∧ Q (.ref x) H2) E) :
    wpAny (model X.prog X.w) X.A (call (.ref C) us) (EP X pins σ Q) X.xe s := by
  have hq := h (s.heap.objs.size + 1) s.heap.objs.size (I.hok.fresh (Nat.le_succ _)) (I.hok.fresh (Nat.le_refl _)) (Nat.ne_of_lt (Nat.lt_succ_self _))
  have I2 := Inv.made (C := C) I
  have r2 : Vals (V.ref (s.heap.objs.size + 1) :: (vs ++ dvs)) (Value.ref (s.heap.objs.size + 1) :: (us ++ ds)) := .cons rfl (r.append hd)
  have hl : (Value.ref (s.heap.objs.size + 1) :: us ++ ds).length = ps.length := by
    have e := r2.length
    rw [F.len _ _ _ _ hq] at e
    exact e.symm
  refine wpAny_call (xmn (f := f) I.kIn M.makes M.init (beq_iff_eq.mp M.fn) (codeAny_mono (F.run _ X.stack _ _ ⟨Value.ref (s.heap.objs.size + 1) :: us, []⟩ (Value.ref (s.heap.objs.size + 1) :: (us ++ ds)) _ _ E (hr.make C us [])
    (I2.env0.make C us []) (hb _ (Value.ref (s.heap.objs.size + 1) :: us) I2.kIn hl) r2 hq) fun r s' hq' => ?_))
  cases r with
  | error e => exact hx pins σ _ _ e s' I2 hq'
  | ok fl =>
    cases fl with
    | ret u =>
      obtain ⟨v, H', I3, rv, ev, q3⟩ := I2.after hq'
      subst ev
      exact ⟨rv, ⟨V.ref (s.heap.objs.size + 1), H', I3, rfl, q3⟩⟩
    | next => exact False.elim hq'
    | brk => exact False.elim hq'
    | cont => exact False.elim hq'
theorem xeT (M : Mk X.K C f) (F : xA X.prog X.w X.K X.mg X.base CX k f fd ps sp) (hr : xX (k + 1) X.A) (hg : Gl X x) (hm : X.mg x = some (.ref C)) (hb : Binds X.K fd ps ds) (hd : Vals dvs ds) (hx : Passes CX X E)
    (ha : PA X (e :: es) t) (hdb : (x == ("__debug__" : Str)) = false := by decide) (he : starEach (e :: es) X.env = (false, eval e X.env) :: starEach es X.env := by rfl) (hpl : (backTo pos (starEach es X.env)).any (·.1) = false := by rfl) :
    PE X (.Call (.Name x p) (e :: es) [] pos) (xpB C sp dvs E t) := by
  intro pins s σ H Q I h
  refine wpAny_Call_Name_kw (xaW I hg hm ?_ hdb)
  refine PySem.W.callWith_K (h₀ := X.base) I.ok.mod.kin M.kp (thn (ha pos pins s σ H _ I h) fun us s1 ⟨vs, H1, I1, r, q⟩ => ⟨I1.kIn, ?_⟩) he hpl
  exact xmo M F hr hb hd hx I1 r q
end
section
variable {X : Cx} {CX : CXT} {k : Nat} {f C : Addr} {fd : FuncData} {ps ks : List Str} {sp : Sp} {E : XK} {x m : Str} {p pos apos kpos : Pos} {e o : Expr} {es : List Expr} {kws : List Keyword} {te ta : TE} {t tk : TA} {nm : Option Str}
variable {g : List Value → List Value → List Value} {gV : List V → List V → List V}
end
structure xt (N P : List Str) (sc : Scope) : Prop where
  kind : sc.kind = .function
  co : sc.isCoroutine = false
  gen : sc.isGenerator = false
  nd : N.Nodup
  pre : N.take P.length = P
  par : ∀ x ∈ P, sc.names.lookup x = some .local ∨ sc.names.lookup x = some .cell
  nofree : ∀ y ∈ sc.names, y.2 ≠ .free
theorem xhl {kindOf : Str → Option NameKind} {x : Str} : ∀ {binds : List (Str × Value)} {m : Str → Option Value}, (∀ v, (x, v) ∉ binds) → bindL kindOf binds m x = m x
  | [], _, _ => rfl
  | (n, v) :: r, m, h => by
    unfold bindL
    rw [xhl fun w hw => h w (List.mem_cons_of_mem _ hw)]
    split
    · have : x ≠ n := by rintro rfl; exact h v List.mem_cons_self
      simp [this]
    · rfl
theorem xhm {kindOf : Str → Option NameKind} {x : Str} : ∀ {binds : List (Str × Value)} {m : Str → Option Value}, (∀ v, (x, v) ∉ binds) → bindC kindOf binds m x = m x
  | [], _, _ => rfl
  | (n, v) :: r, m, h => by
    unfold bindC
    rw [xhm fun w hw => h w (List.mem_cons_of_mem _ hw)]
    split
    · rfl
    · have : x ≠ n := by rintro rfl; exact h v List.mem_cons_self
      simp [this]
theorem xhn {kindOf : Str → Option NameKind} {x : Str} {v : Value} : ∀ {P : List Str} {vs : List Value} {i : Nat} {m : Str → Option Value}, P.Nodup → P[i]? = some x → vs[i]? = some v → kindOf x = some .local →
    bindL kindOf (P.zip vs) m x = some v
  | [], _, _, _, _, h, _, _ => by simp at h
  | _ :: _, [], _, _, _, _, h, _ => by simp at h
  | p :: P, w :: vs, 0, m, nd, h1, h2, hk => by
    simp at h1 h2; subst h1; subst h2
    show bindL kindOf ((p, w) :: P.zip vs) m p = _
    unfold bindL
    rw [xhl fun v hv => (List.nodup_cons.mp nd).1 (List.of_mem_zip hv).1, if_pos hk]
    simp
  | p :: P, w :: vs, i + 1, m, nd, h1, h2, hk => by
    show bindL kindOf ((p, w) :: P.zip vs) m x = _
    unfold bindL
    exact xhn (i := i) (List.nodup_cons.mp nd).2 (by simpa using h1) (by simpa using h2) hk
theorem xho {kindOf : Str → Option NameKind} {x : Str} {v : Value} : ∀ {P : List Str} {vs : List Value} {i : Nat} {m : Str → Option Value}, P.Nodup → P[i]? = some x → vs[i]? = some v → kindOf x ≠ some .local →
    bindC kindOf (P.zip vs) m x = some v
  | [], _, _, _, _, h, _, _ => by simp at h
  | _ :: _, [], _, _, _, _, h, _ => by simp at h
  | p :: P, w :: vs, 0, m, nd, h1, h2, hk => by
    simp at h1 h2; subst h1; subst h2
    show bindC kindOf ((p, w) :: P.zip vs) m p = _
    unfold bindC
    rw [xhm fun v hv => (List.nodup_cons.mp nd).1 (List.of_mem_zip hv).1, if_neg hk]
    simp
  | p :: P, w :: vs, i + 1, m, nd, h1, h2, hk => by
    show bindC kindOf ((p, w) :: P.zip vs) m x = _
    unfold bindC
    exact xho (i := i) (List.nodup_cons.mp nd).2 (by simpa using h1) (by simpa using h2) hk
def start (N : List Str) (vs : List V) : St := vs.map some ++ List.replicate (N.length - vs.length) none
def xaZ (CX : CXT) (P : Program) (w : World) (K : PySem.W.Frag) (mg : Str → Option Value) (base : Heap) (N : List Str) (qual : Str) (scope : Scope) (f : Addr) (cd : Value) (A : Around) (outer : List Env) (s : Shared) (H : Hp) (E : XK) : Cx where
  prog := P
  w := w
  K := K
  mg := mg
  base := base
  A := A.deeper (envOfC qual scope s.heap.objs.size f cd)
  N := N
  s₀ := s
  H₀ := H
  env := envOfC qual scope s.heap.objs.size f cd
  outer := outer
  stack := envOfC qual scope s.heap.objs.size f cd :: outer
  ex := []
  calm := true
  cp := fun _ => true
  fn := fun _ => true
  pn := []
  xe := fun e s' => wpAny (model P w) (A.deeper (envOfC qual scope s.heap.objs.size f cd)) (leaving (envOfC qual scope s.heap.objs.size f cd) e) (fun _ s'' => CX outer H s E e s'') (fun e' s'' => CX outer H s E e' s'') s'
theorem xig {sc : Scope} {n : Nat} {x : Str} (h : sc.names.lookup x = some .cell) : ∃ c, (cellsFrom n sc.names []).lookup x = some c := by
  have q := PySem.W.cellsFrom_some sc.names n [] (.inl h)
  exact Option.isSome_iff_exists.mp q
theorem xef {CX : CXT} {P : Program} {w : World} {K : PySem.W.Frag} {mg : Str → Option Value} {base : Heap} {N ps : List Str} {qual : Str} {scope : Scope} {f : Addr} {cd : Value} {A : Around} {outer : List Env} {s s1 : Shared} {H : Hp} {E : XK} {us : List Value} {vs : List V}
    (S : xt N ps scope) (hd : A.handled = none) (e0 : xds P w K mg base A outer s H) (hl : vs.length = ps.length) (r : Vals vs us)
    (x : InCallC s s.heap.objs.size (bindL (envOfC qual scope s.heap.objs.size f cd).kindOf (ps.zip us) fun _ => none) (cellsFrom (s.heap.objs.size + 1) scope.names []) (bindC (envOfC qual scope s.heap.objs.size f cd).kindOf (ps.zip us) fun _ => none) s1) :
    Inv (xaZ CX P w K mg base N qual scope f cd A outer s H E) [] (start N vs) H s1 := by
  have hpl : ps.length ≤ N.length := by have := congrArg List.length S.pre; rw [List.length_take] at this; omega
  obtain ⟨h1, tk, rfl, hk⟩ := x.done
  have noA : ∀ b : Addr, b ∉ (xaZ CX P w K mg base N qual scope f cd A outer s H E).ex := fun b z => absurd (show b ∈ ([] : List Addr) from z) (by simp)
  refine ⟨⟨e0.mod, S.kind, rfl, rfl, Nat.le_refl _, fun y z c h1 h2 => ?_, fun y hy => ?_, fun y c _ h => ?_, fun _ => hd, Around.frames_deeper e0.frames, .inr ⟨rfl, rfl⟩, fun b z => absurd z (noA b), e0.bs, e0.bsz, fun b _ _ => noA b, fun b z => absurd z (noA b), e0.funs, e0.frf, fun y c _ h => Nat.le_of_lt (x.above y c (PySem.mem_of_lookup h)), fun b hb => e0.hok.fresh hb⟩,
    rfl, e0.bare, Un.kept hk, ⟨_, x.toInCall.ns, fun i y v h1 h2 h3 => ?_⟩, fun y c h => ⟨_, x.cell y c h⟩, e0.hok.fresh (Nat.le_refl _), fun y c h => .inl ?_, fun p hp => absurd (show p ∈ ([] : List (Addr × Obj)) from hp) (by simp), e0.hok.kept hk, ?_⟩
  · exact name_of_addr x.apart (PySem.mem_of_lookup h1) (PySem.mem_of_lookup h2)
  · have hy : scope.names.lookup y = some .cell ∨ scope.names.lookup y = some .free := hy
    rcases hy with hy | hy
    · exact xig hy
    · exact absurd rfl (S.nofree _ (PySem.mem_of_lookup hy))
  · exact Nat.le_of_lt (x.above y c (PySem.mem_of_lookup h))
  · have hi : i < vs.length := by
      unfold start at h2
      by_cases hi : i < vs.length
      · exact hi
      · rw [List.getElem?_append_right (by simpa using hi)] at h2
        rw [List.getElem?_replicate] at h2
        split at h2 <;> cases h2
    have ha : vs[i]? = some v := by
      unfold start at h2
      rw [List.getElem?_append_left (by simpa using hi), List.getElem?_map] at h2
      cases e : vs[i]? with
      | none => rw [e] at h2; cases h2
      | some a => rw [e] at h2; cases h2; rfl
    obtain ⟨u, hu, rv⟩ := r.get ha
    have hp : ps[i]? = some y := by
      rw [← S.pre, List.getElem?_take_of_lt (by omega)]; exact h1
    have ndP : ps.Nodup := by rw [← S.pre]; exact S.nd.sublist (List.take_sublist _ _)
    refine ⟨u, rv, ?_⟩
    rcases S.par y (List.mem_of_getElem? hp) with k | k
    · exact .inl ⟨k, xhn ndP hp hu k⟩
    · obtain ⟨c, e⟩ := xig (n := s.heap.objs.size + 1) k
      refine .inr ⟨.inl k, c, e, ?_⟩
      have q := x.cell y c e
      rw [xho ndP hp hu (by show scope.names.lookup y ≠ _; rw [k]; decide)] at q
      exact q
  · exact e0.hok.fresh (Nat.le_of_lt (x.above y c (PySem.mem_of_lookup h)))
  · unfold start
    show _ = N.length
    rw [List.length_append, List.length_map, List.length_replicate]
    omega
theorem xh9 {CX : CXT} {P : Program} {w : World} {K : PySem.W.Frag} {mg : Str → Option Value} {base : Heap} {k : Nat} {f : Addr} {name qual : Str} {params : Arguments} {body : List Stmt} {scope : Scope} {dV kV doc pm cdv ct oc : Value} {an od : Option Addr}
    {osl : Array (Option Value)} {N ps : List Str} {sp : Sp} (lk : K.lookup f = some ⟨oc, od, .func (PySem.W.fnOf name qual params body scope dV kV doc pm an cdv ct), osl⟩) (hcd : PySem.W.codeIn K cdv qual = true) (S : xt N ps scope)
    (len : ∀ vs H Q E, sp vs H Q E → vs.length = ps.length)
    (hbody : ∀ (A : Around) (outer : List Env) (s : Shared) (H : Hp) (vs : List V) (Q : VK) (E : XK), xX k (A.deeper (envOfC qual scope s.heap.objs.size f cdv)) → sp vs H Q E →
      ∃ t, PSs (xaZ CX P w K mg base N qual scope f cdv A outer s H E) body t ∧ t { nx := fun _ H' => Q .non H', rt := Q } (start N vs) H) :
    xA P w K mg base CX (k + 1) f (PySem.W.fnOf name qual params body scope dV kV doc pm an cdv ct) ps sp := by
  refine ⟨len, fun A outer s H args us vs Q E hr e0 hb r hsp => ?_⟩
  have hl := len _ _ _ _ hsp
  have KX : K.In s.heap := e0.mod.kin.keeps fun b o e => (e0.bs b o e).1
  have lim : s.heap.NoLimit := e0.mod.nolimit.keeps fun b o e => (e0.bs b o e).1
  have hkind : ∀ y ∈ ps.zip us, scope.names.lookup y.1 = some .local ∨ (scope.names.lookup y.1 = some .cell ∧ ((cellsFrom (s.heap.objs.size + 1) scope.names []).lookup y.1).isSome = true) := fun ⟨n, v⟩ hy => by
    rcases S.par n (List.of_mem_zip hy).1 with q | q
    · exact .inl q
    · exact .inr ⟨q, PySem.W.cellsFrom_some _ _ _ (.inl q)⟩
  refine codeAny_call_function hr.depth (KX _ _ lk) rfl S.co S.gen rfl (PySem.W.codeRec_of KX hcd) (hb _ _ _ _ ?_)
  refine wpAny_newFunctionEnv_cells S.kind hkind fun env he s1 x => ?_
  subst he
  refine ⟨lim.keeps x.toInCall.keep, codeAny_func ?_⟩
  obtain ⟨t, ht, hq⟩ := hbody A outer s H vs Q E (hr.deeper _) hsp
  have I : Inv (xaZ CX P w K mg base N qual scope f cdv A outer s H E) [] (start N vs) H s1 := xef S hr.hd e0 hl r x
  refine wpAny_mono (ht [] s1 (start N vs) H _ I hq) (fun fl s' hs => ?_) fun e s' hs => hs
  have fin : ∀ {σ' : St} {H' : Hp} {v : V} {u : Value}, Inv (xaZ CX P w K mg base N qual scope f cdv A outer s H E) [] σ' H' s' → RelV v u → Q v H' → CE outer P w H s Q u s' :=
    fun {σ' H' v u} J rv q => ⟨v, H', J.os, J.bare, J.base, J.hok, rv, q⟩
  cases fl with
  | ret u =>
    obtain ⟨v, σ', H', J, rv, q⟩ := hs
    exact fin J rv q
  | next =>
    obtain ⟨σ', H', J, q⟩ := hs
    exact fin (v := V.non) (u := Value.none) J rfl q
  | brk =>
    obtain ⟨_, _, _, q⟩ := hs
    exact False.elim q
  | cont =>
    obtain ⟨_, _, _, q⟩ := hs
    exact False.elim q
end L2
namespace L2
open PySem PySem.Spec PyProof.Rows
section
variable {X : Cx} {x : Str} {p pos : Pos} {e : Expr} {es : List Expr} {t : TA} {id T : String} {r : List V → Hp → VK → Prop}
def tCB (r : List V → Hp → VK → Prop) (t : TA) : TE := fun σ H Q => t σ H fun vs H1 => r vs H1 Q
theorem xE (hc : zp X (.builtin id) r) (hg : Gl X x) (hm : X.mg x = none) (hv : bootBuiltins x = some (.builtin id)) (ha : PA X (e :: es) t) (hn : x ≠ "__name__" := by decide) (hdb : (x == ("__debug__" : Str)) = false := by decide)
    (he : starEach (e :: es) X.env = (false, eval e X.env) :: starEach es X.env := by rfl) (hpl : (backTo pos (starEach es X.env)).any (·.1) = false := by rfl) : PE X (.Call (.Name x p) (e :: es) [] pos) (tCB r t) := by
  intro pins s σ H Q I h
  refine wpAny_Call_Name_kw (vR I hg hm hv ?_ hn hdb)
  exact PyProof.Rows.callWith_builtin1 (thn (ha pos pins s σ H _ I h) fun us s1 ⟨vs, H1, I1, r1, q1⟩ => hc pins s1 σ H1 vs us Q I1 r1 q1) he hpl
theorem zl (hc : zp X (.type T) r) (hg : Gl X x) (hm : X.mg x = none) (hv : bootBuiltins x = some (.type T)) (ha : PA X (e :: es) t) (hn : x ≠ "__name__" := by decide) (hdb : (x == ("__debug__" : Str)) = false := by decide)
    (he : starEach (e :: es) X.env = (false, eval e X.env) :: starEach es X.env := by rfl) (hpl : (backTo pos (starEach es X.env)).any (·.1) = false := by rfl) : PE X (.Call (.Name x p) (e :: es) [] pos) (tCB r t) := by
  intro pins s σ H Q I h
  refine wpAny_Call_Name_kw (vR I hg hm hv ?_ hn hdb)
  exact PyProof.Rows.callWith_type1 (thn (ha pos pins s σ H _ I h) fun us s1 ⟨vs, H1, I1, r1, q1⟩ => hc pins s1 σ H1 vs us Q I1 r1 q1) he hpl
end
end L2
namespace HT
open PySem PyProof.Rows
def lexLt : List Int → List Int → Bool
  | [], [] => false
  | [], _ :: _ => true
  | _ :: _, [] => false
  | x :: xs, y :: ys => if x = y then lexLt xs ys else decide (x < y)
theorem uV (x y : Int) (xs ys : List Int) : lexLt (x :: xs) (y :: ys) = if x = y then lexLt xs ys else decide (x < y) := rfl
theorem xhL : lexLt [] [] = false := rfl
section
open PySem.SeqAt
open PySem.AutoSeq1 (wpAny_loadPart')
open PySem.MeetsSeq PySem.MeetsSeq2 PySem.MeetsSeq3
end
section
variable {prog : Program} {w : World} {A : Around} {E : Value → Shared → Prop} {s : Shared}
def sIx (n d : Nat) : Option Int → Nat
  | none => d
  | some v => if v < 0 then (v + (n : Int)).toNat else min v.toNat n
theorem xfM (n d : Nat) : sIx n d none = d := rfl
end
end HT
namespace L2
open PySem PySem.Spec PyProof.Rows
abbrev TO := St → Hp → (Option Int → Hp → Prop) → Prop
def PO (X : Cx) (e : Option Expr) (t : TO) : Prop :=
  ∀ (pins : List (Addr × Obj)) (s : Shared) (σ : St) (H : Hp) (Q : Option Int → Hp → Prop), Inv X pins σ H s → t σ H Q →
    wpAny (model X.prog X.w) X.A (evalPart e X.env) (fun u s' => ∃ o H', Inv X pins σ H' s' ∧ IsPart u o ∧ Q o H') X.xe s
def xnK : TO := fun _ H Q => Q none H
def xpC (t : TE) : TO := fun σ H Q => t σ H fun x H1 => ∃ i, x = .int i ∧ Q (some i) H1
theorem intsAre_of {ns : List Int} : ∀ {us : List Value}, Vals (ns.map V.int) us → IntsAre us ns := by
  induction ns with
  | nil => intro us r; rw [List.map_nil] at r; cases r; exact .nil
  | cons n ns ih =>
    intro us r
    rw [List.map_cons] at r
    cases r with
    | cons r1 r2 =>
      obtain ⟨t, e⟩ := r1
      subst e
      exact .cons n t (ih r2)
section
variable {X : Cx} {e : Expr} {te : TE} {lo hi : Option Expr} {tl th : TO} {pos p2 : Pos}
theorem xeU : PO X none xnK := by
  intro pins s σ H Q I h
  rw [evalPart_none]
  exact wpAny_pure ⟨none, H, I, .none, h⟩
theorem xbZ (h : PE X e te) : PO X (some e) (xpC te) := by
  intro pins s σ H Q I hw
  rw [evalPart_some]
  refine thn (h pins s σ H _ I hw) fun u s1 ⟨x, H1, I1, r1, q1⟩ => ?_
  obtain ⟨i, rfl, q⟩ := q1
  obtain ⟨t, rfl⟩ := r1
  exact ⟨some i, H1, I1, .int i t, q⟩
def SlR (X : Cx) (r : V → Option Int → Option Int → Hp → VK → Prop) : Prop :=
  ∀ (pins : List (Addr × Obj)) (s : Shared) (σ : St) (H : Hp) (x : V) (v vl vu : Value) (lo hi : Option Int) (sl : Addr) (Q : VK), Inv X pins σ H s → RelV x v → s.heap.IsSliceOf sl vl vu .none → IsPart vl lo → IsPart vu hi → r x lo hi H Q →
    ∃ T id, typeLookup (.type T) "__getitem__" = pure (some (.builtin id)) ∧ s.TypeIs v T ∧ wpAny (model X.prog X.w) X.A (getItem v (.ref sl)) (EP X pins σ Q) X.xe s
def tSl (r : V → Option Int → Option Int → Hp → VK → Prop) (te : TE) (tl th : TO) : TE := fun σ H Q => te σ H fun x H1 => tl σ H1 fun l H2 => th σ H2 fun u H3 => r x l u H3 Q
theorem xdt {r : V → Option Int → Option Int → Hp → VK → Prop} (hr : SlR X r) (he : PE X e te) (hl : PO X lo tl) (hu : PO X hi th) : PE X (.Subscript e (.Slice lo hi none p2) pos) (tSl r te tl th) := by
  intro pins s σ H Q I h
  refine Subscript_ (thn (he pins s σ H _ I h) fun v s1 ⟨x, H1, I1, r1, q1⟩ => ?_)
  refine wpAny_Slice (thn (hl pins s1 σ H1 _ I1 q1) fun vl s2 ⟨l, H2, I2, pl, q2⟩ => thn (hu pins s2 σ H2 _ I2 q2) fun vu s3 ⟨u, H3, I3, pu, q3⟩ => ?_)
  rw [evalPart_none]
  refine wpAny_pure ?_
  have I4 : Inv X pins σ H3 { s3 with heap := s3.heap.push { cls := .type "slice", data := .fields #[vl, vu, .none] } } := I3.kept (t' := s3.toks) fun b ob q => Heap.get?_push_of_some _ q
  obtain ⟨T, id, hT, ht, hg⟩ := hr pins { s3 with heap := s3.heap.push { cls := .type "slice", data := .fields #[vl, vu, .none] } } σ H3 x v vl vu l u s3.heap.objs.size Q I4 r1 (Heap.IsSliceOf.new ..) pl pu q3
  show wpAny (model X.prog X.w) X.A (subscriptTail e (.Slice lo hi none p2) v (.ref s3.heap.objs.size)) (EP X pins σ Q) X.xe { s3 with heap := s3.heap.push { cls := .type "slice", data := .fields #[vl, vu, .none] } }
  exact tail_any (ops := [.ref s3.heap.objs.size, v]) ht hT hg (by with_unfolding_all rfl)
def xcS (xs : List V) (lo hi : Option Int) : List V := (xs.drop (HT.sIx xs.length 0 lo)).take (HT.sIx xs.length xs.length hi - HT.sIx xs.length 0 lo)
theorem xi8 (xs : List V) (lo hi : Option Int) : (xcS xs lo hi).length ≤ xs.length := by
  unfold xcS
  rw [List.length_take, List.length_drop]
  omega
end
end L2
namespace L2
open PySem PySem.Spec PyProof.Rows
def ixN (n : Nat) (i : Int) : Option Nat := if 0 ≤ i then (if i < n then some i.toNat else none) else if -(n : Int) ≤ i then some (i + n).toNat else none
def atI {α : Type} (xs : List α) (i : Int) : Option α := (ixN xs.length i).bind fun j => xs[j]?
theorem xjB {n : Nat} {i : Int} {j : Nat} (h : ixN n i = some j) : seqIndex? i n = some j ∧ j < n ∧ -(n : Int) ≤ i ∧ i < n := by
  unfold ixN at h
  by_cases h0 : 0 ≤ i
  · rw [if_pos h0] at h
    by_cases h1 : i < n
    · rw [if_pos h1] at h
      have e : i.toNat = j := Option.some.inj h
      exact ⟨by rw [seqIndex_of h0 h1, e], by omega, by omega, h1⟩
    · rw [if_neg h1] at h; cases h
  · rw [if_neg h0] at h
    by_cases h1 : -(n : Int) ≤ i
    · rw [if_pos h1] at h
      have e : (i + n).toNat = j := Option.some.inj h
      exact ⟨by rw [seqIndex_neg (by omega) h1, e], by omega, h1, by omega⟩
    · rw [if_neg h1] at h; cases h
theorem xjC {α : Type} {xs : List α} {i : Int} {v : α} (h : atI xs i = some v) : ∃ j, seqIndex? i xs.length = some j ∧ xs[j]? = some v ∧ j < xs.length ∧ -(xs.length : Int) ≤ i ∧ i < xs.length := by
  unfold atI at h
  cases e : ixN xs.length i with
  | none => rw [e] at h; cases h
  | some j =>
    rw [e] at h
    obtain ⟨h1, h2, h3, h4⟩ := xjB e
    exact ⟨j, h1, h, h2, h3, h4⟩
theorem xag {α : Type} {xs : List α} {j : Nat} {v : α} (h : xs[j]? = some v) : atI xs (j : Int) = some v := by
  have hj : j < xs.length := (List.getElem?_eq_some_iff.mp h).1
  have e : ixN xs.length (j : Int) = some j := by
    unfold ixN
    rw [if_pos (by omega), if_pos (by omega)]; simp
  unfold atI; rw [e]; exact h
theorem xmp {α : Type} (xs : List α) (v : α) : atI (xs ++ [v]) (-1) = some v := by
  have hl : (xs ++ [v]).length = xs.length + 1 := by simp
  have e : ixN (xs ++ [v]).length (-1) = some xs.length := by
    unfold ixN
    rw [hl, if_neg (by decide), if_pos (by omega)]
    congr 1
    omega
  unfold atI
  rw [e]
  show (xs ++ [v])[xs.length]? = some v
  simp
def xnL (b : Expr) : Prop := ∀ o i, subscripted b false o i = operate [o, i] (getItem o i)
def IxR (X : Cx) (r : R2) : Prop :=
  ∀ (value slice : Expr) (pins : List (Addr × Obj)) (s : Shared) (σ : St) (H : Hp) (x y : V) (v u : Value) (Q : VK), Inv X pins σ H s → RelV x v → RelV y u → r x y H Q →
    subscripted slice false v u = operate [v, u] (getItem v u) → wpAny (model X.prog X.w) X.A (subscriptTail value slice v u) (EP X pins σ Q) X.xe s
def MtR (X : Cx) (id : String) (r : V → List V → Hp → VK → Prop) : Prop :=
  ∀ (pins : List (Addr × Obj)) (s : Shared) (σ : St) (H : Hp) (x : V) (xs : List V) (v : Value) (us : List Value) (Q : VK), Inv X pins σ H s → RelV x v → Vals xs us → r x xs H Q →
    wpAny (model X.prog X.w) X.A (call (.builtin id) (v :: us)) (EP X pins σ Q) X.xe s
section
variable {X : Cx} {a b : Expr} {ta tb : TE} {pos : Pos}
theorem xy {r : R2} (hr : IxR X r) (ha : PE X a ta) (hb : PE X b tb) (hs : xnL b) : PE X (.Subscript a b pos) (tOp r ta tb) := by
  intro pins s σ H Q I h
  exact Subscript_ (xmk ha hb I h fun v u s2 x y H2 I2 rx ry q => hr a b pins s2 σ H2 x y v u Q I2 rx ry q (hs _ _))
def xoR (K : PySem.W.Frag) : R2 := fun x y H Q => ∃ p xs i v, x = .ref p ∧ y = .int i ∧ SqL K H p xs ∧ atI xs i = some v ∧ Q v H
def xoS (K : PySem.W.Frag) : R2 := fun x y H Q => ∃ p xs i v, x = .ref p ∧ y = .int i ∧ SqT K H p xs ∧ atI xs i = some v ∧ Q v H
theorem zq : IxR X (xoR X.K) := by
  intro value slice pins s σ H x y v u Q I rx ry h hs
  obtain ⟨p, xs, i, z, rfl, rfl, hq, he, q⟩ := h
  cases rx
  obtain ⟨t, rfl⟩ := ry
  obtain ⟨its, r, pl, hz⟩ := I.list hq
  obtain ⟨j, h1, h2, h3, h4, h5⟩ := xjC he
  obtain ⟨w, ew, rw'⟩ := r.get h2
  have hl := r.length
  have hn := xf8
  have fin : EP X pins σ Q w s := ⟨z, H, I, rw', q⟩
  by_cases h0 : 0 ≤ i
  · have hj : i.toNat = j := by
      rw [seqIndex_of h0 h5] at h1
      exact Option.some.inj h1
    exact item_listR pl.isList h0 (by omega) (by rw [hj]; simpa using ew) fin hs
  · have hj : (i + (its.toArray.size : Int)).toNat = j := by
      rw [seqIndex_neg (by omega) h4] at h1
      rw [List.size_toArray, ← hl]
      exact Option.some.inj h1
    exact subscriptTail_builtinR (x := w) pl.isList.typeIs slot_list_getitem.lookup
      (wpAny_getItem_list_neg (Q := fun r s' => r = w ∧ EP X pins σ Q r s') pl.isList (by omega) (by rw [List.size_toArray] <;> omega) (by omega) (by rw [hj]; simpa using ew) ⟨rfl, fin⟩) hs
theorem xD : IxR X (xoS X.K) := by
  intro value slice pins s σ H x y v u Q I rx ry h hs
  obtain ⟨p, xs, i, z, rfl, rfl, hq, he, q⟩ := h
  cases rx
  obtain ⟨t, rfl⟩ := ry
  obtain ⟨its, r, pl, hz⟩ := I.tuple hq
  obtain ⟨j, h1, h2, h3, h4, h5⟩ := xjC he
  obtain ⟨w, ew, rw'⟩ := r.get h2
  have hl := r.length
  have hn := xf8
  have fin : EP X pins σ Q w s := ⟨z, H, I, rw', q⟩
  exact subscriptTail_builtinR (x := w) pl.typeIs slot_tuple_getitem.lookup
    (getItem_tuple (j := j) (Q := fun r s' => r = w ∧ EP X pins σ Q r s') pl (by omega) (by omega) (by rw [List.size_toArray, ← hl]; exact h1) (by simpa using ew) ⟨rfl, fin⟩) hs
theorem xkl (its : List Value) (n j : Nat) (u : Value) : Obj.mapSeq (·.setIfInBounds j u) { cls := .type "list", data := .seq its.toArray n } = { cls := .type "list", data := .seq (its.set j u).toArray n } := by
  simp [Obj.mapSeq]
theorem Inv.lst {pins : List (Addr × Obj)} {σ : St} {H : Hp} {s : Shared} {p : Addr} {xs : List V} (I : Inv X pins σ H s) (h : H p = some (.lst xs)) :
    ∃ (its : List Value) (n : Nat), Vals xs its ∧ s.heap.get? p = some { cls := .type "list", data := .seq its.toArray n } ∧ xs.length ≤ sizeLine := by
  obtain ⟨z, its, n, r, e⟩ := I.hok p _ h
  exact ⟨its, n, r, e, z⟩
theorem Inv.lstUpd {pins : List (Addr × Obj)} {σ : St} {H : Hp} {s : Shared} {p : Addr} {xs ys : List V} {its its' : List Value} {n n' : Nat} {f : Obj → Obj} (I : Inv X pins σ H s) (h : H p = some (.lst xs))
    (ho : s.heap.get? p = some { cls := .type "list", data := .seq its.toArray n }) (hf : f { cls := .type "list", data := .seq its.toArray n } = { cls := .type "list", data := .seq its'.toArray n' }) (r : Vals ys its') (hz : ys.length ≤ sizeLine) (t : Nat) :
    Inv X pins σ (upd H p (.lst ys)) { s with heap := s.heap.update p f, toks := t } := by
  have e : (s.heap.update p f).get? p = some { cls := .type "list", data := .seq its'.toArray n' } := by
    rw [Heap.get?_update_self f ho (by rw [hf] <;> rfl), hf]
  refine I.write (x := p) (e := p) (by rw [h]; trivial) (.inl rfl) (fun b u hb q => (Heap.get?_update_other _ _ (Ne.symm hb)).trans q) ⟨_, e⟩ ?_
  exact ⟨hz, its', n', r, e⟩
def xpD : V → V → V → Hp → (Hp → Prop) → Prop := fun o i v H Q => ∃ p xs k j, o = .ref p ∧ i = .int k ∧ H p = some (.lst xs) ∧ ixN xs.length k = some j ∧ Q (upd H p (.lst (xs.set j v)))
theorem set_list : xoD X xpD := by
  intro pins s σ H o i v ov iv u Q I ro ri rv h
  obtain ⟨p, xs, k, j, rfl, rfl, hp, hj, q⟩ := h
  cases ro
  obtain ⟨t, rfl⟩ := ri
  obtain ⟨its, n, r, ho, hz⟩ := I.lst hp
  obtain ⟨h1, h2, h3, h4⟩ := xjB hj
  have hl := r.length
  have hn := xf8
  have I' : Inv X pins σ (upd H p (.lst (xs.set j v))) { s with heap := s.heap.update p (Obj.mapSeq (·.setIfInBounds j u)) } :=
    I.lstUpd hp ho (xkl its n j u) (r.set rv j) (by rw [List.length_set]; exact hz) s.toks
  by_cases h0 : 0 ≤ k
  · have hk : k.toNat = j := by
      rw [seqIndex_of h0 h4] at h1
      exact Option.some.inj h1
    exact PySem.W.ki_setAt ho h0 (by omega) (by rw [List.size_toArray, ← hl]; exact h4) (by rw [hk]; exact ⟨_, I', q⟩)
  · have hk : (k + (its.toArray.size : Int)).toNat = j := by
      rw [seqIndex_neg (by omega) h3] at h1
      rw [List.size_toArray, ← hl]
      exact Option.some.inj h1
    exact PySem.W.ki_setBack ho (by omega) (by rw [List.size_toArray, ← hl]; exact h3) (by omega) (by rw [hk]; exact ⟨_, I', q⟩)
theorem xih (lo hi : Option Int) (n : Nat) : (sliceBounds lo hi none n).1 = ((HT.sIx n 0 lo : Nat) : Int) ∧ (sliceBounds lo hi none n).2.1 = ((HT.sIx n n hi : Nat) : Int) ∧ (sliceBounds lo hi none n).2.2 = 1 := by
  refine ⟨?_, ?_, rfl⟩
  · cases lo with
    | none => simp [sliceBounds, HT.sIx]
    | some i =>
      simp only [sliceBounds, HT.sIx, Option.getD_none, show (1 : Int) > 0 by decide, if_true]
      by_cases h : i < 0
      · simp only [h, if_true] <;> omega
      · simp only [h, if_false] <;> omega
  · cases hi with
    | none => simp [sliceBounds, HT.sIx]
    | some i =>
      simp only [sliceBounds, HT.sIx, Option.getD_none, show (1 : Int) > 0 by decide, if_true]
      by_cases h : i < 0
      · simp only [h, if_true] <;> omega
      · simp only [h, if_false] <;> omega
theorem xhM (its : List Value) (lo hi : Option Int) : slicePick its.toArray lo hi none = ((its.drop (HT.sIx its.length 0 lo)).take (HT.sIx its.length its.length hi - HT.sIx its.length 0 lo)).toArray := by
  obtain ⟨h1, h2, h3⟩ := xih lo hi its.toArray.size
  unfold slicePick
  rw [h1, h2, h3]
  simp only [sliceRange_one, pick_run, List.size_toArray] <;> rfl
def xoT (K : PySem.W.Frag) : V → Option Int → Option Int → Hp → VK → Prop := fun x lo hi H Q => ∃ a xs, x = .ref a ∧ SqL K H a xs ∧ ∀ p, H p = none → Q (.ref p) (upd H p (.lst (xcS xs lo hi)))
theorem xc3 : SlR X (xoT X.K) := by
  intro pins s σ H x v vl vu lo hi sl Q I rx hs pl pu h
  obtain ⟨a, xs, rfl, hx, q⟩ := h
  cases rx
  obtain ⟨its, r, ht, hz⟩ := I.list hx
  have hlen := r.length
  refine ⟨"list", _, slot_list_getitem.lookup, ht.isList.typeIs, ?_⟩
  refine wpAny_getItem_list_slice ht.isList hs pl pu .none (by simp) ?_ (by rw [List.size_toArray] <;> omega)
  rw [xhM, ← hlen]
  refine ⟨.ref s.heap.objs.size, _, I.laid (t' := s.toks) (o := .lst (xcS xs lo hi)) (fun b ob q => Heap.get?_push_of_some _ q) (Nat.le_refl _) ?_, rfl, q _ (I.hok.fresh (Nat.le_refl _))⟩
  exact ⟨Nat.le_trans (xi8 xs lo hi) hz, _, 0, (r.drop (HT.sIx xs.length 0 lo)).take (HT.sIx xs.length xs.length hi - HT.sIx xs.length 0 lo), Heap.get?_push_size _ rfl⟩
theorem xG : zp X (.builtin "len") (fun xs H Q => ∃ p ys, xs = [.ref p] ∧ (SqL X.K H p ys ∨ SqT X.K H p ys) ∧ Q (.int ys.length) H) := by
  intro pins s σ H xs us Q I r h
  obtain ⟨p, ys, rfl, hq, q⟩ := h
  obtain ⟨u, rfl, rx⟩ := vals1 r
  cases rx
  have hn := xf8
  rcases hq with hq | hq
  · obtain ⟨its, r', pl, hz⟩ := I.list hq
    have hlen := r'.length
    exact Calls.call_len_list pl.isList (by simp only [List.size_toArray] <;> omega) ⟨.int ys.length, H, I.tok _, ⟨s.toks + 1, by rw [List.size_toArray, hlen]⟩, q⟩
  · obtain ⟨its, r', pl, hz⟩ := I.tuple hq
    have hlen := r'.length
    exact len_tuple pl (by simp only [List.size_toArray] <;> omega) ⟨.int ys.length, H, I.tok _, ⟨s.toks + 1, by rw [List.size_toArray, hlen]⟩, q⟩
theorem xb7 : zp X (.type "list") (fun xs H Q => ∃ p ys, xs = [.ref p] ∧ (SqL X.K H p ys ∨ SqT X.K H p ys) ∧ ∀ l, H l = none → Q (.ref l) (upd H l (.lst ys))) := by
  intro pins s σ H xs us Q I r h
  obtain ⟨p, ys, rfl, hq, q⟩ := h
  obtain ⟨u, rfl, rx⟩ := vals1 r
  cases rx
  have fin : ∀ (its : List Value), Vals ys its → ys.length ≤ sizeLine → ∀ (h' : Heap) (c' : Nat), (∀ b o', s.heap.get? b = some o' → h'.get? b = some o') →
      h'.get? s.heap.objs.size = some { cls := .type "list", dict := none, data := .seq its.toArray c', slots := #[] } → EP X pins σ Q (.ref s.heap.objs.size) { s with heap := h' } := fun its r' hz h' c' kp e =>
    ⟨.ref s.heap.objs.size, _, I.laid (t' := s.toks) kp (Nat.le_refl _) (show xS X.prog X.w _ h' _ (.lst ys) from ⟨hz, its, c', r', e⟩), rfl, q _ (I.hok.fresh (Nat.le_refl _))⟩
  rcases hq with hq | hq
  · obtain ⟨its, r', pl, hz⟩ := I.list hq
    have hlen := r'.length
    obtain ⟨o, ho, hc, n, hd⟩ := pl.isList
    exact call_list_seq p (.inl rfl) ho hc hd (fun h' c' kp e => fin its r' hz h' c' kp e) (by simp only [List.size_toArray] <;> omega)
  · obtain ⟨its, r', pl, hz⟩ := I.tuple hq
    have hlen := r'.length
    obtain ⟨o, ho, hc, n, hd⟩ := pl
    exact call_list_seq p (.inr rfl) ho hc hd (fun h' c' kp e => fin its r' hz h' c' kp e) (by simp only [List.size_toArray] <;> omega)
theorem xbB : zp X (.type "tuple") (fun xs H Q => ∃ p ys, xs = [.ref p] ∧ ((SqL X.K H p ys ∧ ∀ l, H l = none → Q (.ref l) (upd H l (.tup ys))) ∨ (SqT X.K H p ys ∧ Q (.ref p) H))) := by
  intro pins s σ H xs us Q I r h
  obtain ⟨p, ys, rfl, h⟩ := h
  obtain ⟨u, rfl, rx⟩ := vals1 r
  cases rx
  rcases h with ⟨hq, q⟩ | ⟨hq, q⟩
  · obtain ⟨its, r', pl, hz⟩ := I.list hq
    have hlen := r'.length
    refine call_tuple_list pl.isList (fun h' kp => ?_) (by simp only [List.size_toArray] <;> omega)
    have I1 : Inv X pins σ H { s with heap := h' } := I.kept (t' := s.toks) kp
    have I2 : Inv X pins σ (upd H h'.objs.size (.tup ys)) { s with heap := h'.push { cls := .type "tuple", data := .seq its.toArray } } :=
      I1.laid (t' := s.toks) (fun b o e => Heap.get?_push_of_some _ e) (Nat.le_refl _) (show xS X.prog X.w _ _ _ (.tup ys) from ⟨hz, its, r', IsTup.new _ _⟩)
    exact ⟨.ref h'.objs.size, _, I2, rfl, q _ (I1.hok.fresh (Nat.le_refl _))⟩
  · obtain ⟨its, r', pl, hz⟩ := I.tuple hq
    exact call_tuple_same pl ⟨.ref p, H, I, rfl, q⟩
def tyV (K : PySem.W.Frag) (T : String) (x : V) (H : Hp) : Prop := match x with
  | .str _ => T = "str"
  | .int _ => T = "int"
  | .ref p => (T = "list" ∧ ∃ xs, SqL K H p xs) ∨ (T = "tuple" ∧ ∃ o, K.lookup p = some o ∧ o.cls = .type "tuple" ∧ o.dict = none) ∨
      (T = "dict" ∧ ((∃ kvs, H p = some (.dK kvs)) ∨ ∃ kvs, H p = some (.dT kvs))) ∨ (T = "set" ∧ ∃ S n, H p = some (.set S n))
  | _ => False
theorem xoU {pins : List (Addr × Obj)} {σ : St} {H : Hp} {s : Shared} {T : String} {x : V} {v : Value} (I : Inv X pins σ H s) (r : RelV x v) (ty : tyV X.K T x H) :
    s.TypeIs v T ∧ ∀ a, v = .ref a → ∃ ob, s.heap.get? a = some ob ∧ ob.dict = none := by
  cases x with
  | str z =>
    obtain ⟨t, rfl⟩ := r
    cases (show T = "str" from ty)
    exact ⟨typeIs_str s z t, fun _ e => nomatch e⟩
  | int i =>
    obtain ⟨t, rfl⟩ := r
    cases (show T = "int" from ty)
    exact ⟨typeIs_int s i t, fun _ e => nomatch e⟩
  | ref p =>
    cases r
    rcases ty with ⟨rfl, xs, hq⟩ | ⟨rfl, o, hk, hc, hd⟩ | ⟨rfl, hk⟩ | ⟨rfl, S, n, hk⟩
    · obtain ⟨its, _, pl, _⟩ := I.list hq
      refine ⟨pl.isList.typeIs, fun a e => ?_⟩
      cases e
      obtain ⟨o, n, e, c, hd, _⟩ := pl
      exact ⟨o, e, hd⟩
    · refine ⟨⟨o, I.kIn p o hk, hc⟩, fun a e => ?_⟩
      cases e
      exact ⟨o, I.kIn _ o hk, hd⟩
    · have z : ∃ o, s.heap.get? p = some o ∧ o.ExactDict := by
        rcases hk with ⟨kvs, hk⟩ | ⟨kvs, hk⟩
        · obtain ⟨_, _, _, _, o, _, _, e, ex, _⟩ := I.hok p _ hk
          exact ⟨o, e, ex⟩
        · obtain ⟨_, _, _, _, o, _, _, e, ex, _⟩ := I.hok p _ hk
          exact ⟨o, e, ex⟩
      obtain ⟨o, e, ex⟩ := z
      refine ⟨⟨o, e, ex.1⟩, fun a e2 => ?_⟩
      cases e2
      exact ⟨o, e, ex.2.1⟩
    · obtain ⟨o, _, _, _, e, ex, _⟩ := I.hok p _ hk
      refine ⟨⟨o, e, ex.1⟩, fun a e2 => ?_⟩
      cases e2
      exact ⟨o, e, ex.2.1⟩
  | _ => exact False.elim ty
def tBM (K : PySem.W.Frag) (T : String) (r : V → List V → Hp → VK → Prop) (to : TE) (t : TA) : TE := fun σ H Q => to σ H fun x H1 => tyV K T x H1 ∧ t σ H1 fun xs H2 => r x xs H2 Q
variable {o e : Expr} {es : List Expr} {to : TE} {t : TA} {name : Str} {apos cpos : Pos} {T id : String} {r : V → List V → Hp → VK → Prop}
theorem xdu (pa : PlainAttrs T) (slot : Slot T name id) (hty : typeOf (.builtin id) = pure (.type "method_descriptor")) (hm : MtR X id r) (ho : PE X o to) (ha : PA X (e :: es) t)
    (hbase : attributeBase o name X.env (eval o X.env) = eval o X.env := by rfl)
    (hfew : ((backTo cpos (starEach (e :: es) X.env)).all (fun x => !x.1) && (backToKw cpos (keywordEach [] X.env)).all (fun x => x.1.isSome)
      && decide ((e :: es).length + ([] : List Keyword).length + (if ([] : List Keyword).isEmpty then 0 else 1) < 30)) = true := by rfl)
    (hline : (apos.endLine == cpos.line) = true := by rfl) (hs : starEach (e :: es) X.env = (false, eval e X.env) :: starEach es X.env := by rfl) (hplain : (backTo cpos (starEach es X.env)).any (·.1) = false := by rfl) :
    PE X (.Call (.Attribute o name apos) (e :: es) [] cpos) (tBM X.K T r to t) := by
  intro pins s σ H Q I h
  refine wpAny_Call_method_late hbase hfew hline rfl (thn (ho pins s σ H _ I h) fun v s1 ⟨x, H1, I1, r1, ty, q1⟩ => ?_)
  obtain ⟨h1, h2⟩ := xoU I1 r1 ty
  refine ⟨T, id, pa, slot, hty, h1, h2, ?_⟩
  have hA := ha cpos pins s1 σ H1 _ I1 q1
  rw [hs] at hA ⊢
  refine Calls.callWith_builtin (by show (false || (backTo cpos (starEach es X.env)).any (·.1)) = false; rw [hplain] <;> rfl) (Calls.evalArgs_plain ?_)
  exact thn hA fun us s2 ⟨vs, H2, I2, r2, q2⟩ => hm pins s2 σ H2 x vs v us Q I2 r1 r2 q2
end
end L2
namespace L2
open PySem PySem.Spec PyProof.Rows
def MtM (X : Cx) (id : String) (r : V → List V → Hp → VK → Prop) : Prop :=
  ∀ (pins : List (Addr × Obj)) (s : Shared) (σ : St) (H : Hp) (x : V) (xs : List V) (v : Value) (us : List Value) (Q : VK), Inv X pins σ H s → RelV x v → Vals xs us → r x xs H Q →
    wpAny (model X.prog X.w) X.A (call (.builtin id) (v :: us)) (EP X pins σ Q) X.xe s
theorem Vals.one : ∀ {x : V} {us : List Value}, Vals [x] us → ∃ u, us = [u] ∧ RelV x u
  | _, _, .cons r .nil => ⟨_, rfl, r⟩
theorem Vals.two : ∀ {x y : V} {us : List Value}, Vals [x, y] us → ∃ u v, us = [u, v] ∧ RelV x u ∧ RelV y v
  | _, _, _, .cons r (.cons q .nil) => ⟨_, _, rfl, r, q⟩
theorem Vals.reverse {xs : List V} {us : List Value} (h : Vals xs us) : Vals xs.reverse us.reverse := by
  induction h with
  | nil => exact .nil
  | cons r t ih => rw [List.reverse_cons, List.reverse_cons]; exact Vals.append ih (.cons r .nil)
theorem Vals.rep {xs : List V} {us : List Value} (h : Vals xs us) : ∀ k : Nat, Vals (List.replicate k xs).flatten (List.replicate k us).flatten
  | 0 => .nil
  | k + 1 => by
    rw [List.replicate_succ, List.replicate_succ, List.flatten_cons, List.flatten_cons]
    exact Vals.append h (Vals.rep h k)
theorem foldl_rep (its : List Value) : ∀ (k : Nat) (acc : List Value),
    List.foldl (fun x1 x2 => x1 ++ x2) acc.toArray (List.replicate k its.toArray) = (acc ++ (List.replicate k its).flatten).toArray
  | 0, acc => by simp
  | k + 1, acc => by
    have e : acc.toArray ++ its.toArray = (acc ++ its).toArray := by simp
    have e2 : (acc ++ its) ++ (List.replicate k its).flatten = acc ++ (List.replicate (k + 1) its).flatten := by
      rw [List.replicate_succ, List.flatten_cons, List.append_assoc]
    rw [← e2, ← foldl_rep its k (acc ++ its), ← e, List.replicate_succ, List.foldl_cons]
section
variable {X : Cx} {pins : List (Addr × Obj)} {σ : St} {H : Hp} {s : Shared} {l b : Addr} {xs ys zs : List V}
theorem Inv.lset {its its' : List Value} {n : Nat} {f : Array Value → Array Value} {t' : Nat} (I : Inv X pins σ H s) (hH : H l = some (.lst xs))
    (e : s.heap.get? l = some { cls := .type "list", data := .seq its.toArray n }) (hf : f its.toArray = its'.toArray) (hv : Vals ys its') (hz : ys.length ≤ sizeLine) :
    Inv X pins σ (upd H l (.lst ys)) { s with heap := s.heap.update l (Obj.mapSeq f), toks := t' } := by
  have q := PySem.IsL.update e f
  rw [hf] at q
  refine I.write (x := l) (e := l) (by rw [hH]; exact trivial) (.inl rfl) (fun b' u hb hu => (Heap.get?_update_other s.heap (Obj.mapSeq f) (Ne.symm hb)).trans hu) ⟨_, q⟩ ?_
  exact ⟨hz, its', _, hv, q⟩
theorem Inv.lnew {its : List Value} {t' : Nat} (I : Inv X pins σ H s) (hv : Vals ys its) (hz : ys.length ≤ sizeLine) :
    Inv X pins σ (upd H s.heap.objs.size (.lst ys)) { s with heap := s.heap.push { cls := .type "list", data := .seq its.toArray }, toks := t' } :=
  I.laid (fun _ _ q => Heap.get?_push_of_some _ q) (Nat.le_refl _) ⟨hz, its, 0, hv, Heap.get?_push_size _ rfl⟩
theorem Inv.fresh (I : Inv X pins σ H s) : H s.heap.objs.size = none := I.hok.fresh (Nat.le_refl _)
theorem Inv.lstM (I : Inv X pins σ H s) (hH : H l = some (.lst xs)) : xs.length ≤ sizeLine ∧ ∃ (its : List Value) (n : Nat), Vals xs its ∧ xs.length = its.length ∧ s.heap.get? l = some { cls := .type "list", data := .seq its.toArray n } := by
  obtain ⟨z, its, n, r, e⟩ := I.hok l _ hH
  exact ⟨z, its, n, r, r.length, e⟩
theorem xii {n : Nat} (h : n ≤ sizeLine) : Builtin.List.listTooLong n = false := by
  unfold Builtin.List.listTooLong
  exact decide_eq_false (by omega)
end
section
variable {X : Cx}
def xnM : V → List V → Hp → VK → Prop := fun x vs H Q => ∃ l xs y, x = .ref l ∧ vs = [y] ∧ H l = some (.lst xs) ∧ xs.length < sizeLine ∧ Q .non (upd H l (.lst (xs ++ [y])))
theorem uU : MtM X "list.append" xnM := by
  intro pins s σ H x vs v us Q I rx rv h
  obtain ⟨l, xs, y, rfl, rfl, hH, hz, q⟩ := h
  cases rx
  obtain ⟨u, rfl, ru⟩ := rv.one
  obtain ⟨z, its, n, r, hl, e⟩ := I.lstM hH
  refine call_meets F.slot_list_append ⟨_, e, rfl⟩ F.entry_list_append (F.args_list_append_2 _ _) (PySem.list_append l its.toArray n u (by rw [List.size_toArray]; omega)) ⟨e, ?_⟩
  refine ⟨.non, _, I.lset (its' := its ++ [u]) hH e (by simp) (r.append (.cons ru .nil)) ?_, rfl, q⟩
  rw [List.length_append, List.length_singleton]
  omega
def xnN : V → List V → Hp → VK → Prop := fun x vs H Q => ∃ l b xs zs, x = .ref l ∧ vs = [.ref b] ∧ H l = some (.lst xs) ∧ H b = some (.lst zs) ∧ xs.length + zs.length ≤ sizeLine ∧ Q .non (upd H l (.lst (xs ++ zs)))
theorem xlp : MtM X "list.extend" xnN := by
  intro pins s σ H x vs v us Q I rx rv h
  obtain ⟨l, b, xs, zs, rfl, rfl, hH, hB, hz, q⟩ := h
  cases rx
  obtain ⟨u, rfl, ru⟩ := rv.one
  cases ru
  obtain ⟨z, its, n, r, hl, e⟩ := I.lstM hH
  obtain ⟨z2, its2, n2, r2, hl2, e2⟩ := I.lstM hB
  have hsz : its.toArray.size + its2.toArray.size ≤ sizeLine := by rw [List.size_toArray, List.size_toArray]; omega
  have hlong : ¬ (!its.toArray.isEmpty && Builtin.List.listTooLong (its.toArray.size + its2.toArray.size)) = true := by
    rw [xii hsz, Bool.and_false]
    exact Bool.false_ne_true
  refine call_meets F.slot_list_extend ⟨_, e, rfl⟩ F.entry_list_extend (F.args_list_extend_2 _ _)
    (AutoSeq1.list_extend_list_list_0 l its.toArray n b its2.toArray n2 hlong (by rw [List.size_toArray]; omega) (by omega)) ⟨e, e2, ?_⟩
  refine ⟨.non, _, I.lset (its' := its ++ its2) hH e (by simp) (r.append r2) ?_, rfl, q⟩
  rw [List.length_append]
  omega
def xqc : R2 := fun x y H Q => ∃ l b xs zs, x = .ref l ∧ y = .ref b ∧ H l = some (.lst xs) ∧ H b = some (.lst zs) ∧ xs.length + zs.length ≤ sizeLine ∧ ∀ p, H p = none → Q (.ref p) (upd H p (.lst (xs ++ zs)))
theorem xeg : OpR X (binaryOp .Add) xqc := by
  intro pins s σ H x y v u Q I rx ry h
  obtain ⟨l, b, xs, zs, rfl, rfl, hH, hB, hz, q⟩ := h
  cases rx
  cases ry
  obtain ⟨z, its, n, r, hl, e⟩ := I.lstM hH
  obtain ⟨z2, its2, n2, r2, hl2, e2⟩ := I.lstM hB
  refine PySem.P.add_list e e2 ?_ (by rw [List.size_toArray, List.size_toArray]; omega)
  have ea : its.toArray ++ its2.toArray = (its ++ its2).toArray := by simp
  rw [ea]
  exact ⟨.ref _, _, I.lnew (t' := s.toks) (r.append r2) (by rw [List.length_append]; omega), rfl, q _ I.fresh⟩
def xqd : R2 := fun x y H Q => ∃ l k xs, x = .ref l ∧ y = .int k ∧ H l = some (.lst xs) ∧ -(2 ^ 63) ≤ k ∧ k < 2 ^ 63 ∧ xs.length * k.toNat ≤ sizeLine ∧
  ∀ p, H p = none → Q (.ref p) (upd H p (.lst (List.replicate k.toNat xs).flatten))
theorem len_rep {α : Type} (xs : List α) (k : Nat) : (List.replicate k xs).flatten.length = k * xs.length := by
  induction k with
  | zero => simp
  | succ k ih => rw [List.replicate_succ, List.flatten_cons, List.length_append, ih, Nat.succ_mul, Nat.add_comm]
theorem xoV : OpR X (binaryOp .Mult) xqd := by
  intro pins s σ H x y v u Q I rx ry h
  obtain ⟨l, k, xs, rfl, rfl, hH, h1, h2, hz, q⟩ := h
  cases rx
  obtain ⟨t, rfl⟩ := ry
  obtain ⟨z, its, n, r, hl, e⟩ := I.lstM hH
  have hlen : its.toArray.size * k.toNat ≤ sizeLine := by rw [List.size_toArray, ← hl]; exact hz
  have hcap : ¬ its.toArray.size * k.toNat > (2 ^ 63 - 1) / 8 := by
    have : (sizeLine : Nat) ≤ (2 ^ 63 - 1) / 8 := by decide
    omega
  have hfit : ¬ (!Builtin.List.listFitsIndex k) = true := by
    rw [fitsIndex_both h1 h2]
    exact Bool.false_ne_true
  have hlong : ¬ Builtin.List.listTooLong (its.toArray.size * k.toNat) = true := by
    rw [xii hlen]
    exact Bool.false_ne_true
  have hnew : List.foldl (fun x1 x2 => x1 ++ x2) #[] (List.replicate (if its.toArray.isEmpty = true then 0 else k.toNat) its.toArray) = (List.replicate k.toNat its).flatten.toArray := by
    have f0 : ∀ m : Nat, List.foldl (fun x1 x2 => x1 ++ x2) #[] (List.replicate m its.toArray) = (List.replicate m its).flatten.toArray := fun m => by
      have := foldl_rep its m []
      rw [List.nil_append] at this
      exact this
    rw [f0]
    cases its with
    | nil => simp
    | cons a r' => rw [if_neg (by simp)]
  refine wpAny_binaryOp_repeat_ref (T := "list") (U := "int") (by decide) ⟨_, e, rfl⟩ (fun s' => typeIs_int s' k t) noFill_list_mul F.fills_int_mul F.slot_int_rmul repeat_list F.slot_int_index.lookup
    (call_meets F.slot_int_rmul (typeIs_int s k t) F.entry_int_rmul (F.args_int_rmul_2 _ _) (int___rmul___int_list k t l its.toArray n)
      ⟨e, rfl, ⟨_, e, rfl⟩, call_meets F.slot_list_mul ⟨_, e, rfl⟩ F.entry_list_mul (F.args_list_mul_2 _ _) (AutoListH.list___mul___list_int_3 l its.toArray n k t hfit hcap hlong) ⟨e, ?_⟩⟩)
  rw [hnew]
  exact ⟨.ref _, _, I.lnew (t' := s.toks) (r.rep k.toNat) (by rw [len_rep, Nat.mul_comm]; exact hz), rfl, q _ I.fresh⟩
end
section
variable {prog : Program} {w : World} {A : Around} {E : Value → Shared → Prop} {s : Shared}
set_option maxRecDepth 100000 in
end
section
variable {X : Cx}
end
end L2
namespace L2
open PySem PySem.Spec PyProof.Rows
section
variable {κ : Type} [DecidableEq κ]
def ua (kvs : List (κ × V)) (k : κ) : Option V := (kvs.find? fun kv => decide (kv.1 = k)).map (·.2)
def putK (kvs : List (κ × V)) (k : κ) (v : V) : List (κ × V) :=
  if (kvs.any fun kv => decide (kv.1 = k)) = true then kvs.map (fun kv => if kv.1 = k then (kv.1, v) else kv) else kvs ++ [(k, v)]
theorem xmq {k : κ} : ua ([] : List (κ × V)) k = none := rfl
theorem zT {p : κ × V} {r : List (κ × V)} {k : κ} (e : p.1 = k) : ua (p :: r) k = some p.2 := by simp [ua, List.find?_cons, e]
theorem zU {p : κ × V} {r : List (κ × V)} {k : κ} (e : ¬ p.1 = k) : ua (p :: r) k = ua r k := by simp [ua, List.find?_cons, e]
theorem xdv (k : κ) : ∀ kvs : List (κ × V), (kvs.any fun kv => decide (kv.1 = k)) = (ua kvs k).isSome
  | [] => rfl
  | p :: r => by
    rw [List.any_cons]
    by_cases e : p.1 = k
    · simp only [zT e, decide_eq_true e, Bool.true_or, Option.isSome_some]
    · rw [zU e, decide_eq_false e, Bool.false_or]; exact xdv k r
theorem xij (k j : κ) (y : V) : ∀ kvs : List (κ × V), ua (kvs.map fun kv => if kv.1 = k then (kv.1, y) else kv) j = (ua kvs j).map fun x => if j = k then y else x
  | [] => rfl
  | p :: r => by
    have ih := xij k j y r
    rw [List.map_cons]
    by_cases h : p.1 = k
    · rw [if_pos h]
      by_cases e : p.1 = j
      · rw [zT (p := (p.1, y)) e, zT e, Option.map_some, if_pos (e.symm.trans h)]
      · rw [zU (p := (p.1, y)) e, zU e, ih]
    · rw [if_neg h]
      by_cases e : p.1 = j
      · rw [zT (p := p) e, zT e, Option.map_some, if_neg (fun z => h (e.trans z))]
      · rw [zU (p := p) e, zU e, ih]
theorem xhp (k j : κ) (y : V) : ∀ kvs : List (κ × V), ua kvs k = none → ua (kvs ++ [(k, y)]) j = if j = k then some y else ua kvs j
  | [], _ => by
    by_cases e : k = j
    · rw [if_pos e.symm]; exact zT (p := (k, y)) e
    · rw [if_neg (fun z => e z.symm)]; exact zU (p := (k, y)) e
  | p :: r, hn => by
    rw [List.cons_append]
    have hk : ¬ p.1 = k := fun z => by rw [zT z] at hn; cases hn
    rw [zU hk] at hn
    have ih := xhp k j y r hn
    by_cases e : p.1 = j
    · rw [zT e, zT e, if_neg (fun z => hk (e.trans z))]
    · rw [zU e, zU e, ih]
theorem xmr (kvs : List (κ × V)) (k j : κ) (y : V) : ua (putK kvs k y) j = if j = k then some y else ua kvs j := by
  unfold putK
  by_cases a : (kvs.any fun kv => decide (kv.1 = k)) = true
  · rw [if_pos a, xij]
    rw [xdv] at a
    by_cases e : j = k
    · obtain ⟨x, hx⟩ := Option.isSome_iff_exists.mp a
      rw [if_pos e, e, hx, Option.map_some, if_pos rfl]
    · rw [if_neg e]
      cases ua kvs j with
      | none => rfl
      | some x => rw [Option.map_some, if_neg e]
  · rw [if_neg a]
    refine xhp k j y kvs ?_
    rw [xdv] at a
    cases q : ua kvs k with
    | none => rfl
    | some x => rw [q] at a; exact (a rfl).elim
theorem xft (kvs : List (κ × V)) (k : κ) (v : V) : (putK kvs k v).length ≤ kvs.length + 1 := by
  unfold putK
  split
  · rw [List.length_map]; omega
  · rw [List.length_append, List.length_cons, List.length_nil]; omega
theorem xab.isSome_eq {o : Option V} {u : Option Value} (r : xab o u) : o.isSome = u.isSome := by
  cases o with
  | none => cases u with
    | none => rfl
    | some _ => exact (show False from r).elim
  | some _ => cases u with
    | none => exact (show False from r).elim
    | some _ => rfl
theorem KV.val {kvs : List (κ × V)} {vs : List (κ × Value)} (r : KV kvs vs) (k : κ) : xab (ua kvs k) (valueAt vs k) := by
  unfold KV at r
  induction r with
  | nil => exact True.intro
  | @cons p q ps qs h t ih =>
    obtain ⟨h1, h2⟩ := h
    by_cases e : p.1 = k
    · have e' : q.1 = k := h1.symm.trans e
      have b : valueAt (q :: qs) k = some q.2 := by simp [valueAt, List.find?_cons, e']
      rw [zT e, b]; exact h2
    · have e' : ¬ q.1 = k := fun z => e (h1.trans z)
      have b : valueAt (q :: qs) k = valueAt qs k := by simp [valueAt, List.find?_cons, e']
      rw [zU e, b]; exact ih
theorem KV.any {kvs : List (κ × V)} {vs : List (κ × Value)} (r : KV kvs vs) (k : κ) : (kvs.any fun kv => decide (kv.1 = k)) = vs.any fun kv => decide (kv.1 = k) := by
  unfold KV at r
  induction r with
  | nil => rfl
  | cons h t ih => rw [List.any_cons, List.any_cons, ih, h.1]
theorem KV.repl {kvs : List (κ × V)} {vs : List (κ × Value)} (r : KV kvs vs) (k : κ) {y : V} {u : Value} (ry : RelV y u) :
    KV (kvs.map fun kv => if kv.1 = k then (kv.1, y) else kv) (vs.map fun kv => if kv.1 = k then (kv.1, u) else kv) := by
  unfold KV at r ⊢
  induction r with
  | nil => exact .nil
  | @cons p q ps qs h t ih =>
    rw [List.map_cons, List.map_cons]
    refine .cons ?_ ih
    obtain ⟨h1, h2⟩ := h
    by_cases e : p.1 = k
    · rw [if_pos e, if_pos (h1.symm.trans e)]; exact ⟨h1, ry⟩
    · rw [if_neg e, if_neg (fun z => e (h1.trans z))]; exact ⟨h1, h2⟩
theorem KV.put {kvs : List (κ × V)} {vs : List (κ × Value)} (r : KV kvs vs) (k : κ) {y : V} {u : Value} (ry : RelV y u) : KV (putK kvs k y) (stored vs k u) := by
  unfold putK stored
  rw [r.any k]
  by_cases e : (vs.any fun kv => decide (kv.1 = k)) = true
  · rw [if_pos e, if_pos e]; exact r.repl k ry
  · rw [if_neg e, if_neg e]; exact Paired.snoc r ⟨rfl, ry⟩
theorem KV.length {kvs : List (κ × V)} {vs : List (κ × Value)} (r : KV kvs vs) : kvs.length = vs.length := Paired.length r
end
theorem xia {P : Program} {w : World} {k : Key} {u : Value} (r : RelV (kV k) u) : (zQ P w).is k u = true := by
  cases k with
  | inl i => obtain ⟨t, e⟩ := (show ∃ t, u = Value.int i t from r); subst e; exact xi6 P w i t
  | inr x => obtain ⟨t, e⟩ := (show ∃ t, u = Value.str x t from r); subst e; exact xi7 P w x t
theorem xhq {P : Program} {w : World} : ∀ {ks : List Key} {us : List Value}, Vals (ks.map kV) us → ItemsAre (zQ P w) ks us
  | [], _, r => by rw [List.map_nil] at r; cases r; exact .nil
  | k :: ks, _, r => by
    rw [List.map_cons] at r
    cases r with
    | cons h t => exact .cons (xia h) (xhq t)
abbrev KT (H : Hp) : List (List Key × V) → List (List Key × Addr × Value) → Prop := Paired fun p q => p.1 = q.1 ∧ H q.2.1 = some (.tup (p.1.map kV)) ∧ RelV p.2 q.2.2
theorem KT.val {H : Hp} {kvs : List (List Key × V)} {xs : List (List Key × Addr × Value)} (r : KT H kvs xs) (k : List Key) : xab (ua kvs k) ((atKey xs k).map (·.2)) := by
  induction r with
  | nil => exact True.intro
  | @cons p q ps qs h t ih =>
    obtain ⟨h1, _, h2⟩ := h
    by_cases e : p.1 = k
    · have e' : q.1 = k := h1.symm.trans e
      have b : atKey (q :: qs) k = some q.2 := by simp [atKey, List.find?_cons, e']
      rw [zT e, b]; exact h2
    · have e' : ¬ q.1 = k := fun z => e (h1.trans z)
      have b : atKey (q :: qs) k = atKey qs k := by simp [atKey, List.find?_cons, e']
      rw [zU e, b]; exact ih
theorem KT.repl {H : Hp} {kvs : List (List Key × V)} {xs : List (List Key × Addr × Value)} (r : KT H kvs xs) (k : List Key) {y : V} {u : Value} (ry : RelV y u) :
    KT H (kvs.map fun kv => if kv.1 = k then (kv.1, y) else kv) (xs.map (putAt k u)) := by
  induction r with
  | nil => exact .nil
  | @cons p q ps qs h t ih =>
    rw [List.map_cons, List.map_cons]
    refine .cons ?_ ih
    obtain ⟨h1, h2, h3⟩ := h
    unfold putAt
    by_cases e : p.1 = k
    · rw [if_pos e, if_pos (h1.symm.trans e)]; exact ⟨h1, h2, ry⟩
    · rw [if_neg e, if_neg (fun z => e (h1.trans z))]; exact ⟨h1, h2, h3⟩
theorem KT.put {H : Hp} {kvs : List (List Key × V)} {xs : List (List Key × Addr × Value)} (r : KT H kvs xs) (k : List Key) {b : Addr} {y : V} {u : Value} (hb : H b = some (.tup (k.map kV))) (ry : RelV y u) :
    KT H (putK kvs k y) (storedH xs k b u) := by
  have e : (kvs.any fun kv => decide (kv.1 = k)) = (atKey xs k).isSome := by
    rw [xdv, (r.val k).isSome_eq, Option.isSome_map]
  unfold putK storedH
  rw [e]
  by_cases q : (atKey xs k).isSome = true
  · rw [if_pos q, if_pos q]; exact r.repl k ry
  · rw [if_neg q, if_neg q]; exact Paired.snoc r ⟨rfl, hb, ry⟩
theorem KT.keeps {H H' : Hp} {kvs : List (List Key × V)} {xs : List (List Key × Addr × Value)} (r : KT H kvs xs) (ht : ∀ b ys, H b = some (.tup ys) → H' b = some (.tup ys)) : KT H' kvs xs :=
  Paired.mapP r fun _ _ z => ⟨z.1, ht _ _ z.2.1, z.2.2⟩
section
variable {P : Program} {w : World} {H : Hp} {h : Heap} {a : Addr}
theorem xnr {u : HO} (ok : HOk P w H h) (e : Rd H a u) : xS P w H h a u := e.ok ok
theorem xkm {kvs : List (Key × V)} (ok : HOk P w H h) (e : Rd H a (.dK kvs)) : kvs.length ≤ sizeLine ∧ (a == sysModules) = false ∧ ∃ vs, KV kvs vs ∧ h.DictOf (zQ P w) a vs :=
  show xS P w H h a (.dK kvs) from xnr ok e
theorem xpE {kvs : List (Key × V)} (ok : HOk P w H h) (e : H a = some (.dK kvs)) : kvs.length ≤ sizeLine ∧ (a == sysModules) = false ∧ ∃ vs, KV kvs vs ∧ h.DictOf (zQ P w) a vs := xkm ok (.inl e)
theorem xgb {ks : List Key} (ok : HOk P w H h) (e : H a = some (.tup (ks.map kV))) : (tupleKind (zQ P w)).is h ks a := by
  obtain ⟨_, its, r, o, h1, h2, n, h3⟩ := (show xS P w H h a (.tup (ks.map kV)) from ok a _ e)
  exact ⟨o, its.toArray, n, h1, h2, h3, by simpa using xhq r⟩
theorem xkn {kvs : List (List Key × V)} (ok : HOk P w H h) (e : Rd H a (.dT kvs)) : kvs.length ≤ sizeLine ∧ (a == sysModules) = false ∧
    ∃ xs, KT H kvs xs ∧ h.DictOfH (tupleKind (zQ P w)) a xs := by
  obtain ⟨z, y, xs, r, o, es, ep, h1, h2, h3, h4, h5⟩ := (show xS P w H h a (.dT kvs) from xnr ok e)
  refine ⟨z, y, xs, r, o, es, ep, h1, h2, h3, h4, fun x hx => ?_, h5⟩
  have all : ∀ {l : List (List Key × V)} {m : List (List Key × Addr × Value)}, KT H l m → ∀ x ∈ m, (tupleKind (zQ P w)).is h x.1 x.2.1 := by
    intro l m q
    induction q with
    | nil => intro x hx; exact nomatch hx
    | @cons p q ps qs hq t ih =>
      intro x hx
      rcases List.mem_cons.mp hx with e | hx
      · subst e
        exact xgb ok (by rw [← hq.1]; exact hq.2.1)
      · exact ih x hx
  exact all r x hx
theorem xpF {kvs : List (List Key × V)} (ok : HOk P w H h) (e : H a = some (.dT kvs)) : kvs.length ≤ sizeLine ∧ (a == sysModules) = false ∧
    ∃ xs, KT H kvs xs ∧ h.DictOfH (tupleKind (zQ P w)) a xs := xkn ok (.inl e)
end
def xdw (H : Hp) (a : Addr) (y : V) (r : Option V) : Prop :=
  (∃ kvs k, Rd H a (.dK kvs) ∧ y = kV k ∧ r = ua kvs k) ∨ ∃ kvs k b, Rd H a (.dT kvs) ∧ y = .ref b ∧ H b = some (.tup (k.map kV)) ∧ r = ua kvs k
def xfN (H : Hp) (a : Addr) (y v : V) (H' : Hp) : Prop :=
  (∃ kvs k, H a = some (.dK kvs) ∧ y = kV k ∧ kvs.length < sizeLine ∧ H' = upd H a (.dK (putK kvs k v))) ∨
  ∃ kvs k b, H a = some (.dT kvs) ∧ y = .ref b ∧ H b = some (.tup (k.map kV)) ∧ kvs.length < sizeLine ∧ H' = upd H a (.dT (putK kvs k v))
theorem xdw.k {H : Hp} {a : Addr} {kvs : List (Key × V)} {k : Key} (e : H a = some (.dK kvs)) : xdw H a (kV k) (ua kvs k) := .inl ⟨kvs, k, .inl e, rfl, rfl⟩
theorem xfN.k {H : Hp} {a : Addr} {kvs : List (Key × V)} {k : Key} {v : V} (e : H a = some (.dK kvs)) (hl : kvs.length < sizeLine) : xfN H a (kV k) v (upd H a (.dK (putK kvs k v))) := .inl ⟨kvs, k, e, rfl, hl, rfl⟩
section
variable {X : Cx} {pins : List (Addr × Obj)} {σ : St} {H : Hp} {s : Shared} {a : Addr} {y v : V} {u r : Value} {o : Option V} {A : Around} {E : Value → Shared → Prop}
theorem Inv.big (I : Inv X pins σ H s) : sysModules < s.heap.objs.size := by
  have h : mainGlobals < s.heap.objs.size := (I.mod.glob.keeps I.bk).lt
  exact Nat.lt_trans (by decide) h
theorem xqe {Q : Value → Shared → Prop} (hu : A.units + 1 < cLine) (I : Inv X pins σ H s) (g : xdw H a y o) (ry : RelV y u) (h : ∀ s', Inv X pins σ H s' → Q (.bool o.isSome) s') :
    wpAny (model X.prog X.w) A (compareOp .In u (.ref a)) Q E s := by
  rcases g with ⟨kvs, k, e, ey, l⟩ | ⟨kvs, k, b, e, ey, eb, l⟩
  · subst ey
    obtain ⟨z, hd, vs, rel, dd⟩ := xkm I.hok e
    refine wpAny_in_of (xia ry) hd dd.mapOf ?_
    rw [← (rel.val k).isSome_eq, ← l]
    exact h _ (I.tok _)
  · subst ey
    cases (show u = Value.ref b from ry)
    obtain ⟨z, hd, xs, rel, dd⟩ := xkn I.hok e
    refine wpAny_in_heap (tupleKind_room_in1 hu) (xgb I.hok eb) hd dd ?_
    have q := (rel.val k).isSome_eq
    rw [Option.isSome_map] at q
    rw [← q, ← l]
    exact h _ (I.tok _)
theorem xnO {Q : Value → Shared → Prop} (hu : A.units + 1 < cLine) (I : Inv X pins σ H s) (g : xdw H a y o) (ry : RelV y u) (h : ∀ s', Inv X pins σ H s' → Q (.bool (!o.isSome)) s') :
    wpAny (model X.prog X.w) A (compareOp .NotIn u (.ref a)) Q E s := by
  rcases g with ⟨kvs, k, e, ey, l⟩ | ⟨kvs, k, b, e, ey, eb, l⟩
  · subst ey
    obtain ⟨z, hd, vs, rel, dd⟩ := xkm I.hok e
    refine wpAny_notIn_of (xia ry) hd dd.mapOf ?_
    rw [← (rel.val k).isSome_eq, ← l]
    exact h _ (I.tok _)
  · subst ey
    cases (show u = Value.ref b from ry)
    obtain ⟨z, hd, xs, rel, dd⟩ := xkn I.hok e
    refine wpAny_notIn_heap (tupleKind_room_in1 hu) (xgb I.hok eb) hd dd ?_
    have q := (rel.val k).isSome_eq
    rw [Option.isSome_map] at q
    rw [← q, ← l]
    exact h _ (I.tok _)
theorem xjD {h' : Heap} {t' : Nat} {ob : HO} (I : Inv X pins σ H s) (mu : Mut (H a)) (hs : Heap.SameBut a s.heap h') (he : ∃ q, h'.get? a = some q) (new : xS X.prog X.w (upd H a ob) h' a ob) :
    Inv X pins σ (upd H a ob) { s with heap := h', toks := t' } :=
  I.write (x := a) (e := a) mu (.inl rfl) (fun b q hb z => (hs.2 b hb).trans z) he new
theorem xoW {P : Program} {w : World} {H' : Hp} {h' : Heap} {kvs : List (Key × V)} {vs : List (Key × Value)} (z : kvs.length ≤ sizeLine) (hd : (a == sysModules) = false) (rel : KV kvs vs) (dd : h'.DictOf (zQ P w) a vs) :
    xS P w H' h' a (.dK kvs) := ⟨z, hd, vs, rel, dd⟩
theorem xlq {H' : Hp} {Q : Unit → Shared → Prop} (hu : A.units + 1 < cLine) (I : Inv X pins σ H s) (g : xfN H a y v H') (ry : RelV y u) (rv : RelV v r) (h : ∀ s', Inv X pins σ H' s' → Q () s') :
    wpAny (model X.prog X.w) A (setItem (.ref a) u r) Q E s := by
  rcases g with ⟨kvs, k, e, ey, l, eH⟩ | ⟨kvs, k, b, e, ey, eb, l, eH⟩
  · subst ey eH
    obtain ⟨z, hd, vs, rel, dd⟩ := xpE I.hok e
    have hz : vs.length ≤ sizeLine := by rw [← rel.length]; exact z
    have hl : (putK kvs k v).length ≤ sizeLine := by have := xft kvs k v; omega
    refine wpAny_setItem_pairs (hsz := hz) (xia ry) dd fun h' dd' hs => h _ ?_
    have he : ∃ q, h'.get? a = some q := let ⟨q, _, _, hq, _⟩ := dd'; ⟨q, hq⟩
    exact xjD I (by rw [e]; exact True.intro) hs he (xoW hl hd (rel.put k rv) dd')
  · subst ey eH
    cases (show u = Value.ref b from ry)
    obtain ⟨z, hd, xs, rel, dd⟩ := xpF I.hok e
    have hz : xs.length ≤ sizeLine := by rw [← Paired.length rel]; exact z
    have hl : (putK kvs k v).length ≤ sizeLine := by have := xft kvs k v; omega
    refine wpAny_setItem_heap (hsz := hz) (tupleKind_room_in1 hu) (xgb I.hok eb) dd fun h' dd' hs => h _ ?_
    obtain ⟨q, es, ep, hq, h2, h3, h4, _, h5⟩ := dd'
    refine xjD I (by rw [e]; exact True.intro) hs ⟨q, hq⟩ ⟨hl, hd, _, (rel.put k eb rv).keeps fun c ys ec => ?_, q, es, ep, hq, h2, h3, h4, h5⟩
    rw [xn (xar ec e (fun z => nomatch z))]
    exact ec
end
section
variable {X : Cx} {pins : List (Addr × Obj)} {σ : St} {H : Hp} {s : Shared} {a : Addr} {kvs : List (Key × V)} {k : Key} {u : Value} {A : Around} {E : Value → Shared → Prop}
end
def xqf (ty td : TE) : TE := fun σ H Q => ty σ H fun y H1 => td σ H1 fun x H2 => ∃ a o, x = .ref a ∧ xdw H2 a y o ∧ Q (.bl o.isSome) H2
def xnP (ty td : TE) : TE := fun σ H Q => ty σ H fun y H1 => td σ H1 fun x H2 => ∃ a o, x = .ref a ∧ xdw H2 a y o ∧ Q (.bl (!o.isSome)) H2
def xpG (td ty tv : TE) : TS := fun D σ H => tv σ H fun v H1 => td σ H1 fun x H2 => ty σ H2 fun y H3 => ∃ a H4, x = .ref a ∧ xfN H3 a y v H4 ∧ D.nx σ H4
section
variable {X : Cx} {o i e value : Expr} {pos pos' tpos : Pos} {td ty tv : TE}
theorem xlr (hu : X.A.units + 1 < cLine) (hi : PE X i ty) (ho : PE X o td) : PC X .In i o (xqf ty td) := by
  intro pins s σ H Q I h
  refine thn (hi pins s σ H _ I h) fun iv s1 ⟨y, H1, I1, ry, q1⟩ => thn (ho pins s1 σ H1 _ I1 q1) fun u s2 ⟨x, H2, I2, rx, a, ov, ex, g, q2⟩ => ?_
  subst ex
  obtain rfl : u = Value.ref a := rx
  exact xqe hu I2 g ry fun s3 I3 => ⟨.bl ov.isSome, H2, I3, rfl, q2⟩
theorem xls (hu : X.A.units + 1 < cLine) (hi : PE X i ty) (ho : PE X o td) : PC X .NotIn i o (xnP ty td) := by
  intro pins s σ H Q I h
  refine thn (hi pins s σ H _ I h) fun iv s1 ⟨y, H1, I1, ry, q1⟩ => thn (ho pins s1 σ H1 _ I1 q1) fun u s2 ⟨x, H2, I2, rx, a, ov, ex, g, q2⟩ => ?_
  subst ex
  obtain rfl : u = Value.ref a := rx
  exact xnO hu I2 g ry fun s3 I3 => ⟨.bl (!ov.isSome), H2, I3, rfl, q2⟩
theorem xgR (hu : X.A.units + 1 < cLine) (ho : PE X o td) (hi : PE X i ty) (hv : PE X value tv) (hs : swapsWith value (some (.Subscript o i pos')) pos.line X.env = pure false) :
    PS X (.Assign [.Subscript o i pos'] value pos) (xpG td ty tv) := by
  intro pins s σ H D I h
  refine wpAny_Assign_Subscript (thn (hv pins s σ H _ I h) fun r s1 ⟨v, H1, I1, rv, q1⟩ => thn (ho pins s1 σ H1 _ I1 q1) fun u s2 ⟨x, H2, I2, rx, q2⟩ => thn (hi pins s2 σ H2 _ I2 q2) fun iv s3 ⟨y, H3, I3, ry, a, H4, ex, g, q3⟩ => ?_) hs
  subst ex
  obtain rfl : u = Value.ref a := rx
  exact xlq hu I3 g ry rv fun s4 I4 => ⟨σ, H4, I4, q3⟩
end
theorem xms {P : Program} {w : World} {H : Hp} (h : Heap) (hb : sysModules < h.objs.size) : xS P w H (h.push { cls := .type "dict", data := .dict #[] }) h.objs.size (.dK []) :=
  ⟨Nat.zero_le _, beq_eq_false_iff_ne.mpr (Ne.symm (Nat.ne_of_lt hb)), [], .nil, Heap.DictOf.new h⟩
def xoX : TE := fun _ H Q => ∀ p, H p = none → Q (.ref p) (upd H p (.dK []))
section
variable {X : Cx} {pos : Pos}
theorem xfO : PE X (.Dict [] [] pos) xoX := fun pins s σ H Q I h =>
  wpAny_Dict_empty ⟨.ref s.heap.objs.size, _, I.laid (a := s.heap.objs.size) (o := .dK []) (t' := s.toks) (fun _ _ q => Heap.get?_push_of_some _ q) (Nat.le_refl _) (xms s.heap I.big), rfl, h _ (I.hok.fresh (Nat.le_refl _))⟩
end
section
variable {X : Cx} {pins : List (Addr × Obj)} {σ : St} {H : Hp} {s : Shared} {a : Addr} {y d : V} {u r : Value} {o : Option V} {A : Around} {E : Value → Shared → Prop}
end
section
variable {X : Cx} {o e f : Expr} {apos cpos : Pos} {td ty tx : TE}
end
section
variable {X : Cx} {pins : List (Addr × Obj)} {σ : St} {H : Hp} {s : Shared} {a : Addr} {kvs : List (Key × V)} {A : Around} {E : Value → Shared → Prop}
end
section
variable {X : Cx} {pins : List (Addr × Obj)} {σ : St} {H : Hp} {s : Shared} {a : Addr} {y : V} {u : Value} {A : Around} {E : Value → Shared → Prop}
end
end L2
namespace Att
open PySem PySem.W PySem.Calls PyProof.Rows
theorem xgc {P : Params} {h : Heap} : ∀ (ns : List Int) (vs : List Value), WellAll P h vs (ns.map WData.int) → IntsAre vs ns := by
  intro ns
  induction ns with
  | nil =>
    intro vs w
    rw [List.map_nil] at w
    cases w
    exact .nil
  | cons n ns ih =>
    intro vs w
    rw [List.map_cons] at w
    cases w with
    | cons a b =>
      cases a
      exact .cons _ _ (ih _ b)
theorem xlt {l : OpenLaw} {n : Nat} (hn : l.most = some n) {P : Params} {h : Heap} {args : List WData} {vals : List Value}
    (hpre : l.row.toRowW.claim.pre args = true) (hwl : WellAll P h vals args) :
    ∃ a vs ns, vals = [Value.ref a] ∧ args = [WData.list (ns.map WData.int)] ∧ h.get? a = some { cls := .type "list", data := .seq vs.toArray } ∧ IntsAre vs ns ∧ ns.length ≤ n := by
  have hsh : WShape.hasAll [] args [.list .int] = true := (pre_splitW hpre).1
  have hc : l.pre.holds [] { args := args } = true := (pre_splitW hpre).2
  obtain ⟨d, r, rfl, h1, h2⟩ := hasAllW_cons hsh
  obtain rfl := hasAllW_nil h2
  obtain ⟨xs, rfl, h3⟩ := hasW_list h1
  obtain ⟨ns, rfl⟩ := items_int h3
  have hlen : ns.length ≤ n := by
    unfold OpenLaw.pre at hc
    have h4 : (WTm.not (.lt (.lit (.int (n : Int))) (.len (.arg 0)))).holds [] { args := [.list (ns.map .int)] } = true := by
      have h4 := (holds_andW hc).1
      rw [hn] at h4
      exact h4
    have h5 := condW_of h4 (w_not (w_lt w_lit (w_len_list (w_arg rfl))))
    rw [List.length_map] at h5
    refine Nat.le_of_not_lt fun q => ?_
    have q' : (n : Int) < ((ns.length : Nat) : Int) := by omega
    first
      | (rw [decide_eq_true q'] at h5; exact absurd h5 (by decide))
      | (simp at h5; omega)
  cases hwl with
  | cons w1 w2 =>
    cases w2
    cases w1 with
    | list ho hall => exact ⟨_, _, ns, rfl, rfl, ho, xgc ns _ hall, hlen⟩
theorem xlu (l : OpenLaw) (args : List WData) : l.row.toRowW.claim.post args (.bool true) args = true :=
  postW_of (r := l.row.toRowW) (X := (true == true))
    (show WShape.has [] (.bool true) .bool = true by first | rfl | decide | simp [WShape.has, WShape.arms, WShape.armsAll])
    (show (WTm.eq .res (.lit (.bool true))).value [] { args := args, res := some (.bool true), after := args } = some (.bool (true == true)) from w_eq_bool (w_res rfl) w_lit) rfl
theorem xi9 {l : OpenLaw} {n : Nat} {q : Program} {loose : List Str} {XP : (Str → Option Value) → Heap → Prop} {YP : World → Heap → Prop} {d : DefRec}
    (hn : l.most = some n) (hdf : d.params.defaults = [])
    (call : ∀ (w : World) (s₀ s₁ : Shared) (mg mb : Str → Option Value) (fa : Addr) (o : Obj) (pm cd doc : Value) (a : Addr) (vs : List Value) (ns : List Int),
      Ground q loose [] XP w s₀ mg mb s₁.heap → YP w s₁.heap →
      s₁.heap.get? fa = some o → o.data = .func (docDef d.name d.params d.body d.scope pm cd doc) → s₁.heap.CodeRec cd d.name → mg d.name = some (.ref fa) →
      s₁.heap.get? a = some { cls := .type "list", data := .seq vs.toArray } → IntsAre vs ns → ns.length ≤ n → s₁.gens = #[] →
      codeAny (model l.prog w) callerA (.call (.ref fa) ⟨[.ref a], []⟩) (fun r s' => r = .ok (.ret (.bool true)) ∧ OldK s₁.heap s'.heap ∧ s'.os = s₁.os ∧ AllBare s'.gens) s₁) :
    WalkO q loose XP YP l.row.toRowW d [] (fun f vs => PySem.call f vs) := by
  intro w s₀ s₁ mg mb G Y fa o pm cd doc dV kV ho hd hcd hD hmg hg args vals as hpre hlay hrd hwl hlo
  obtain rfl : dV = .none := Dflts.none hD hdf
  obtain rfl : kV = .none := Dflts.noKw hD
  obtain ⟨a, vs, ns, rfl, rfl, hobj, hints, hlen⟩ := xlt hn hpre hwl
  refine enter_call (codeAny_mono (call w s₀ s₁ mg mb fa o pm cd doc a vs ns G Y ho (fd_plain hd) hcd hmg hobj hints hlen hg) fun r s' hq => ?_)
  obtain ⟨rfl, h2, h3, h4⟩ := hq
  exact ⟨.inl ⟨.bool true, .bool true, [], rfl, fun _ => rfl, .bool true, xlu l _, fun _ => ⟨List.Pairwise.nil, fun _ hm => (nomatch hm)⟩⟩, h2, h3, h4⟩
section
variable {prog : Program} {w : World} {A : Around} {E : Value → Shared → Prop} {s : Shared} {K : Frag}
end
end Att
namespace L2
open PySem PySem.Spec PyProof.Rows
theorem xhr : ∀ {vs : List Value} {ns : List Int}, IntsAre vs ns → Vals (ns.map V.int) vs
  | _, _, .nil => .nil
  | _, _, .cons n t h => .cons ⟨t, rfl⟩ (xhr h)
end L2
namespace L2
open PySem PySem.Spec PyProof.Rows
end L2
namespace L2
open PySem PySem.Spec PyProof.Rows
def inClass (s : Stmt) (j : Nat) : Stmt := match s with
  | .ClassDef _ _ _ body _ _ _ _ _ _ _ => body.getD j (.Pass ⟨0, 0, 0, 0⟩)
  | _ => .Pass ⟨0, 0, 0, 0⟩
def xj (s : Stmt) : Arguments := match s with
  | .FunctionDef _ a _ _ _ _ _ _ _ _ => a
  | _ => { posonlyargs := [], args := [], vararg := none, kwonlyargs := [], kw_defaults := [], kwarg := none, defaults := [] }
def xg (s : Stmt) : List Stmt := match s with
  | .FunctionDef _ _ b _ _ _ _ _ _ _ => b
  | _ => []
def xb (s : Stmt) : Scope := match s with
  | .FunctionDef _ _ _ _ _ _ sc _ _ _ => sc
  | _ => { kind := .function, names := [], isGenerator := false, isCoroutine := false }
abbrev CX0 : CXT := fun _ _ _ _ _ _ => False
abbrev E0 : XK := fun _ _ _ => False
theorem xr {X : Cx} : Passes CX0 X E0 := fun _ _ _ _ _ _ _ h => h.elim
structure Fun (K : PySem.W.Frag) (x qual : Str) (st : Stmt) (f : Addr) (fd : FuncData) : Prop where
  ex : ∃ (oc : Value) (od : Option Addr) (kV doc pm : Value) (an : Option Addr) (cdv ct : Value) (osl : Array (Option Value)),
    fd = PySem.W.fnOf x qual (xj st) (xg st) (xb st) .none kV doc pm an cdv ct ∧ K.lookup f = some ⟨oc, od, .func fd, osl⟩ ∧ PySem.W.codeIn K cdv qual = true
  kp : PySem.W.keepIn K (.ref f) = true
section
variable {P : Program} {w : World} {K : PySem.W.Frag} {mg : Str → Option Value} {base : Heap}
theorem Fun.ok {x qual : Str} {st : Stmt} {f : Addr} {fd : FuncData} {N ps : List Str} {k : Nat} {sp : Sp} (F : Fun K x qual st f fd) (S : xt N ps (xb st)) (len : ∀ vs H Q E, sp vs H Q E → vs.length = ps.length)
    (hbody : ∀ (cdv : Value) (A : Around) (outer : List Env) (s : Shared) (H : Hp) (vs : List V) (Q : VK) (E : XK), xX k (A.deeper (envOfC qual (xb st) s.heap.objs.size f cdv)) → sp vs H Q E →
      ∃ t, PSs (xaZ CX0 P w K mg base N qual (xb st) f cdv A outer s H E).nox (xg st) t ∧ t { nx := fun _ H' => Q .non H', rt := Q } (start N vs) H) : xA P w K mg base CX0 (k + 1) f fd ps sp := by
  obtain ⟨oc, od, kV, doc, pm, an, cdv, ct, osl, rfl, lk, hcd⟩ := F.ex
  refine xh9 lk hcd S len fun A outer s H vs Q E hr hsp => ?_
  obtain ⟨t, h, q⟩ := hbody cdv A outer s H vs Q E hr hsp
  exact ⟨t, h.nox, q⟩
theorem Fun.binds {x qual : Str} {st : Stmt} {f : Addr} {fd : FuncData} {ps : List Str} (F : Fun K x qual st f fd)
    (h : ∀ (kV doc pm : Value) (an : Option Addr) (cdv ct : Value) (us : List Value), us.length = ps.length → bindArgs (PySem.W.fnOf x qual (xj st) (xg st) (xb st) .none kV doc pm an cdv ct) ⟨us, []⟩ = pure (ps.zip us)) : Binds K fd ps [] := by
  obtain ⟨oc, od, kV, doc, pm, an, cdv, ct, osl, rfl, lk, hcd⟩ := F.ex
  exact .all (h kV doc pm an cdv ct)
theorem xw {x qual : Str} {st : Stmt} {f : Addr} {oc : Value} {od an : Option Addr} {osl : Array (Option Value)} {kV doc pm cdv ct : Value} (l : K.lookup f = some ⟨oc, od, .func (PySem.W.fnOf x qual (xj st) (xg st) (xb st) .none kV doc pm an cdv ct), osl⟩)
    (c : PySem.W.codeIn K cdv qual = true) (k : PySem.W.keepIn K (.ref f) = true) : Fun K x qual st f (PySem.W.fnOf x qual (xj st) (xg st) (xb st) .none kV doc pm an cdv ct) := ⟨⟨oc, od, kV, doc, pm, an, cdv, ct, osl, rfl, l, c⟩, k⟩
end
theorem xeV {A : Around} {k : Nat} (hr : xX k A) : A.units + 1 < cLine := Nat.lt_of_le_of_lt (Nat.add_le_add_left (by decide : 1 ≤ 64) _) hr.units
section
variable {X : Cx}
end
def xc (H H' : Hp) : Prop := ∀ b o, H b = some o → H' b = some o
theorem xc.refl (H : Hp) : xc H H := fun _ _ h => h
theorem xc.trans {H H1 H2 : Hp} (a : xc H H1) (b : xc H1 H2) : xc H H2 := fun c o h => b c o (a c o h)
theorem xc.free {H H' : Hp} (e : xc H H') {l : Addr} (h : H' l = Option.none) : H l = Option.none := by
  cases q : H l with
  | none => rfl
  | some o =>
    rw [e l o q] at h
    cases h
theorem xc.seq {K : PySem.W.Frag} {H H' : Hp} {a : Addr} {xs : List V} (e : xc H H') (h : SqL K H a xs) : SqL K H' a xs := by
  rcases h with (h | ⟨o, h⟩) | h
  · exact .inl (.inl (e _ _ h))
  · exact .inl (.inr ⟨o, e _ _ h⟩)
  · exact .inr h
section
variable {X : Cx}
end
section
variable {κ : Type} [DecidableEq κ]
theorem xjE : ∀ {l : List κ} {k : κ}, l.Nodup → ¬ k ∈ l → (l ++ [k]).Nodup
  | [], k, _, _ => by simp
  | a :: r, k, h, hk => by
    obtain ⟨h1, h2⟩ := List.nodup_cons.mp h
    show (a :: (r ++ [k])).Nodup
    refine List.nodup_cons.mpr ⟨fun m => ?_, xjE h2 fun m => hk (List.mem_cons.mpr (Or.inr m))⟩
    rcases List.mem_append.mp m with q | q
    · exact h1 q
    · exact hk (List.mem_cons.mpr (Or.inl (List.mem_singleton.mp q).symm))
end
end L2
set_option maxHeartbeats 4000000
namespace L2
open PySem PySem.Spec PyProof.Rows
section
variable {X : Cx}
theorem PE.imp {e : Expr} {t t' : TE} (h : PE X e t) (i : ∀ σ H Q, t' σ H Q → t σ H Q) : PE X e t' :=
 fun pins s σ H Q I q => h pins s σ H Q I (i σ H Q q)
theorem PT.imp {e : Expr} {t t' : TT} (h : PT X e t) (i : ∀ σ H Q, t' σ H Q → t σ H Q) : PT X e t' :=
 fun pins s σ H Q I q => h pins s σ H Q I (i σ H Q q)
theorem OpR.imp {f : Value → Value → Sem Value} {r r' : R2} (h : OpR X f r) (i : ∀ x y H Q, r' x y H Q → r x y H Q) : OpR X f r' :=
 fun pins s σ H x y v u Q I rx ry q => h pins s σ H x y v u Q I rx ry (i x y H Q q)
theorem UnR.imp {f : Value → Sem Value} {r r' : V → Hp → VK → Prop} (h : UnR X f r) (i : ∀ x H Q, r' x H Q → r x H Q) : UnR X f r' :=
 fun pins s σ H x v Q I rx q => h pins s σ H x v Q I rx (i x H Q q)
theorem zp.imp {f : Value} {r r' : List V → Hp → VK → Prop} (h : zp X f r) (i : ∀ xs H Q, r' xs H Q → r xs H Q) : zp X f r' :=
 fun pins s σ H xs us Q I rv q => h pins s σ H xs us Q I rv (i xs H Q q)
theorem xb8 {e : Expr} {t u : TE} (h : PE X e t) (k : PE X e u) : PE X e (fun σ H Q => t σ H Q ∨ u σ H Q) :=
 fun pins s σ H Q I q => q.elim (fun z => h pins s σ H Q I z) (fun z => k pins s σ H Q I z)
def uW (i : Nat) : TE := fun σ H Q => match σ[i]? with
 | some (some v) => Q v H
 | _ => False
theorem xmt {i : Nat} {σ : St} {H : Hp} {Q : VK} (q : uW i σ H Q) : xoB i σ H Q := by
 unfold uW at q
 split at q
 ·rename_i v e; exact ⟨v, e, q⟩
 ·exact q.elim
theorem cv (i : Nat) {x : Str} {pos : Pos} (hN : X.N[i]? = some x := by rfl) (hv : Vis X.env.scope x := by first | exact Or.inl rfl | exact Or.inr (Or.inl rfl) | exact Or.inr (Or.inr rfl)) (hd : (x == ("__debug__" : Str)) = false := by decide)
  (hcd : (x == ("__classdict__" : Str)) = false := by decide) : PE X (.Name x pos) (uW i) := (xif hN hv hd hcd).imp fun _ _ _ q => xmt q
def kI (C : Int → Int → Prop) (g : Int → Int → V) : R2 := fun x y H Q => match x with
 | .int i => (match y with
  | .int j => C i j ∧ Q (g i j) H
  | _ => False)
 | _ => False
def kI0 (g : Int → Int → V) : R2 := fun x y H Q => match x with
 | .int i => (match y with
  | .int j => Q (g i j) H
  | _ => False)
 | _ => False
theorem xeh {C : Int → Int → Prop} {g : Int → Int → V} {x y : V} {H : Hp} {Q : VK} (q : kI C g x y H Q) : rI C g x y H Q := by
 cases x with
 | int i =>
  cases y with
  | int j => exact ⟨i, j, rfl, rfl, q.1, q.2⟩
  | _ => exact False.elim q
 | _ => exact False.elim q
theorem xah {g : Int → Int → V} {x y : V} {H : Hp} {Q : VK} (q : kI0 g x y H Q) : rI0 g x y H Q := by
 cases x with
 | int i =>
  cases y with
  | int j => exact ⟨i, j, rfl, rfl, q⟩
  | _ => exact False.elim q
 | _ => exact False.elim q
theorem yc : OpR X (binaryOp .Add) (kI0 fun i j => .int (i + j)) := xoJ.imp fun _ _ _ _ => xah
theorem uB : OpR X (binaryOp .Sub) (kI0 fun i j => .int (i - j)) := xoK.imp fun _ _ _ _ => xah
theorem xeW : OpR X (binaryOp .Mult) (kI xkf fun i j => .int (i * j)) := xoL.imp fun _ _ _ _ => xeh
def xns (_i j : Int) : Prop := 0 < j ∧ j.natAbs.log2 < 9000
theorem xbo : OpR X (binaryOp .FloorDiv) (kI xns fun i j => .int (i / j)) :=
 (opI (C := xns) (g := fun i j => i / j) fun i j _ _ _ _ _ hc q => by
  have h0 : 0 < j := hc.1
  rw [← Int.fdiv_eq_ediv_of_nonneg i (Int.le_of_lt h0)] at q
  exact floordiv_int (Int.ne_of_gt h0) q (.inl (PyProof.noPylong_of_log2 hc.2))).imp fun _ _ _ _ => xeh
theorem ye : OpR X (binaryOp .Mod) (kI (fun _ j => 0 < j) fun i j => .int (i % j)) := xoM.imp fun _ _ _ _ => xeh
theorem xeX : OpR X (binaryOp .Pow) (kI xoI fun i j => .int (i ^ j.toNat)) := xoN.imp fun _ _ _ _ => xeh
theorem xgS : OpR X (compareOp .Lt) (kI0 fun i j => .bl (decide (i < j))) := xpx.imp fun _ _ _ _ => xah
theorem xfP : OpR X (compareOp .LtE) (kI0 fun i j => .bl (decide (i ≤ j))) := xpy.imp fun _ _ _ _ => xah
theorem xfQ : OpR X (compareOp .Gt) (kI0 fun i j => .bl (decide (j < i))) := xpz.imp fun _ _ _ _ => xah
theorem xmu : OpR X (compareOp .GtE) (kI0 fun i j => .bl (decide (j ≤ i))) := xpA.imp fun _ _ _ _ => xah
theorem xib {a b : V} {p : Prop} [Decidable p] (h : a = b ↔ p) : decide (a = b) = decide p := by
 by_cases e : p
 ·rw [decide_eq_true e, decide_eq_true (h.mpr e)]
 ·rw [decide_eq_false e, decide_eq_false (fun q => e (h.mp q))]
theorem xau : OpR X (compareOp .Eq) (kI0 fun i j => .bl (decide (i = j))) := xnp.imp fun x y H Q q => by
 obtain ⟨i, j, rfl, rfl, q⟩ := xah q
 exact ⟨rfl, by rw [xib (p := i = j) ⟨fun e => V.int.inj e, fun e => by rw [e]⟩]; exact q⟩
theorem xnt : OpR X (compareOp .NotEq) (kI0 fun i j => .bl (!decide (i = j))) := xnq.imp fun x y H Q q => by
 obtain ⟨i, j, rfl, rfl, q⟩ := xah q
 exact ⟨rfl, by rw [xib (p := i = j) ⟨fun e => V.int.inj e, fun e => by rw [e]⟩]; exact q⟩
def kS0 (g : Str → Str → V) : R2 := fun x y H Q => match x with
 | .str i => (match y with
  | .str j => Q (g i j) H
  | _ => False)
 | _ => False
theorem xjF {g : Str → Str → V} {x y : V} {H : Hp} {Q : VK} (q : kS0 g x y H Q) : ∃ i j, x = .str i ∧ y = .str j ∧ Q (g i j) H := by
 cases x with
 | str i =>
  cases y with
  | str j => exact ⟨i, j, rfl, rfl, q⟩
  | _ => exact False.elim q
 | _ => exact False.elim q
theorem xic : OpR X (compareOp .Eq) (kS0 fun i j => .bl (decide (i = j))) := xnp.imp fun x y H Q q => by
 obtain ⟨i, j, rfl, rfl, q⟩ := xjF q
 exact ⟨rfl, by rw [xib (p := i = j) ⟨fun e => V.str.inj e, fun e => by rw [e]⟩]; exact q⟩
theorem xnu : OpR X (compareOp .NotEq) (kS0 fun i j => .bl (!decide (i = j))) := xnq.imp fun x y H Q q => by
 obtain ⟨i, j, rfl, rfl, q⟩ := xjF q
 exact ⟨rfl, by rw [xib (p := i = j) ⟨fun e => V.str.inj e, fun e => by rw [e]⟩]; exact q⟩
def kU (g : Int → V) : V → Hp → VK → Prop := fun x H Q => match x with
 | .int i => Q (g i) H
 | _ => False
theorem xeY : UnR X (unaryOp .USub) (kU fun i => .int (-i)) := xoP.imp fun x H Q q => by
 cases x with
 | int i => exact ⟨i, rfl, q⟩
 | _ => exact False.elim q
def xid (Q : Bool → Hp → Prop) : VK := fun x H1 => match x with
 | .bl k => Q k H1
 | _ => False
theorem xb9 {Q : Bool → Hp → Prop} {x : V} {H1 : Hp} (q : xid Q x H1) : ∃ k, x = .bl k ∧ Q k H1 := by
 cases x with
 | bl k => exact ⟨k, rfl, q⟩
 | _ => exact False.elim q
def cB (t : TE) : TT := fun σ H Q => t σ H (xid Q)
variable {a b c : Expr} {ta tb tc : TE} {tA tB' : TT} {pos : Pos} {rest : List Expr}
theorem xJ {op : CmpOp} {r : R2} (ho : OpR X (compareOp op) r) (ha : PE X a ta) (hb : PE X b tb) (hm : behindInMarks op b = false := by exact xli _) : PT X (.Compare a [op] [b] pos) (cB (tOp r ta tb)) := by
 intro pins s σ H Q I h
 refine wpAny_isTrue_Compare1 (thn (ha pins s σ H _ I h) fun v s1 ⟨x, H1, I1, r1, q1⟩ => thn (hb pins s1 σ H1 _ I1 q1) fun u s2 ⟨y, H2, I2, r2, q2⟩ =>
  thn (ho pins s2 σ H2 x y v u _ I2 r1 r2 q2) fun c s3 ⟨z, H3, I3, r3, q3⟩ => ?_) hm
 obtain ⟨k, rfl, q⟩ := xb9 q3
 cases r3
 exact wpAny_truthy_bool ⟨H3, I3, q⟩
theorem jJ {op : CmpOp} {r : R2} (ho : OpR X (compareOp op) r) (ha : PE X a ta) (hb : PE X b tb) (hm : behindInMarks op b = false := by exact xli _) : PE X (.Compare a [op] [b] pos) (tOp r ta tb) := xnH ho ha hb hm
theorem uH {e : Expr} {t : TE} (h : PE X e t) (he : ∀ whole, isTrue e X.env whole = (do let v ← whole; standAt e.pos; holding [v] (truthy v)) := by intro _; rfl) : PT X e (cB t) := by
 intro pins s σ H Q I hw
 refine isTrue_plain (thn (h pins s σ H _ I hw) fun v s1 ⟨x, H1, I1, r1, q1⟩ => ?_) (he _)
 obtain ⟨d, rfl, q⟩ := xb9 q1
 cases r1
 exact wpAny_truthy_bool ⟨H1, I1, q⟩
def xqg (t u : TT) : TT := fun σ H Q => t σ H fun c H1 => (c = true → u σ H1 Q) ∧ (c = false → Q false H1)
def cOr (t u : TT) : TT := fun σ H Q => t σ H fun c H1 => (c = true → Q true H1) ∧ (c = false → u σ H1 Q)
theorem xca (ha : PT X a tA) (hb : PW X (.BoolOp .And (b :: rest) pos) tB') : PW X (.BoolOp .And (a :: b :: rest) pos) (xqg tA tB') := by
 intro wh pins s σ H Q I h
 refine isTrue_and (thn (ha pins s σ H _ I h) fun c s1 ⟨H1, I1, q1⟩ => ?_)
 cases c with
 | true => exact hb wh pins s1 σ H1 Q I1 (q1.1 rfl)
 | false => exact ⟨H1, I1, q1.2 rfl⟩
theorem xdx (ha : PT X a tA) (hb : PW X (.BoolOp .Or (b :: rest) pos) tB') : PW X (.BoolOp .Or (a :: b :: rest) pos) (cOr tA tB') := by
 intro wh pins s σ H Q I h
 refine isTrue_or (thn (ha pins s σ H _ I h) fun c s1 ⟨H1, I1, q1⟩ => ?_)
 cases c with
 | true => exact ⟨H1, I1, q1.1 rfl⟩
 | false => exact hb wh pins s1 σ H1 Q I1 (q1.2 rfl)
def xpH (ta tb : TE) : TE := fun σ H Q => ta σ H (xid fun c H1 => (c = true → tb σ H1 Q) ∧ (c = false → Q (.bl false) H1))
def xpI (ta : TE) : TE := fun σ H Q => ta σ H (xid fun c H1 => Q (.bl (!c)) H1)
theorem vT (ha : PE X a ta) (hb : PE X (.BoolOp .And (b :: rest) pos) tb) : PE X (.BoolOp .And (a :: b :: rest) pos) (xpH ta tb) := by
 intro pins s σ H Q I h
 refine BoolOp_and (thn (ha pins s σ H _ I h) fun v s1 ⟨x, H1, I1, r1, q1⟩ => ?_)
 obtain ⟨c, rfl, q1⟩ := xb9 q1
 cases r1
 refine wpAny_truthy_bool ?_
 cases c with
 | true => exact hb pins s1 σ H1 Q I1 (q1.1 rfl)
 | false => exact ⟨.bl false, H1, I1, rfl, q1.2 rfl⟩
theorem xoY (ha : PE X a ta) : PE X (.UnaryOp .Not a pos) (xpI ta) := by
 intro pins s σ H Q I h
 refine UnaryOp_ (thn (ha pins s σ H _ I h) fun v s1 ⟨x, H1, I1, r1, q1⟩ => ?_)
 obtain ⟨c, rfl, q1⟩ := xb9 q1
 cases r1
 exact not_of (wpAny_truthy_bool ⟨.bl (!c), H1, I1, rfl, q1⟩)
def xqh (c : TT) (t u : TS) : TS := fun D σ H => c σ H fun b H1 => (b = true → t D σ H1) ∧ (b = false → u D σ H1)
theorem xN {c : Expr} {p q : List Stmt} {tc : TT} {t u : TS} (hc : PT X c tc) (ha : PSs X p t) (hb : PSs X q u) : PS X (.If c p q pos) (xqh tc t u) := by
 intro pins s σ H D I h
 refine wpAny_If (thn (hc pins s σ H _ I h) fun d s1 ⟨H1, I1, q1⟩ => ?_)
 cases d with
 | true => exact ha pins s1 σ H1 D I1 (q1.1 rfl)
 | false => exact hb pins s1 σ H1 D I1 (q1.2 rfl)
@[irreducible] def xeZ (c : TT) (tb : TS) (D : Ends) (σ : St) (H : Hp) : Prop := ∃ W : Nat → St → Hp → Prop, (∃ m, W m σ H) ∧ ∀ m σ H, W m σ H →
 c σ H fun b H1 => (b = true → ∃ N : St → Hp → Prop, (∀ σ' H', N σ' H' → ∃ m', m' < m ∧ W m' σ' H') ∧ tb { D with nx := N, ct := N, bk := D.nx } σ H1) ∧ (b = false → D.nx σ H1)
def xlv (c : TT) (tb : TS) : TS := fun D σ H => xeZ c tb D σ H
@[irreducible] def vE (J : It) (g : TG) (tb : TS) (D : Ends) (σ : St) (H1 : Hp) : Prop := ∃ W : Nat → Nat → St → Hp → Prop, (∃ m, W 0 m σ H1) ∧ ∀ i m σ H, W i m σ H →
 (J.stop i H ∧ D.nx σ H) ∨ (J.go i H ∧ ∃ N : St → Hp → Prop, (∀ σ' H', N σ' H' → ∃ m', m' < m ∧ W (i + 1) m' σ' H') ∧ ∀ x H', J.yld i H x H' → g x σ H' fun σ2 H2 => tb { D with nx := N, ct := N, bk := D.nx } σ2 H2)
def xmv (wi : TI) (g : TG) (tb : TS) : TS := fun D σ H => wi σ H fun J H1 => vE J g tb D σ H1
theorem xnQ (wi : TI) (g : TG) (tb : TS) : xmv wi g tb = xmi wi g tb := by
 funext D σ H
 unfold xmv xmi
 congr 1
 funext J H1
 unfold vE
 rfl
theorem yF {tg iter : Expr} {body : List Stmt} {wi : TI} {g : TG} {tb : TS} {pos : Pos} (hp : PassesOwn (model X.prog X.w) X.A X.env X.xe) (hc : X.calm = true) (hi : PI X tg iter wi) (hg : PG X tg g) (hb : PSs X body tb)
  (hs : ∀ x, foldedSetIterable iter X.env x = pure x := by intro _; rfl) : PS X (.For tg iter body [] pos) (xmv wi g tb) := by
 rw [xnQ]
 exact xoG hp hc hi hg hb hs
def xqi (t : TS) : TS := fun D σ H => ∃ M : L2.St → Hp → Prop, t { D with nx := M } σ H ∧ ∀ σ' H', M σ' H' → D.nx σ' H'
theorem xav {st : Stmt} {t : TS} (h : PS X st t) : PS X st (xqi t) := by
 intro pins s σ H D I q
 obtain ⟨M, q1, q2⟩ := q
 refine thn (h pins s σ H _ I q1) fun f s' z => ?_
 cases f with
 | next => obtain ⟨σ', H', I', m⟩ := z; exact ⟨σ', H', I', q2 σ' H' m⟩
 | brk => exact z
 | cont => exact z
 | ret v => exact z
end
end L2
namespace L2
open PySem PySem.Spec PyProof.Rows
def yV (cells : List (Str × Addr)) : List (Str × NameKind) → List (Str × Addr) → List (Str × Addr)
 | [], cs => cs
 | (n, k) :: r, cs => yV cells r (if k == .free then (n, (cells.lookup n).getD 0) :: cs else cs)
theorem xbM {scope : Scope} {env : Env} (h : ∀ y ∈ scope.names, y.2 = .free → ∃ c, env.cells.lookup y.1 = some c) : closureFor scope env = pure (yV env.cells scope.names []) := by
 have all : ∀ (l : List (Str × NameKind)) (cs : List (Str × Addr)), (∀ y ∈ l, y.2 = .free → ∃ c, env.cells.lookup y.1 = some c) →
   (forIn l cs fun x r => match x with
    | (name, kind) => if (kind == NameKind.free) = true then do let a ← cellOf env name; pure (ForInStep.yield ((name, a) :: r)) else pure (ForInStep.yield r) : Sem (List (Str × Addr))) = pure (yV env.cells l cs) := by
  intro l
  induction l with
  | nil => intro cs _; rfl
  | cons y r ih =>
   intro cs hl
   obtain ⟨n, k⟩ := y
   rw [List.forIn_cons]
   by_cases hk : k = .free
   ·subst hk
    obtain ⟨c, hc⟩ := hl (n, .free) List.mem_cons_self rfl
    have e : cellOf env n = pure c := by unfold cellOf; rw [hc]
    simp only [beq_self_eq_true, if_true, e, pure_bind]
    rw [ih _ fun z hz => hl z (List.mem_cons_of_mem _ hz)]
    simp [yV, hc]
   ·have hb : (k == NameKind.free) = false := by simpa using hk
    simp only [hb, Bool.false_eq_true, if_false, pure_bind]
    rw [ih _ fun z hz => hl z (List.mem_cons_of_mem _ hz)]
    simp [yV, hb]
 unfold closureFor
 have := all scope.names [] h
 simp only [bind_pure] at this ⊢
 exact this
theorem xdy {cells : List (Str × Addr)} : ∀ {l : List (Str × NameKind)} {cs : List (Str × Addr)} {x : Str} {c : Addr}, (∀ y ∈ l, y.2 = .free → ∃ c, cells.lookup y.1 = some c) → (yV cells l cs).lookup x = some c →
  cs.lookup x = some c ∨ cells.lookup x = some c
 | [], cs, x, c, _, h => .inl h
 | (n, k) :: r, cs, x, c, hl, h => by
  unfold yV at h
  rcases xdy (fun z hz => hl z (List.mem_cons_of_mem _ hz)) h with q | q
  ·split at q
   ·rename_i hk
    rw [List.lookup_cons] at q
    split at q
    ·rename_i hx
     obtain ⟨c', hc⟩ := hl (n, k) List.mem_cons_self (by simpa using hk)
     have e : x = n := by simpa using hx
     subst e
     rw [hc] at q
     right
     rw [hc]
     simpa using q
    ·exact .inl q
   ·exact .inl q
  ·exact .inr q
theorem xa0 {cells : List (Str × Addr)} : ∀ {l : List (Str × NameKind)} {cs : List (Str × Addr)} {x : Str}, (x, NameKind.free) ∈ l ∨ (∃ c, cs.lookup x = some c) → ∃ c, (yV cells l cs).lookup x = some c
 | [], cs, x, h => by
  rcases h with h | h
  ·simp at h
  ·exact h
 | (n, k) :: r, cs, x, h => by
  unfold yV
  refine xa0 ?_
  rcases h with h | ⟨c, h⟩
  ·rcases List.mem_cons.mp h with h | h
   ·cases h
    right
    simp
   ·exact .inl h
  ·right
   split
   ·rw [List.lookup_cons]
    split
    ·exact ⟨_, rfl⟩
    ·exact ⟨c, h⟩
   ·exact ⟨c, h⟩
def Cx.blk (X : Cx) (scope : Scope) (C : Addr) (Nc : List Str) (s₂ : Shared) (H₂ : Hp) (fp : List Addr) : Cx :=
 { X with N := Nc, s₀ := s₂, H₀ := H₂, env := compEnvC scope (yV X.env.cells scope.names []) C X.env, outer := X.stack, stack := X.stack, ex := fp, fn := fun _ => false, pn := [], xe := fun _ _ => False, cp := fun _ => false }
def xdz (X : Cx) (scope : Scope) : List Nat → List Str → Prop
 | [], [] => True
 | j :: js, y :: ys => (X.N[j]? = some y ∧ scope.names.lookup y = some .free ∧ (X.env.kindOf y = some .cell ∨ X.env.kindOf y = some .free)) ∧ xdz X scope js ys
 | _, _ => False
def uI (σ : St) (cap : List Nat) : St := cap.map fun j => (σ[j]?).getD none
structure vF (X : Cx) (scope : Scope) (x : Str) (cap : List Nat) (ys : List Str) : Prop where
 kind : scope.kind = .function
 nocell : ∀ y ∈ scope.names, y.2 ≠ .cell
 locs : ∀ y ∈ scope.names, y.2 = .local → scope.names.lookup y.1 = some .local
 lx : scope.names.lookup x = some .local
 fr : ∀ y ∈ scope.names, y.2 = .free → X.env.kindOf y.1 = some .cell ∨ X.env.kindOf y.1 = some .free
 cap : xdz X scope cap ys
 nd : (x :: ys).Nodup
theorem uJ {X : Cx} {scope : Scope} {x : Str} {cap : List Nat} {ys : List Str} (kind : scope.kind = .function) (h1 : (scope.names.all fun y => !(y.2 == .cell)) = true) (h2 : (scope.names.all fun y => !(y.2 == .local) || scope.names.lookup y.1 == some .local) = true)
  (hx : scope.names.lookup x = some .local) (h3 : (scope.names.all fun y => !(y.2 == .free) || (X.env.kindOf y.1 == some .cell || X.env.kindOf y.1 == some .free)) = true) (hcap : xdz X scope cap ys) (hnd : (x :: ys).Nodup) : vF X scope x cap ys := by
 refine ⟨kind, fun y hy e => ?_, fun y hy e => ?_, hx, fun y hy e => ?_, hcap, hnd⟩
 ·have := List.all_eq_true.mp h1 y hy
  rw [e] at this; exact absurd this (by decide)
 ·have := List.all_eq_true.mp h2 y hy
  rw [e] at this
  simpa using this
 ·have := List.all_eq_true.mp h3 y hy
  rw [e] at this
  simpa using this
theorem xbp {X : Cx} {scope : Scope} {σ : St} : ∀ {cap : List Nat} {ys : List Str} {i : Nat} {y : Str} {v : V}, xdz X scope cap ys → ys[i]? = some y → (uI σ cap)[i]? = some (some v) →
  ∃ j : Nat, X.N[j]? = some y ∧ σ[j]? = some (some v) ∧ scope.names.lookup y = some .free ∧ (X.env.kindOf y = some .cell ∨ X.env.kindOf y = some .free)
 | [], [], i, y, v, _, h, _ => by simp at h
 | j :: js, z :: zs, 0, y, v, ⟨⟨h1, h2, h3⟩, _⟩, e1, e2 => by
  simp at e1; subst e1
  refine ⟨j, h1, ?_, h2, h3⟩
  simp only [uI, List.map_cons, List.getElem?_cons_zero, Option.some.injEq] at e2
  cases q : σ[j]? with
  | none => rw [q] at e2; cases e2
  | some w => rw [q] at e2; simp at e2; rw [e2]
 | j :: js, z :: zs, i + 1, y, v, ⟨_, h⟩, e1, e2 => xbp (i := i) h (by simpa using e1) (by simpa [uI] using e2)
 | [], _ :: _, _, _, _, h, _, _ => h.elim
 | _ :: _, [], _, _, _, h, _, _ => h.elim
theorem xei {X : Cx} {scope : Scope} : ∀ {cap : List Nat} {ys : List Str}, xdz X scope cap ys → cap.length = ys.length
 | [], [], _ => rfl
 | _ :: _, _ :: _, ⟨_, h⟩ => by simp [xei h]
 | [], _ :: _, h => h.elim
 | _ :: _, [], h => h.elim
theorem xcb {l : List (Str × NameKind)} {y : Str} {k : NameKind} (h : l.lookup y = some k) : (y, k) ∈ l := PySem.mem_of_lookup h
theorem xcc {env : Env} : ∀ {names : List (Str × NameKind)} {x : Str}, names.lookup x = some .free →
  (names.map fun (n, k) => if (k == NameKind.free && env.scope.kind == .function && env.kindOf n == some .cell) then (n, NameKind.cell) else (n, k)).lookup x = some .cell ∨
  (names.map fun (n, k) => if (k == NameKind.free && env.scope.kind == .function && env.kindOf n == some .cell) then (n, NameKind.cell) else (n, k)).lookup x = some .free
 | [], _, h => by simp at h
 | (n, k) :: r, x, h => by
  have ih := @xcc env r x
  rw [List.map_cons]
  rw [List.lookup_cons] at h
  cases hx : x == n with
  | true =>
   rw [hx] at h
   simp only [Option.some.injEq] at h
   subst h
   dsimp only
   split
   ·left; rw [List.lookup_cons, hx]
   ·right; rw [List.lookup_cons, hx]
  | false =>
   rw [hx] at h
   dsimp only
   split
   ·rw [List.lookup_cons, hx]; exact ih h
   ·rw [List.lookup_cons, hx]; exact ih h
theorem jn {env : Env} : ∀ {names : List (Str × NameKind)} {x : Str} {k : NameKind},
  (names.map fun (n, k) => if (k == NameKind.free && env.scope.kind == .function && env.kindOf n == some .cell) then (n, NameKind.cell) else (n, k)).lookup x = some k → (k = .cell ∨ k = .free) → (∀ y ∈ names, y.2 ≠ .cell) → (x, NameKind.free) ∈ names
 | [], _, _, h, _, _ => by simp at h
 | (n, k') :: r, x, k, h, hk, hc => by
  rw [List.map_cons] at h
  have hc' : ∀ y ∈ r, y.2 ≠ .cell := fun y hy => hc y (List.mem_cons_of_mem _ hy)
  have nk : k' ≠ .cell := hc (n, k') List.mem_cons_self
  dsimp only at h
  split at h
  ·rename_i q
   rw [List.lookup_cons] at h
   split at h
   ·rename_i hx
    have e : x = n := by simpa using hx
    have e2 : k' = .free := by
     simp only [Bool.and_eq_true, beq_iff_eq] at q
     exact q.1.1
    rw [e, e2]; exact List.mem_cons_self
   ·exact List.mem_cons_of_mem _ (jn h hk hc')
  ·rw [List.lookup_cons] at h
   split at h
   ·rename_i hx
    have e : x = n := by simpa using hx
    have e3 : k' = k := by simpa using h
    rcases hk with q | q
    ·exact absurd (e3.trans q) nk
    ·rw [e, e3, q]; exact List.mem_cons_self
   ·exact List.mem_cons_of_mem _ (jn h hk hc')
section
variable {X : Cx} {scope : Scope} {x : Str} {cap : List Nat} {ys : List Str}
theorem vF.clos (B : vF X scope x cap ys) (ok : X.Ok) : ∀ y ∈ scope.names, y.2 = .free → ∃ c, X.env.cells.lookup y.1 = some c := fun y hy e => ok.has y.1 (B.fr y hy e)
theorem vF.sub (B : vF X scope x cap ys) (ok : X.Ok) {z : Str} {c : Addr} (h : (yV X.env.cells scope.names []).lookup z = some c) : X.env.cells.lookup z = some c := by
 rcases xdy (B.clos ok) h with q | q
 ·simp at q
 ·exact q
theorem vF.start {pins : List (Addr × Obj)} {σ : St} {H₂ : Hp} {s₂ : Shared} {fp : List Addr} {h₁ : Heap} {tk : Nat} {C D : Addr} (B : vF X scope x cap ys) (I : Inv X pins σ H₂ s₂)
  (hf : ∀ b ∈ fp, xaY X pins H₂ b) (hD : s₂.heap.objs.size ≤ D) (hC : s₂.heap.objs.size ≤ C) (hDC : D ≠ C) (hk : ∀ b o, s₂.heap.get? b = some o → h₁.get? b = some o)
  (hns : ∃ m, h₁.Ns C m) (hl : h₁.get? D = some { cls := .type "list", data := .seq ([] : List Value).toArray }) (hfp : ∀ b ∈ fp, b < s₂.heap.objs.size) :
  Inv (X.blk scope C (x :: ys) s₂ H₂ fp) [] (none :: uI σ cap) (upd H₂ D (.lst [])) { s₂ with heap := h₁, toks := tk } := by
 have ok := I.ok
 have freshC : H₂ C = none := I.hok.fresh hC
 have freshD : H₂ D = none := I.hok.fresh hD
 have lt : ∀ b o, s₂.heap.get? b = some o → b < s₂.heap.objs.size := fun b o e => Heap.lt_size e
 refine ⟨⟨ok.mod, B.kind, ok.glob, ok.blt, hC, fun y z c h1 h2 => ok.inj y z c (B.sub ok h1) (B.sub ok h2), fun y hy => ?_, fun y c h => (Bool.false_ne_true h).elim, ok.hd, ok.frames, .inl rfl, fun b hb => ⟨?_, fun y c h e => ?_⟩, I.bs, Nat.le_trans ok.bsz I.sz, fun b o e hb => ?_, fun b hb hs => ?_, I.stack, I.stkFree, fun y c h => (Bool.false_ne_true h).elim, fun b hb => I.hok.fresh hb⟩,
  rfl, I.bare, Un.laid hk hD freshD, ?_, fun y c h => ?_, ?_, fun y c h => ?_, fun p hp => ?_, ?_, ?_⟩
 ·have hy' : (relabel scope X.env).names.lookup y = some .cell ∨ (relabel scope X.env).names.lookup y = some .free := hy
  have m : (y, NameKind.free) ∈ scope.names := by
   rcases hy' with q | q
   ·exact jn q (.inl rfl) B.nocell
   ·exact jn q (.inr rfl) B.nocell
  exact xa0 (.inl m)
 ·exact Nat.ne_of_lt (Nat.lt_of_lt_of_le (hfp b hb) hC)
 ·exact (hf b hb).2.2.2.2.1 y c (B.sub ok h) e
 ·rcases (hf b hb).2.2.2.1 with q | q
  ·exact ok.noex b o e q
  ·exact absurd (Nat.lt_of_lt_of_le (Heap.lt_size (ok.bs b o e).1) q) (Nat.lt_irrefl _)
 ·rcases List.mem_cons.mp (I.stkSub b hs) with q | q
  ·exact (hf b hb).2.1 q
  ·exact (hf b hb).2.2.1 q
 ·obtain ⟨m, hm⟩ := hns
  refine ⟨m, hm, fun i y v e1 e2 e3 => ?_⟩
  cases i with
  | zero => simp at e2
  | succ i =>
   obtain ⟨j, n1, n2, n3, n4⟩ := xbp (i := i) B.cap (by simpa [Cx.blk] using e1) (by simpa using e2)
   obtain ⟨m0, hn0, hl0⟩ := I.loc
   have vis : Vis X.env.scope y := by
    rcases n4 with q | q
    ·exact .inr (.inl q)
    ·exact .inr (.inr q)
   obtain ⟨u, ru, l⟩ := hl0 j y v n1 n2 vis
   refine ⟨u, ru, .inr ⟨xcc n3, ?_⟩⟩
   rcases l with ⟨k, _⟩ | ⟨_, c, ec, z⟩
   ·rw [k] at n4
    rcases n4 with q | q <;> cases q
   ·obtain ⟨c', ec'⟩ := xa0 (cells := X.env.cells) (cs := []) (.inl (xcb n3))
    have := B.sub ok ec'
    rw [ec] at this; cases this
    obtain ⟨o, ho, hd⟩ := z
    exact ⟨c, ec', o, hk c o ho, hd⟩
 ·obtain ⟨v, o, ho, hd⟩ := I.cell y c (B.sub ok h)
  exact ⟨v, o, hk c o ho, hd⟩
 ·show upd H₂ D _ C = none
  rw [xn (Ne.symm hDC)]; exact freshC
 ·obtain ⟨v, o, ho, hd⟩ := I.cell y c (B.sub ok h)
  rw [xn (Nat.ne_of_lt (Nat.lt_of_lt_of_le (lt c o ho) hD))]
  refine (I.freeC y c (B.sub ok h)).imp id fun ⟨_, o', ho', hno⟩ => ⟨rfl, o', ho', fun z i v e1 k e2 => ?_⟩
  cases i with
  | zero => simp at e2
  | succ i =>
   obtain ⟨j, n1, n2, n3, n4⟩ := xbp (i := i) B.cap (by simpa [Cx.blk] using e1) (by simpa using e2)
   exact hno z j v n1 n4 n2
 ·exact absurd (show p ∈ ([] : List (Addr × Obj)) from hp) (by simp)
 ·exact I.hok.laid hk hD ⟨Nat.zero_le _, [], 0, .nil, hl⟩
 ·simp [Cx.blk, uI, xei B.cap]
theorem vF.back {pins : List (Addr × Obj)} {σ : St} {H₂ H' : Hp} {s₂ s' : Shared} {fp : List Addr} {C : Addr} {pl : List (Addr × Obj)} {σ' : St} (B : vF X scope x cap ys) (I : Inv X pins σ H₂ s₂)
  (hf : ∀ b ∈ fp, xaY X pins H₂ b) (J : Inv (X.blk scope C (x :: ys) s₂ H₂ fp) pl σ' H' s') : Inv X pins σ H' s' :=
 I.call' (ch := fp) J.os J.base J.hok J.bare fun b hb => by
  obtain ⟨f0, f1, f2, f3, f4, f5⟩ := hf b hb
  refine ⟨?_, f1, f4, f5⟩
  rcases f3 with q | q
  ·exact .inl q
  ·exact .inr q
theorem vF.far {pins : List (Addr × Obj)} {σ : St} {H₂ H' : Hp} {s₂ s' : Shared} {fp : List Addr} {C : Addr} {pl : List (Addr × Obj)} {σ' : St} (I : Inv X pins σ H₂ s₂)
  (hC : s₂.heap.objs.size ≤ C) (J : Inv (X.blk scope C (x :: ys) s₂ H₂ fp) pl σ' H' s') :
  H' C = none ∧ C ≠ X.env.locals ∧ X.s₀.heap.objs.size ≤ C ∧ (∀ z c, X.env.cells.lookup z = some c → c ≠ C) ∧ ∀ p ∈ X.pn ++ pins, p.1 ≠ C := by
 refine ⟨J.free, Nat.ne_of_gt (Nat.lt_of_lt_of_le I.lt hC), Nat.le_trans I.sz hC, fun z c e q => ?_, fun p hp q => ?_⟩
 ·obtain ⟨v, w⟩ := I.cell z c e
  exact absurd (Nat.lt_of_lt_of_le w.lt (by rw [q]; exact hC)) (Nat.lt_irrefl _)
 ·exact absurd (Nat.lt_of_lt_of_le (Heap.lt_size (I.pin p hp).1) (by rw [q]; exact hC)) (Nat.lt_irrefl _)
end
theorem xgd {prog : Program} {w : World} {A : Around} {R : Result → Shared → Prop} {s : Shared} {elt tg iter : Expr} {ifs : List Expr} {scope : Scope} {pos : Pos} {it acc : Value} {env : Env} (J : Nat → Shared → Prop)
  (go : ∀ n s, J n s → wpAny (model prog w) A (pyNext it) (fun r s1 => match r with
   | none => R (.ok .next) s1
   | some v => wpAny (model prog w) A (letOwnedTupleGo tg it v) (fun _ s2 => wpAny (model prog w) A (assign tg env v) (fun _ s3 =>
     wpAny (model prog w) A (forIn ifs true fun c r => if r = true then do let ok ← isTrue c env (eval c env); pure (ForInStep.yield ok) else pure (ForInStep.yield r)) (fun ok s4 =>
      if ok = true then wpAny (model prog w) A (eval elt env) (fun y s5 => wpAny (model prog w) A (call (.builtin "list.append") [acc, y]) (fun _ s6 => ∃ m, m < n ∧ J m s6) (fun _ _ => False) s5) (fun _ _ => False) s4
      else ∃ m, m < n ∧ J m s4) (fun _ _ => False) s3) (fun _ _ => False) s2) (fun _ _ => False) s1) (fun _ _ => False) s)
  (n : Nat) (h : J n s) : codeAny (model prog w) A (.compLoop (.ListComp elt [⟨tg, iter, ifs, 0⟩] scope pos) 0 it acc env) R s := by
 refine codeAny_loop rfl J (fun n s hJ => ?_) n h
 show wpAny _ A ((compTurn (.ListComp elt [⟨tg, iter, ifs, 0⟩] scope pos) 0 it acc env).onRaise (fun x => do noteFrame x env; theTreesLotGoes x)) _ _ s
 refine wpAny_noted ?_
 rw [compTurn_list]
 refine wpAny_bind (wpAny_standAt (wpAny_bind (wpAny_mono (go n s hJ) (fun r s1 h1 => ?_) fun _ _ z => z.elim)))
 cases r with
 | none => exact wpAny_pure h1
 | some v =>
  refine wpAny_bind (wpAny_mono h1 (fun _ s2 h2 => wpAny_bind (wpAny_mono h2 (fun _ s3 h3 => wpAny_bind (wpAny_mono h3 (fun ok s4 h4 => ?_) fun _ _ z => z.elim)) fun _ _ z => z.elim)) fun _ _ z => z.elim)
  cases ok with
  | false => exact wpAny_pure ⟨rfl, h4⟩
  | true =>
   exact wpAny_bind (wpAny_bind (wpAny_mono h4 (fun y s5 h5 => wpAny_bind (wpAny_mono h5 (fun _ s6 h6 => wpAny_pure (wpAny_pure ⟨rfl, h6⟩)) fun _ _ z => z.elim)) fun _ _ z => z.elim))
def CTs (Xc : Cx) (ifs : List Expr) (t : TT) : Prop :=
 ∀ (pins : List (Addr × Obj)) (s : Shared) (σ : St) (H : Hp) (Q : Bool → Hp → Prop), Inv Xc pins σ H s → t σ H Q →
  wpAny (model Xc.prog Xc.w) Xc.A (forIn ifs true fun c r => if r = true then do let ok ← isTrue c Xc.env (eval c Xc.env); pure (ForInStep.yield ok) else pure (ForInStep.yield r)) (TP Xc pins σ Q) Xc.xe s
def xgT : TT := fun _ H Q => Q true H
theorem uK {Xc : Cx} : CTs Xc [] xgT := fun _ _ _ H _ I q => wpAny_tests_nil ⟨H, I, q⟩
theorem xgU {Xc : Cx} {c : Expr} {t : TT} (h : PT Xc c t) : CTs Xc [c] t := fun pins s σ H Q I q => wpAny_tests_one (h pins s σ H Q I q)
abbrev CW := Nat → Nat → List V → Hp → Prop
@[irreducible] def uL (J : It) (caps : St) (tt : TT) (te : TE) (Q : VK) (H2 : Hp) : Prop := ∀ D, H2 D = none → ∃ W : CW, (∃ m, W 0 m [] (upd H2 D (.lst []))) ∧
 ∀ i m acc H3, W i m acc H3 → H3 D = some (.lst acc) ∧ ((J.stop i H3 ∧ Q (.ref D) H3) ∨ (J.go i H3 ∧ acc.length < sizeLine ∧ ∀ v H4, J.yld i H3 v H4 → tt (some v :: caps) H4 fun b H5 =>
  (b = true → te (some v :: caps) H5 fun u H6 => H6 D = some (.lst acc) ∧ ∃ m', m' < m ∧ W (i + 1) m' (acc ++ [u]) (upd H6 D (.lst (acc ++ [u])))) ∧ (b = false → ∃ m', m' < m ∧ W (i + 1) m' acc H5)))
def xnv (cap : List Nat) (wi : TI) (tt : TT) (te : TE) : TE := fun σ H Q => wi σ H fun J H2 => uL J (uI σ cap) tt te Q H2
section
variable {X : Cx} {scope : Scope} {x : Str} {cap : List Nat} {ys : List Str} {elt iter : Expr} {ifs : List Expr} {px pos : Pos} {wi : TI} {tt : TT} {te : TE}
theorem xge (B : vF X scope x cap ys) (hc : X.calm = true) (he : ∀ C s H fp, PE (X.blk scope C (x :: ys) s H fp) elt te) (ht : ∀ C s H fp, CTs (X.blk scope C (x :: ys) s H fp) ifs tt)
  {pins : List (Addr × Obj)} {σ : St} {s₂ : Shared} {Q : VK} {RR : Value → Addr → Result → Shared → Prop} {itv : Value} {E : Value → Shared → Prop}
  (hp : PIE X pins σ (.Name x px) (fun J H2 => uL J (uI σ cap) tt te Q H2) itv s₂)
  (hR : ∀ (D C : Addr) (H' : Hp) (s' : Shared), Inv X pins σ H' s' → (∃ m, s'.heap.Ns C m) → H' C = none → C ≠ X.env.locals → X.s₀.heap.objs.size ≤ C → (∀ z c, X.env.cells.lookup z = some c → c ≠ C) → (∀ p ∈ X.pn ++ pins, p.1 ≠ C) → Q (.ref D) H' → RR (.ref D) C (.ok .next) s') :
  wpAny (model X.prog X.w) X.A (newList []) (fun acc s₃ => wpAny (model X.prog X.w) X.A (newFunctionEnv scope X.env.globals (yV X.env.cells scope.names []) [] X.env.qual none .none (some X.env)) (fun cenv s₄ =>
   codeAny (model X.prog X.w) X.A (.compStart (.ListComp elt [⟨.Name x px, iter, ifs, 0⟩] scope pos) 0 itv acc { cenv with scope := relabel scope X.env }) (RR acc cenv.locals) s₄) E s₃) E s₂ := by
 obtain ⟨it, fp, tn, J, H2, e, I2, T, st2, f2, hw⟩ := hp
 subst e
 unfold uL at hw
 refine wpAny_newObj_type (wpAny_newFunctionEnv B.nocell (by intro y hy; simp at hy) (fun h₁ hns₁ hsb₁ => ?_) B.kind)
 dsimp only at hns₁ hsb₁ ⊢
 generalize hG : s₂.heap.push { cls := .type "list", dict := none, data := .seq ([] : List Value).toArray } = G at hns₁ hsb₁ ⊢
 have hsz : G.objs.size = s₂.heap.objs.size + 1 := by rw [← hG, Heap.size_push]
 have hCle : s₂.heap.objs.size ≤ G.objs.size := by omega
 have hDC : s₂.heap.objs.size ≠ G.objs.size := by omega
 have old : ∀ b o, s₂.heap.get? b = some o → h₁.get? b = some o := fun b o q => by
  have lt := Heap.lt_size q
  refine hsb₁.extBut b o (Nat.ne_of_lt (Nat.lt_of_lt_of_le lt hCle)) (Heap.get?_push_of_some _ ?_)
  rw [← hG]; exact Heap.get?_push_of_some _ q
 have accAt : h₁.get? s₂.heap.objs.size = some { cls := .type "list", data := .seq ([] : List Value).toArray } := by
  refine hsb₁.extBut _ _ hDC (Heap.get?_push_of_some _ ?_)
  rw [← hG]; exact Heap.get?_push_size _ rfl
 have hfp : ∀ b ∈ fp, b < s₂.heap.objs.size := fun b hb => by
  obtain ⟨o, ho, _⟩ := T.obj _ _ st2 b hb
  exact Heap.lt_size ho
 obtain ⟨W, ⟨m0, w0⟩, turn⟩ := hw s₂.heap.objs.size (I2.hok.fresh (Nat.le_refl _))
 generalize htk : s₂.toks + ([] : List (Str × Value)).length = tk
 have I0 := B.start (tk := tk) (C := G.objs.size) I2 f2 (Nat.le_refl _) hCle hDC old ⟨_, hns₁⟩ accAt hfp
 have st0 : tn 0 h₁ := T.keep _ _ _ st2 fun b hb o q => old b o q
 -- what stays true of the iterator's objects
 have f3 : ∀ {H' : Hp}, (∀ b ∈ fp, H' b = none) → ∀ b ∈ fp, xaY (X.blk scope G.objs.size (x :: ys) s₂ H2 fp) [] H' b := fun hn b hb => by
  obtain ⟨f0, f1, f2', f3', f4, f5⟩ := f2 b hb
  refine ⟨hn b hb, Nat.ne_of_lt (Nat.lt_of_lt_of_le (hfp b hb) hCle), fun hs => ?_, .inl hb, fun z c q => f4 z c (B.sub I2.ok q), fun p hp => absurd (show p ∈ ([] : List (Addr × Obj)) from hp) (by simp)⟩
  rcases List.mem_cons.mp (I2.stkSub b hs) with q | q
  ·exact f1 q
  ·exact f2' q
 have n0 : ∀ b ∈ fp, upd H2 s₂.heap.objs.size (.lst []) b = none := fun b hb => by
  rw [xn (Nat.ne_of_lt (hfp b hb))]; exact (f2 b hb).1
 have loop : ∀ sx : Shared, sx = { s₂ with heap := h₁, toks := tk } →
   codeAny (model X.prog X.w) X.A (.compLoop (.ListComp elt [⟨.Name x px, iter, ifs, 0⟩] scope pos) 0 (.ref it) (.ref s₂.heap.objs.size) (compEnvC scope (yV X.env.cells scope.names []) G.objs.size X.env)) (RR (.ref s₂.heap.objs.size) G.objs.size) sx := by
  rintro sx rfl
  refine xgd (fun n s' => ∃ i acc H', Inv (X.blk scope G.objs.size (x :: ys) s₂ H2 fp) [] (none :: uI σ cap) H' s' ∧ tn i s'.heap ∧ (∀ b ∈ fp, H' b = none) ∧ W i n acc H') ?_ m0 ⟨0, [], _, I0, st0, n0, w0⟩
  rintro n s3 ⟨i, acc, H3, I3, st3, fr3, w3⟩
  obtain ⟨hD3, alt⟩ := turn i n acc H3 w3
  rcases alt with ⟨stop, q⟩ | ⟨go, hlen, step⟩
  ·refine wpAny_mono (T.done (X.blk scope G.objs.size (x :: ys) s₂ H2 fp) rfl rfl rfl hc i [] s3 _ H3 (fun _ _ => False) I3 (f3 fr3) st3 stop) (fun r s4 ⟨hr, I4⟩ => ?_) fun _ _ z => z.elim
   subst hr
   obtain ⟨g1, g2, g3, g4, g5⟩ := vF.far I2 hCle I4
   obtain ⟨m4, hm4, _⟩ := I4.loc
   exact hR _ _ H3 s4 (B.back I2 f2 I4) ⟨m4, hm4⟩ g1 g2 g3 g4 g5 q
  ·refine wpAny_mono (T.item (X.blk scope G.objs.size (x :: ys) s₂ H2 fp) rfl rfl rfl hc i [] s3 _ H3 (fun _ _ => False) I3 (f3 fr3) st3 go) (fun r s4 ⟨u, hr, h4⟩ => ?_) fun _ _ z => z.elim
   subst hr
   refine wpAny_mono h4 (fun _ s4 ⟨v, H4, I4, rv, y4, st4, fr4⟩ => ?_) fun _ _ z => z.elim
   have I4' := I4.pinned (f3 fr4) (T.obj _ _ st4)
   refine wpAny_assign_Name (xfK (X := X.blk scope G.objs.size (x :: ys) s₂ H2 fp) (i := 0) I4' B.nd rfl (.inl (lookup_relabel_local B.lx)) rv (fun s5 I5 => ?_) (.inr (lookup_relabel_local B.lx)))
   have I5' : Inv (X.blk scope G.objs.size (x :: ys) s₂ H2 fp) ([] ++ jI fp s4.heap) (some v :: uI σ cap) H4 s5 := I5
   refine wpAny_mono (ht _ _ _ _ _ s5 _ H4 _ I5' (step v H4 y4)) (fun ok s6 ⟨H6, I6, q6⟩ => ?_) fun _ _ z => z.elim
   have pinned : ∀ {σ7 : St} {H7 : Hp} {s7 : Shared}, Inv (X.blk scope G.objs.size (x :: ys) s₂ H2 fp) ([] ++ jI fp s4.heap) σ7 H7 s7 → tn (i + 1) s7.heap ∧ ∀ b ∈ fp, H7 b = none := fun {σ7 H7 s7} I7 => by
    refine ⟨T.keep _ _ _ st4 fun b hb o e => (I7.pin (b, o) (List.mem_append_right _ (List.mem_append_right _ (jm hb e)))).1, fun b hb => ?_⟩
    obtain ⟨o, e, d⟩ := T.obj _ _ st4 b hb
    exact (I7.pin (b, o) (List.mem_append_right _ (List.mem_append_right _ (jm hb e)))).2.1
   have weak : ∀ {H7 : Hp} {s7 : Shared}, Inv (X.blk scope G.objs.size (x :: ys) s₂ H2 fp) ([] ++ jI fp s4.heap) (some v :: uI σ cap) H7 s7 → Inv (X.blk scope G.objs.size (x :: ys) s₂ H2 fp) [] (none :: uI σ cap) H7 s7 := fun I7 =>
    (I7.unpinned (pins := [])).weak rfl fun j z e => by
     cases j with
     | zero => simp at e
     | succ j => simpa using e
   cases ok with
   | false =>
    rw [if_neg Bool.false_ne_true]
    obtain ⟨m', hm', w'⟩ := q6.2 rfl
    exact ⟨m', hm', i + 1, acc, H6, weak I6, (pinned I6).1, (pinned I6).2, w'⟩
   | true =>
    rw [if_pos rfl]
    refine wpAny_mono (he _ _ _ _ _ s6 _ H6 _ I6 (q6.1 rfl)) (fun y s7 ⟨z, H7, I7, rz, hD7, m', hm', w'⟩ => ?_) fun _ _ z => z.elim
    refine wpAny_mono (uU (X := X.blk scope G.objs.size (x :: ys) s₂ H2 fp) _ s7 _ H7 (.ref s₂.heap.objs.size) [z] (.ref s₂.heap.objs.size) [y] (fun _ H8 => H8 = upd H7 s₂.heap.objs.size (.lst (acc ++ [z]))) I7 rfl (.cons rz .nil) ⟨_, acc, z, rfl, rfl, hD7, hlen, rfl⟩) (fun _ s8 ⟨_, H8, I8, _, e8⟩ => ?_) fun _ _ z => z.elim
    subst e8
    exact ⟨m', hm', i + 1, _, _, weak I8, (pinned I8).1, (pinned I8).2, w'⟩
 exact codeAny_compStart_list (loop _ rfl) (T.self _ 0 _ _ _ st0 (loop _ rfl))
theorem jo (B : vF X scope x cap ys) (hc : X.calm = true) (hi : PI X (.Name x px) iter wi) (he : ∀ C s H fp, PE (X.blk scope C (x :: ys) s H fp) elt te) (ht : ∀ C s H fp, CTs (X.blk scope C (x :: ys) s H fp) ifs tt)
  (hs : ∀ x, foldedSetIterable iter X.env x = pure x := by intro _; rfl) : PE X (.ListComp elt [⟨.Name x px, iter, ifs, 0⟩] scope pos) (xnv cap wi tt te) := by
 intro pins s σ H Q I h
 rw [eval_ListComp]
 refine wpAny_comprehension_free (use := none) rfl hs (xbM (B.clos I.ok)) B.kind B.locs ?_
 refine thn (hi pins s σ H _ I h) fun v s1 h1 => thn h1 fun itv s2 h2 => ?_
 refine xge (Q := Q) (RR := fun acc C => compPost (model X.prog X.w) X.A X.xe none (EP X pins σ Q) acc C) B hc he ht h2 ?_
 rintro D C H' s' J ⟨m, hm⟩ g1 g2 g3 g4 g5 q
 exact ⟨m, hm, fun h' sb => ⟨.ref D, H', J.turned (t' := s'.toks) (fun b o hb e => (sb.2 b hb).trans e) g1 g2 (.inr g3) g4 g5, rfl, q⟩⟩
theorem xbN {i : Nat} {y : Str} {pos' spos : Pos} (B : vF X scope x cap ys) (hc : X.calm = true) (hN : X.N.Nodup) (hi : X.N[i]? = some y) (hy : X.env.scope.names.lookup y = some .local) (hit : PI X (.Name x px) iter wi)
  (he : ∀ C s H fp, PE (X.blk scope C (x :: ys) s H fp) elt te) (ht : ∀ C s H fp, CTs (X.blk scope C (x :: ys) s H fp) ifs tt)
  (hsw : swapsWith (.ListComp elt [⟨.Name x px, iter, ifs, 0⟩] scope pos) (some (.Name y pos')) spos.line X.env = pure true := by rfl)
  (hs : ∀ x, foldedSetIterable iter X.env x = pure x := by intro _; rfl) :
  PS X (.Assign [.Name y pos'] (.ListComp elt [⟨.Name x px, iter, ifs, 0⟩] scope pos) spos) (xmh (xnv cap wi tt te) (xeP i)) := by
 intro pins s σ H D I h
 rw [exec_Assign_Name_used _ _ _ _ hsw]
 refine wpAny_bind (wpAny_standAt (wpAny_bind ?_))
 show wpAny _ X.A (do let _ ← comprehension (.ListComp elt [⟨.Name x px, iter, ifs, 0⟩] scope pos) scope X.env _ (newList []) false (eval iter X.env) (some (assign (.Name y pos') X.env))) _ _ s
 refine wpAny_bind (wpAny_mono (wpAny_comprehension_free (use := some (assign (.Name y pos') X.env)) (Q := fun _ s' => SP X pins D .next s') rfl hs (xbM (B.clos I.ok)) B.kind B.locs
  (thn (hit pins s σ H _ I h) fun v s1 h1 => thn h1 fun itv s2 h2 => ?_)) (fun _ s' hq => wpAny_pure (wpAny_pure hq)) fun _ _ e => e)
 refine xge (Q := fun v H1 => xeP i v σ H1 D.nx) (RR := fun acc C => compPost (model X.prog X.w) X.A X.xe (some (assign (.Name y pos') X.env)) (fun _ s' => SP X pins D .next s') acc C) B hc he ht h2 ?_
 rintro Da C H' s' J ⟨m, hm⟩ g1 g2 g3 g4 g5 q
 show wpAny _ X.A (assign (.Name y pos') X.env (.ref Da)) _ _ s'
 refine (wpAny_assign_Name (xhk (v := .ref Da) J hN hi (.inl hy) rfl (fun s4 J4 ⟨a, sb, ha⟩ => ?_) (.inr hy)))
 have hCa : C ≠ a := by
  rcases ha with z | z
  ·rw [z]; exact g2
  ·exact fun w => g4 y a z w.symm
 refine ⟨m, hm.sameBut sb hCa, fun h' sb' => ?_⟩
 exact ⟨_, H', J4.turned (t' := s4.toks) (fun b o hb e => (sb'.2 b hb).trans e) g1 g2 (.inr g3) g4 g5, q⟩
end
end L2
namespace L2
open PySem PySem.Spec PyProof.Rows
def Its (lo st : Int) (n : Nat) : It := ⟨fun i _ => i < n, fun i H x H' => H' = H ∧ x = .int (lo + i * st), fun i _ => n ≤ i⟩
theorem xko {P : Program} {w : World} {K : W.Frag} {tg : Expr} (it : Addr) (lo st : Int) (n : Nat) : Turn P w K tg (Its lo st n) [it] it (fun i h => IsRangeIter h it (lo + (i : Nat) * st) ((n : Int) - (i : Nat)) st) where
 mem := by simp
 obj := fun i h q b hb => by
  have e : b = it := by simpa using hb
  subst e
  exact ⟨_, q, fun v z => by
   have z' : Data.fields _ = Data.cell v := z
   cases z'⟩
 keep := fun i h h' q k => k it (by simp) _ q
 item := by
  intro X hP hw hK hc i pins s σ H E I hf q hg
  subst hP hw hK
  obtain ⟨f0, f1, f2, f3, f4, f5⟩ := hf it (by simp)
  refine (Walks.range (prog := X.prog) (w := X.w) (I.ok.hd hc) it lo st n).item i s _ _ hg q fun v h' tk hv q' kk => ?_
  obtain ⟨t, rfl⟩ := hv
  have I1 : Inv X pins σ H { s with heap := h', toks := tk } := I.turned (fun b o hb e => kk b o (by simpa using hb) e) f0 f1 f3 f4 f5
  exact ⟨_, rfl, xh8 (s := { s with heap := h', toks := tk }) (n := "range_iterator") q' rfl rfl (by decide) ⟨.int (lo + i * st), H, I1, ⟨t, rfl⟩, ⟨rfl, rfl⟩, q', fun b hb => (hf b hb).1⟩⟩
 done := by
  intro X hP hw hK hc i pins s σ H E I hf q hg
  subst hP hw hK
  obtain ⟨f0, f1, f2, f3, f4, f5⟩ := hf it (by simp)
  exact wpAny_pyNext_range_end (I.ok.hd hc) q (by have : n ≤ i := hg; omega) fun h' eb => ⟨rfl, I.turned (t' := s.toks) (fun b o hb e => eb b o hb e) f0 f1 f3 f4 f5⟩
 self := fun _ _ _ _ _ q h => wpAny_pyIter_rangeiter q h
theorem xlw {P : Program} {w : World} {K : W.Frag} {tg : Expr} (it : Addr) (lo st : Int) (n : Nat) : Turn P w K tg (Its lo st n) [it] it (fun i h => IsLongIter h it (lo + (i : Nat) * st) ((n : Int) - (i : Nat)) st) where
 mem := by simp
 obj := fun i h q b hb => by
  have e : b = it := by simpa using hb
  subst e
  exact ⟨_, q, fun v z => by
   have z' : Data.fields _ = Data.cell v := z
   cases z'⟩
 keep := fun i h h' q k => k it (by simp) _ q
 item := by
  intro X hP hw hK hc i pins s σ H E I hf q hg
  subst hP hw hK
  obtain ⟨f0, f1, f2, f3, f4, f5⟩ := hf it (by simp)
  refine (Walks.longrange (prog := X.prog) (w := X.w) (I.ok.hd hc) it lo st n).item i s _ _ hg q fun v h' tk hv q' kk => ?_
  obtain ⟨t, rfl⟩ := hv
  have I1 : Inv X pins σ H { s with heap := h', toks := tk } := I.turned (fun b o hb e => kk b o (by simpa using hb) e) f0 f1 f3 f4 f5
  exact ⟨_, rfl, xh8 (s := { s with heap := h', toks := tk }) (n := "longrange_iterator") q' rfl rfl (by decide) ⟨.int (lo + i * st), H, I1, ⟨t, rfl⟩, ⟨rfl, rfl⟩, q', fun b hb => (hf b hb).1⟩⟩
 done := by
  intro X hP hw hK hc i pins s σ H E I hf q hg
  subst hP hw hK
  obtain ⟨f0, f1, f2, f3, f4, f5⟩ := hf it (by simp)
  exact wpAny_pyNext_long_end (I.ok.hd hc) q (by have : n ≤ i := hg; omega) fun h' eb => ⟨rfl, I.turned (t' := s.toks) (fun b o hb e => eb b o hb e) f0 f1 f3 f4 f5⟩
 self := fun _ _ _ _ _ q h => wpAny_pyIter_longiter q h
def yo (a b c : Int) : Nat := (Builtin.Range.rangeSize a b c).toNat
theorem xik (a b c : Int) : 0 ≤ Builtin.Range.rangeSize a b c := by
 unfold Builtin.Range.rangeSize
 split
 ·split
  ·have := Int.ediv_nonneg (a := b - a - 1) (b := c) (by omega) (by omega); omega
  ·omega
 ·split
  ·have := Int.ediv_nonneg (a := a - b - 1) (b := -c) (by omega) (by omega); omega
  ·omega
theorem xhs (a b c : Int) : ((yo a b c : Nat) : Int) = Builtin.Range.rangeSize a b c := Int.toNat_of_nonneg (xik a b c)
theorem yI (a b : Int) : yo a b 1 = (b - a).toNat := by
 unfold yo Builtin.Range.rangeSize
 simp only [show (1 : Int) > 0 by decide, if_true]
 split <;> simp <;> omega
section
variable {X : Cx} {tg : Expr}
theorem xil {pins : List (Addr × Obj)} {σ : St} {H : Hp} {s : Shared} {R : It → Hp → Prop} {E : Value → Shared → Prop} {a b c : Int} {t u v : Tok} {r : Addr} (I : Inv X pins σ H s) (hr : IsRange s.heap r a b c t u v)
  (q : R (Its a c (yo a b c)) H) : wpAny (model X.prog X.w) X.A (pyIter (.ref r)) (PIE X pins σ tg R) E s := by
 have e2 : Builtin.Range.rangeSize a b c = ((yo a b c : Nat) : Int) - ((0 : Nat) : Int) := by rw [xhs]; simp
 have e1 : a = a + ((0 : Nat) : Int) * c := by simp
 have fp : ∀ b' ∈ [s.heap.objs.size], xaY X pins H b' := fun b' hb => by
  have e : b' = s.heap.objs.size := by simpa using hb
  subst e
  exact I.fpOk (Nat.le_refl _) (I.hok.fresh (Nat.le_refl _))
 cases hsm : Builtin.Range.small a b c with
 | true =>
  refine wpAny_pyIter_range hr hsm ⟨s.heap.objs.size, [s.heap.objs.size], _, _, H, rfl, I.kept (t' := s.toks) fun b o e => Heap.get?_push_of_some _ e, xko _ a c (yo a b c), ?_, fp, q⟩
  show IsRangeIter _ _ (a + ((0 : Nat) : Int) * c) (((yo a b c : Nat) : Int) - ((0 : Nat) : Int)) c
  rw [← e1, ← e2]
  exact Heap.get?_push_size _ rfl
 | false =>
  refine wpAny_pyIter_longrange hr hsm ⟨s.heap.objs.size, [s.heap.objs.size], _, _, H, rfl, I.kept (t' := s.toks) fun b o e => Heap.get?_push_of_some _ e, xlw _ a c (yo a b c), ?_, fp, q⟩
  show IsLongIter _ _ (a + ((0 : Nat) : Int) * c) (((yo a b c : Nat) : Int) - ((0 : Nat) : Int)) c
  rw [← e1, ← e2]
  exact Heap.get?_push_size _ rfl
def xkp (k : Int → Hp → Prop) : List V → Hp → Prop := fun vs H => match vs with
 | [.int j] => k j H
 | _ => False
def xe0 (k : Int → Int → Hp → Prop) : List V → Hp → Prop := fun vs H => match vs with
 | [.int i, .int j] => k i j H
 | _ => False
def xkq (k : Int → Int → Int → Hp → Prop) : List V → Hp → Prop := fun vs H => match vs with
 | [.int i, .int j, .int l] => k i j l H
 | _ => False
theorem xjG {k : Int → Hp → Prop} {vs : List V} {H : Hp} (h : xkp k vs H) : ∃ j, vs = [.int j] ∧ k j H := by
 unfold xkp at h
 split at h
 ·exact ⟨_, rfl, h⟩
 ·exact h.elim
theorem xdA {k : Int → Int → Hp → Prop} {vs : List V} {H : Hp} (h : xe0 k vs H) : ∃ i j, vs = [.int i, .int j] ∧ k i j H := by
 unfold xe0 at h
 split at h
 ·exact ⟨_, _, rfl, h⟩
 ·exact h.elim
theorem xmw {k : Int → Int → Int → Hp → Prop} {vs : List V} {H : Hp} (h : xkq k vs H) : ∃ i j l, vs = [.int i, .int j, .int l] ∧ k i j l H := by
 unfold xkq at h
 split at h
 ·exact ⟨_, _, _, rfl, h⟩
 ·exact h.elim
theorem xnR {us : List Value} {i : Int} (r : Vals [.int i] us) : ∃ t, us = [.int i t] := by
 obtain ⟨u, rfl, t, rfl⟩ := Vals.one r
 exact ⟨t, rfl⟩
theorem xgV {us : List Value} {i j : Int} (r : Vals [.int i, .int j] us) : ∃ t t', us = [.int i t, .int j t'] := by
 obtain ⟨u, v, rfl, ⟨t, rfl⟩, ⟨t', rfl⟩⟩ := Vals.two r
 exact ⟨t, t', rfl⟩
theorem xnS {us : List Value} {i j l : Int} (r : Vals [.int i, .int j, .int l] us) : ∃ t t' t'', us = [.int i t, .int j t', .int l t''] := by
 cases r with
 | cons r rr =>
  obtain ⟨t', t'', rfl⟩ := xgV rr
  obtain ⟨t, rfl⟩ := r
  exact ⟨t, t', t'', rfl⟩
def xlx (c : Int) : Prop := c ≠ 0 ∧ c.natAbs.log2 < 9000
def xpJ (ta : TA) : TI := fun σ H R => ta σ H (xkp fun j H1 => R (Its 0 1 (yo 0 j 1)) H1)
def xpK (ta : TA) : TI := fun σ H R => ta σ H (xe0 fun i j H1 => R (Its i 1 (yo i j 1)) H1)
def xpL (ta : TA) : TI := fun σ H R => ta σ H (xkq fun i j c H1 => xlx c ∧ R (Its i c (yo i j c)) H1)
theorem ug {a : Expr} {ta : TA} {p pos : Pos} (hg : Gl X "range") (hm : X.mg "range" = none) (ha : PA X [a] ta) (hs : starEach [a] X.env = [(false, eval a X.env)] := by rfl) : PI X tg (.Call (.Name "range" p) [a] [] pos) (xpJ ta) := by
 intro pins s σ H R I h
 refine Call_ (vR I hg hm boot_range (PyProof.Rows.callWith_type1 (thn (ha pos pins s σ H _ I h) fun us s1 ⟨vs, H1, I1, r1, q1⟩ => ?_) hs rfl))
 obtain ⟨j, rfl, q⟩ := xjG q1
 obtain ⟨t, rfl⟩ := xnR r1
 refine call_range_1 (xil (I1.kept (t' := _) fun b o e => Heap.get?_push_of_some _ e) (IsRange.new ..) q)
theorem xly {a b : Expr} {ta : TA} {p pos : Pos} (hg : Gl X "range") (hm : X.mg "range" = none) (ha : PA X [a, b] ta) (hs : starEach [a, b] X.env = [(false, eval a X.env), (false, eval b X.env)] := by rfl) (hs2 : starEach [b] X.env = [(false, eval b X.env)] := by rfl) :
  PI X tg (.Call (.Name "range" p) [a, b] [] pos) (xpK ta) := by
 intro pins s σ H R I h
 refine Call_ (vR I hg hm boot_range (PyProof.Rows.callWith_type1 (thn (ha pos pins s σ H _ I h) fun us s1 ⟨vs, H1, I1, r1, q1⟩ => ?_) (by rw [hs, hs2]) (by rw [hs2]; rfl)))
 obtain ⟨i, j, rfl, q⟩ := xdA q1
 obtain ⟨t, t', rfl⟩ := xgV r1
 exact call_range_2 (xil (I1.kept (t' := _) fun b o e => Heap.get?_push_of_some _ e) (IsRange.new ..) q)
theorem xht {a b c : Expr} {ta : TA} {p pos : Pos} (hg : Gl X "range") (hm : X.mg "range" = none) (ha : PA X [a, b, c] ta) (hs : starEach [a, b, c] X.env = (false, eval a X.env) :: starEach [b, c] X.env := by rfl) (hpl : (backTo pos (starEach [b, c] X.env)).any (·.1) = false := by rfl) :
  PI X tg (.Call (.Name "range" p) [a, b, c] [] pos) (xpL ta) := by
 intro pins s σ H R I h
 refine Call_ (vR I hg hm boot_range (PyProof.Rows.callWith_type1 (thn (ha pos pins s σ H _ I h) fun us s1 ⟨vs, H1, I1, r1, q1⟩ => ?_) hs hpl))
 obtain ⟨i, j, l, rfl, ⟨h0, hl⟩, q⟩ := xmw q1
 obtain ⟨t, t', t'', rfl⟩ := xnS r1
 exact call_range_3 h0 (xil (I1.kept (t' := _) fun b o e => Heap.get?_push_of_some _ e) (IsRange.new ..) q) (.inl (PyProof.noPylong_of_log2 hl))
def xpM (ta : TA) : TE := fun σ H Q => ta σ H (xe0 fun i j H1 => ∀ p, H1 p = none → Q (.ref p) (upd H1 p (.rng i j)))
theorem xcu {a b : Expr} {ta : TA} {p pos : Pos} (hg : Gl X "range") (hm : X.mg "range" = none) (ha : PA X [a, b] ta) (hs : starEach [a, b] X.env = [(false, eval a X.env), (false, eval b X.env)] := by rfl) (hs2 : starEach [b] X.env = [(false, eval b X.env)] := by rfl) :
  PE X (.Call (.Name "range" p) [a, b] [] pos) (xpM ta) := by
 intro pins s σ H Q I h
 refine Call_ (vR I hg hm boot_range (PyProof.Rows.callWith_type1 (thn (ha pos pins s σ H _ I h) fun us s1 ⟨vs, H1, I1, r1, q1⟩ => ?_) (by rw [hs, hs2]) (by rw [hs2]; rfl)))
 obtain ⟨i, j, rfl, q⟩ := xdA q1
 obtain ⟨t, t', rfl⟩ := xgV r1
 refine call_range_2 ⟨.ref s1.heap.objs.size, upd H1 s1.heap.objs.size (.rng i j), I1.laid (fun b o e => Heap.get?_push_of_some _ e) (Nat.le_refl _) ⟨_, _, _, Heap.get?_push_size _ rfl⟩, rfl, q _ (I1.hok.fresh (Nat.le_refl _))⟩
end
end L2
namespace PySem
open Sem (wp)
section
variable {prog : Program} {w : World} {A : Around} {E : Value → Shared → Prop} {s : Shared}
theorem xkr {R : Result → Shared → Prop} {r : Addr} {a b c : Int} {t u v : Tok} {k : Nat} (hnd : A.handled = none) (hr : IsRange s.heap r a b c t u v) (hbig : Builtin.Range.small a b c = false)
  (hk : Builtin.Range.rangeSize a b c = k) (hle : k ≤ 2 ^ 24) (D : Addr) (z : Value) (m₀ : Nat) (hD : s.heap.get? D = some { cls := .type "list", data := .seq #[] m₀ })
  (hR : ∀ g tk xs m, (∀ b o, b ≠ D → s.heap.get? b = some o → g.get? b = some o) → g.get? D = some { cls := .type "list", dict := none, data := .seq xs m, slots := #[] } →
   ItemsOf (fun i v => ∃ t, v = .int (a + i * c) t) xs k → R (.ok (.ret z)) { s with heap := g, toks := tk }) :
  wpAny (model prog w) A.in1 (Builtin.List.listExtendWith (.ref D) (.ref r) z)
   (fun fin s' => match fin with | .done f => R (.ok f) s' | .again d => d.quiet = true ∧ codeAny (model prog w) A d R s') (fun e s' => R (.error e) s') s := by
 have nDr : D ≠ r := fun e => by rw [e, hr] at hD; simp at hD
 have nDI : D ≠ s.heap.objs.size := Nat.ne_of_lt (Heap.lt_size hD)
 have nDf : D ∉ [s.heap.objs.size] := fun q => nDI (List.mem_singleton.mp q)
 have Wk := (Walks.longrange (prog := prog) (w := w) (A := A.in1) hnd s.heap.objs.size a c k).toS
 have fin : ∀ (g : Heap) (m₁ tk : Nat), IsLongIter g s.heap.objs.size (a + ((0 : Nat) : Int) * c) ((k : Int) - ((0 : Nat) : Int)) c → (∀ b o, b ≠ D → s.heap.get? b = some o → g.get? b = some o) →
   g.get? D = some { cls := .type "list", data := .seq #[] m₁ } → codeAny (model prog w) A (.builtin "list.extend.loop" ⟨[.ref D, .ref s.heap.objs.size, z], []⟩) R { s with heap := g, toks := tk } := by
  intro g m₁ tk q1 q2 q3
  refine codeAny_extend_loopS Wk (by rw [sizeLine_eq]; omega) D nDf z k 0 _ #[] m₁ rfl (Nat.zero_le _) q1 q3 (ItemsOf.nil _) fun s' xs m hm hD' hx => ?_
  rw [Moved.eq_with hm]
  refine hR s'.heap s'.toks xs m (fun b o hb e => hm.heap b o (fun hq => ?_) (q2 b o hb e)) hD' hx
  rcases List.mem_cons.mp hq with e' | hq
  ·exact hb e'
  ·exact absurd (Heap.lt_size e) (by rw [List.mem_singleton.mp hq]; exact Nat.lt_irrefl _)
 unfold Builtin.List.listExtendWith
 refine wpAny_bind (wpAny_typeOf (T := "range") ⟨_, hr, rfl⟩ ?_)
 have x1 : Builtin.List.listSameRef (.ref D) (.ref r) = false := by simp [Builtin.List.listSameRef, nDr]
 have x2 : (Value.type "range" == Value.type "list") = false := by decide
 have x3 : (Value.type "range" == Value.type "tuple") = false := by decide
 simp only [x1, x2, x3, Bool.or_false, Bool.false_eq_true, if_false]
 refine wpAny_bind (wpAny_pyIter_longrange hr hbig ?_)
 refine wpAny_bind (wpAny_holding (wpAny_hint_range (n := k) (Heap.get?_push_of_some _ hr) hk hle ?_))
 generalize hG : s.heap.push { cls := .type "longrange_iterator", data := .fields #[rawInt a, rawInt (Builtin.Range.rangeSize a b c), rawInt c] } = G
 have i1 : IsLongIter G s.heap.objs.size (a + ((0 : Nat) : Int) * c) ((k : Int) - ((0 : Nat) : Int)) c := by
  have q : G.get? s.heap.objs.size = some { cls := .type "longrange_iterator", data := .fields #[rawInt a, rawInt (Builtin.Range.rangeSize a b c), rawInt c] } := by rw [← hG]; exact Heap.get?_push_size _ rfl
  rw [hk] at q
  show G.get? _ = _
  rw [q]; simp
 have old : ∀ b o, s.heap.get? b = some o → G.get? b = some o := fun b o e => by rw [← hG]; exact Heap.get?_push_of_some _ e
 have d1 := old D _ hD
 refine wpAny_ite_split (fun _ => ?_) (fun _ => wpAny_pure ⟨plainId_quiet F.plain_extend_loop _, fin _ m₀ _ i1 (fun b o _ e => old b o e) d1⟩)
 refine wpAny_bind (wpAny_rule ?_)
 refine wpAny_bind ?_
 show wpAny _ _ (updateSeq D (·.push .none) >>= fun _ => updateSeq D (·.pop)) _ _ _
 refine wpAny_bind (wpAny_updateSeq d1 rfl ?_)
 have d2 := Heap.get?_update_self (Obj.mapSeq (·.push Value.none)) d1 rfl
 refine wpAny_updateSeq (hz := by seq_fits) d2 rfl ?_
 have d3 := Heap.get?_update_self (Obj.mapSeq (·.pop)) d2 rfl
 refine wpAny_pure ⟨plainId_quiet F.plain_extend_loop _, fin _ _ _ ?_ (fun b o hb e => ?_) d3⟩
 ·exact (Heap.get?_update_other _ _ nDI).trans ((Heap.get?_update_other _ _ nDI).trans i1)
 ·exact (Heap.get?_update_other _ _ (Ne.symm hb)).trans ((Heap.get?_update_other _ _ (Ne.symm hb)).trans (old b o e))
theorem xks {R : Result → Shared → Prop} {r : Addr} {a b c : Int} {t u v : Tok} {k : Nat} (hnd : A.handled = none) (hr : IsRange s.heap r a b c t u v)
  (hk : Builtin.Range.rangeSize a b c = k) (hle : k ≤ 2 ^ 24) (D : Addr) (z : Value) (m₀ : Nat) (hD : s.heap.get? D = some { cls := .type "list", data := .seq #[] m₀ })
  (hR : ∀ g tk xs m, (∀ b o, b ≠ D → s.heap.get? b = some o → g.get? b = some o) → g.get? D = some { cls := .type "list", dict := none, data := .seq xs m, slots := #[] } →
   ItemsOf (fun i v => ∃ t, v = .int (a + i * c) t) xs k → R (.ok (.ret z)) { s with heap := g, toks := tk }) :
  wpAny (model prog w) A.in1 (Builtin.List.listExtendWith (.ref D) (.ref r) z)
   (fun fin s' => match fin with | .done f => R (.ok f) s' | .again d => d.quiet = true ∧ codeAny (model prog w) A d R s') (fun e s' => R (.error e) s') s := by
 cases hs : Builtin.Range.small a b c with
 | true => exact wpAny_extend_range hnd hr hs hk hle D z m₀ hD hR
 | false => exact xkr hnd hr hs hk hle D z m₀ hD hR
theorem xgW {Q : Value → Shared → Prop} {r : Addr} {a b c : Int} {t u v : Tok} {k : Nat} (hnd : A.handled = none) (hr : IsRange s.heap r a b c t u v)
  (hk : Builtin.Range.rangeSize a b c = k) (hle : k ≤ 2 ^ 24)
  (hQ : ∀ g tk xs m, (∀ b o, s.heap.get? b = some o → g.get? b = some o) →
   g.get? s.heap.objs.size = some { cls := .type "list", dict := none, data := .seq xs m, slots := #[] } → ItemsOf (fun i v => ∃ t, v = .int (a + i * c) t) xs k → Q (.ref s.heap.objs.size) { s with heap := g, toks := tk }) :
  wpAny (model prog w) A (call (.type "list") [.ref r]) Q E s := by
 refine callType_codes (Q₁ := fun obj s₁ => obj = .ref s.heap.objs.size ∧ s₁ = { s with heap := s.heap.push { cls := .type "list", data := .seq #[] } }) F.called_list (F.typeCall_list_1 _) F.entry_list_init
  (code_list_new _ ⟨rfl, rfl⟩) fun obj s₁ q₁ => ?_
 obtain ⟨rfl, rfl⟩ := q₁
 generalize hG : s.heap.push { cls := .type "list", data := .seq #[] } = G
 have old : ∀ b o, s.heap.get? b = some o → G.get? b = some o := fun b o e => by rw [← hG]; exact Heap.get?_push_of_some _ e
 have hD : G.get? s.heap.objs.size = some { cls := .type "list", data := .seq #[] } := by rw [← hG]; exact Heap.get?_push_size _ rfl
 have nDr : s.heap.objs.size ≠ r := fun e => absurd (Heap.lt_size hr) (by rw [← e]; exact Nat.lt_irrefl _)
 refine ⟨⟨_, hD, rfl⟩, F.args_list_init_2 _ _, ?_⟩
 show wpAny _ _ (do let old ← Builtin.List.listItems (.ref s.heap.objs.size); Builtin.List.listUpdate (.ref s.heap.objs.size) (fun _ => #[]); letGo old.toList.reverse; Builtin.List.listExtendWith (.ref s.heap.objs.size) (.ref r) .none) _ _ _
 refine wpAny_bind ?_
 unfold Builtin.List.listItems
 refine wpAny_bind (wpAny_seqItems hD rfl (wpAny_pure ?_))
 show wpAny _ _ (updateSeq s.heap.objs.size (fun _ => #[]) >>= fun _ => letGo (#[] : Array Value).toList.reverse >>= fun _ => Builtin.List.listExtendWith (.ref s.heap.objs.size) (.ref r) .none) _ _ _
 refine wpAny_bind (wpAny_updateSeq hD rfl ?_)
 have d2 := Heap.get?_update_self (Obj.mapSeq (fun _ => (#[] : Array Value))) hD rfl
 have oth : ∀ b o, b ≠ s.heap.objs.size → G.get? b = some o → (G.update s.heap.objs.size (Obj.mapSeq (fun _ => (#[] : Array Value)))).get? b = some o :=
  fun b o hb e => (Heap.get?_update_other _ _ (Ne.symm hb)).trans e
 refine wpAny_bind (wpAny_letGo ?_)
 refine xks (A := A.in1) hnd (oth r _ (Ne.symm nDr) (old r _ hr)) hk hle s.heap.objs.size .none _ d2 fun g tk xs m q1 q2 q3 => ⟨rfl, ?_⟩
 exact hQ g tk xs m (fun b o e => q1 b o (Nat.ne_of_lt (Heap.lt_size e)) (oth b o (Nat.ne_of_lt (Heap.lt_size e)) (old b o e))) q2 q3
end
end PySem
namespace L2
open PySem PySem.Spec PyProof.Rows
def xej (lo : Int) (n : Nat) : List V := (List.range n).map fun (i : Nat) => V.int (lo + (i : Int))
theorem xfu (lo : Int) (n : Nat) : (xej lo n).length = n := by simp [xej]
theorem xcT : ∀ {xs : List V} {us : List Value}, xs.length = us.length → (∀ (j : Nat) (x : V) (u : Value), xs[j]? = some x → us[j]? = some u → RelV x u) → Vals xs us
 | [], [], _, _ => .nil
 | [], _ :: _, h, _ => by simp at h
 | _ :: _, [], h, _ => by simp at h
 | x :: xs, u :: us, h, k => .cons (k 0 x u rfl rfl) (xcT (by simpa using h) fun j y v e1 e2 => k (j + 1) y v (by simpa using e1) (by simpa using e2))
theorem xkt {lo : Int} {n : Nat} {xs : Array Value} (h : ItemsOf (fun i v => ∃ t, v = .int (lo + (i : Int) * 1) t) xs n) : Vals (xej lo n) xs.toList := by
 obtain ⟨hl, hv⟩ := h
 refine xcT (by rw [xfu]; simp [hl]) fun j x u e1 e2 => ?_
 obtain ⟨t, rfl⟩ := hv j u (by simpa using e2)
 unfold xej at e1
 rw [List.getElem?_map] at e1
 cases q : (List.range n)[j]? with
 | none => rw [q] at e1; cases e1
 | some i =>
  rw [q] at e1
  have e3 : i = j := by
   obtain ⟨h1, h2⟩ := List.getElem?_eq_some_iff.mp q
   rw [List.getElem_range] at h2; exact h2.symm
  subst e3
  cases e1
  exact ⟨t, by rw [Int.mul_one]⟩
section
variable {X : Cx}
theorem jQ (hc : X.calm = true) : zp X (.type "list") (fun xs H Q => ∃ p lo hi, xs = [.ref p] ∧ H p = some (.rng lo hi) ∧ yo lo hi 1 ≤ 2 ^ 24 ∧ ∀ l, H l = none → Q (.ref l) (upd H l (.lst (xej lo (yo lo hi 1))))) := by
 intro pins s σ H xs us Q I r h
 obtain ⟨p, lo, hi, rfl, hp, hz, q⟩ := h
 obtain ⟨u, rfl, ru⟩ := Vals.one r
 cases ru
 obtain ⟨t, u, v, hr⟩ := I.hok p _ hp
 refine xgW (I.ok.hd hc) hr (xhs lo hi 1).symm hz fun g tk xs m k1 k2 k3 => ?_
 have fr : H s.heap.objs.size = none := I.hok.fresh (Nat.le_refl _)
 refine ⟨.ref s.heap.objs.size, upd H s.heap.objs.size (.lst (xej lo (yo lo hi 1))), I.laid (h' := g) (t' := tk) k1 (Nat.le_refl _) ⟨?_, xs.toList, m, xkt k3, by simpa using k2⟩, rfl, q _ fr⟩
 rw [xfu, sizeLine_eq]
 omega
end
end L2
namespace L2
open PySem PySem.Spec PyProof.Rows
mutual
inductive Rp (K : W.Frag) (H : Hp) : V → PyData → Prop
 | non : Rp K H .non .none
 | bl (b : Bool) : Rp K H (.bl b) (.bool b)
 | int (i : Int) : Rp K H (.int i) (.int i)
 | str (x : Str) : Rp K H (.str x) (.str x)
 | lst {a : Addr} {xs : List V} {ds : List PyData} : SqL K H a xs → Rps K H xs ds → Rp K H (.ref a) (.list ds)
 | tup {a : Addr} {xs : List V} {ds : List PyData} : SqT K H a xs → Rps K H xs ds → Rp K H (.ref a) (.tuple ds)
inductive Rps (K : W.Frag) (H : Hp) : List V → List PyData → Prop
 | nil : Rps K H [] []
 | cons {x : V} {d : PyData} {xs : List V} {ds : List PyData} : Rp K H x d → Rps K H xs ds → Rps K H (x :: xs) (d :: ds)
end
theorem xc.seqT {K : W.Frag} {H H' : Hp} {a : Addr} {xs : List V} (e : xc H H') (h : SqT K H a xs) : SqT K H' a xs := by
 rcases h with (h | ⟨o, h⟩) | h
 ·exact .inl (.inl (e _ _ h))
 ·exact .inl (.inr ⟨o, e _ _ h⟩)
 ·exact .inr h
theorem Rps.ints {K : W.Frag} {H : Hp} : ∀ ns : List Int, Rps K H (ns.map V.int) (ns.map PyData.int)
 | [] => .nil
 | i :: r => .cons (.int i) (Rps.ints r)
theorem Rp.ints {K : W.Frag} {H : Hp} {a : Addr} {ns : List Int} (h : SqL K H a (ns.map V.int)) : Rp K H (.ref a) (.list (ns.map PyData.int)) := .lst h (.ints ns)
section
variable {X : Cx} {pins : List (Addr × Obj)} {σ : St} {H : Hp} {s : Shared}
mutual
theorem Rp.reads (I : Inv X pins σ H s) : ∀ {v : V} {d : PyData} {u : Value}, Rp X.K H v d → RelV v u → ∃ as, Reads s.heap u d as
 | _, _, u, .non, r => by cases (show u = Value.none from r); exact ⟨_, .none⟩
 | _, _, u, .bl b, r => by cases (show u = Value.bool b from r); exact ⟨_, .bool b⟩
 | _, _, u, .int i, r => by obtain ⟨t, e⟩ := (show ∃ t, u = Value.int i t from r); subst e; exact ⟨_, .int i t⟩
 | _, _, u, .str x, r => by obtain ⟨t, e⟩ := (show ∃ t, u = Value.str x t from r); subst e; exact ⟨_, .str x t⟩
 | _, _, u, .lst (a := a) q rr, r => by
  cases (show u = Value.ref a from r)
  obtain ⟨its, rv, p, hz⟩ := I.list q
  obtain ⟨as, ra⟩ := Rps.reads I rr rv
  obtain ⟨o, ho, hc, n, hd⟩ := p.isList
  exact ⟨_, .list ho hc hd (by simpa using ra)⟩
 | _, _, u, .tup (a := a) q rr, r => by
  cases (show u = Value.ref a from r)
  obtain ⟨its, rv, p, hz⟩ := I.tuple q
  obtain ⟨as, ra⟩ := Rps.reads I rr rv
  obtain ⟨o, ho, hc, n, hd⟩ := p
  exact ⟨_, .tuple ho hc hd (by simpa using ra)⟩
theorem Rps.reads (I : Inv X pins σ H s) : ∀ {v : List V} {d : List PyData} {u : List Value}, Rps X.K H v d → Vals v u → ∃ as, ReadsAll s.heap u d as
 | _, _, _, .nil, .nil => ⟨_, .nil⟩
 | _, _, _, .cons q rr, .cons r t => by
  obtain ⟨as, h1⟩ := Rp.reads I q r
  obtain ⟨bs, h2⟩ := Rps.reads I rr t
  exact ⟨_, .cons h1 h2⟩
end
end
def xmx (K : W.Frag) (f : Bool → Bool) : R2 := fun x y H Q => ∃ da db, Rp K H x da ∧ Rp K H y db ∧ SeqAt.shaped da = true ∧ SeqAt.shaped db = true ∧ Q (.bl (f (PyData.eqv da db))) H
section
variable {X : Cx}
theorem xgf (hu : X.A.units + 64 < cLine) : OpR X (compareOp .NotEq) (xmx X.K fun b => !b) := by
 intro pins s σ H x y v u Q I rx ry q
 obtain ⟨da, db, hx, hy, sa, sb, q⟩ := q
 obtain ⟨as, ra⟩ := hx.reads I rx
 obtain ⟨bs, rb⟩ := hy.reads I ry
 exact ne_dataH ra rb sa sb hu ⟨.bl (!PyData.eqv da db), H, I, rfl, q⟩
def xqj (K : W.Frag) (f : Bool → Bool) : R2 := fun x y H Q => ∃ (a b : Addr) (ns ms : List Int), x = .ref a ∧ y = .ref b ∧ SqL K H a (ns.map V.int) ∧ SqL K H b (ms.map V.int) ∧ Q (.bl (f (decide (ns = ms)))) H
theorem xe1 {K : W.Frag} {f : Bool → Bool} {x y : V} {H : Hp} {Q : VK} (q : xqj K f x y H Q) : xmx K f x y H Q := by
 obtain ⟨a, b, ns, ms, rfl, rfl, ha, hb, q⟩ := q
 refine ⟨_, _, .ints ha, .ints hb, W.ke_shaped_ints ns, W.ke_shaped_ints ms, ?_⟩
 have e : PyData.eqv (.list (ns.map PyData.int)) (.list (ms.map PyData.int)) = decide (ns = ms) := W.ked_eqvAll ns ms
 rw [e]; exact q
def xoZ : V → Option Value
 | .ty n => some (.type n)
 | .ref a => some (.ref a)
 | _ => none
theorem xmy {c : V} {cv v : Value} (h : xoZ c = some cv) (r : RelV c v) : v = cv := by
 cases c with
 | ref a => cases h; exact r
 | ty n => cases h; exact r
 | _ => cases h
def xo0 (K : W.Frag) : List V → Hp → VK → Prop := fun xs H Q => ∃ x c t cv b, xs = [x, c] ∧ xoZ c = some cv ∧ uy K H x t ∧ W.kitOne K t cv = some b ∧ Q (.bl b) H
theorem vU : zp X (.builtin "isinstance") (xo0 X.K) := by
 intro pins s σ H xs us Q I r h
 obtain ⟨x, c, t, cv, b, rfl, rc, ty, e, q⟩ := h
 obtain ⟨u, v, rfl, ru, rv⟩ := Vals.two r
 have e2 := xmy rc rv
 subst e2
 exact xlo I ru ty e fun tk => ⟨.bl b, H, I.tok _, rfl, q⟩
structure xo1 (K : W.Frag) (C : Addr) (m : Str) (f : Addr) : Prop where
 sp : W.specialIn K (.ref C) "__getattribute__" = some (some (.builtin "type.__getattribute__"))
 rd : W.readsIn K C (.type "type") = true
 fd : W.findCls K (.ref C) (.type "type") m = some (.val (.ref f))
 kp : W.keepIn K (.ref f) = true
theorem xjH {x m : Str} {C f : Addr} {fd : FuncData} {ps : List Str} {sp : Sp} {dvs : List V} {ds : List Value} {E : XK} {CX : CXT} {k : Nat} {p apos pos : Pos} {e : Expr} {es : List Expr} {t : TA} {pl : Sem Bool}
  (hg : Gl X x) (hm : X.mg x = some (.ref C)) (M : xo1 X.K C m f) (F : xA X.prog X.w X.K X.mg X.base CX k f fd ps sp) (hr : xX k X.A) (hb : Binds X.K fd ps ds) (hd : Vals dvs ds) (hx : Passes CX X E) (ha : PA X (e :: es) t)
  (hst : starEach (e :: es) X.env = (false, eval e X.env) :: starEach es X.env := by rfl) (hpl : (backTo pos (starEach es X.env)).any (·.1) = false := by rfl) (hdb : (x == ("__debug__" : Str)) = false := by decide)
  (ht : eval (.Call (.Attribute (.Name x p) m apos) (e :: es) [] pos) X.env = (do
   let ov ← eval (.Name x p) X.env
   standAt apos.atName
   let (f, first) ← holding [ov] (getMethod ov m pl)
   callWith pos f first (backTo pos (starEach (e :: es) X.env)) (backToKw pos (keywordEach [] X.env))) := by rfl) :
  PE X (.Call (.Attribute (.Name x p) m apos) (e :: es) [] pos) (xeS sp dvs E t) := by
 intro pins s σ H Q I h
 refine W.methodCall_KW (pl := pl) (xaW I hg hm ?_ hdb) ht
 refine W.method_cls I.kIn M.sp (W.cls_value I.kIn M.rd M.fd rfl ?_)
 have I1 := I.tok (s.toks + 1)
 refine W.callWith_K (first := []) (h₀ := X.base) I.ok.mod.kin M.kp (thn (ha pos pins _ σ H _ I1 h) fun us s2 ⟨vs, H2, I2, r, q2⟩ => ⟨I2.kIn, ?_⟩) hst hpl
 exact xga F hr hb hd hx I2 r q2
end
end L2
namespace L2
open PySem PySem.Spec PyProof.Rows
theorem yv : bootBuiltins "len" = some (.builtin "len") := by decide +kernel
theorem xek : bootBuiltins "max" = some (.builtin "max") := by decide +kernel
theorem xlz : bootBuiltins "min" = some (.builtin "min") := by decide +kernel
theorem xo2 : bootBuiltins "abs" = some (.builtin "abs") := by decide +kernel
theorem zz : bootBuiltins "isinstance" = some (.builtin "isinstance") := by decide +kernel
theorem xlA : bootBuiltins "sorted" = some (.builtin "sorted") := by decide +kernel
theorem xo3 : bootBuiltins "all" = some (.builtin "all") := by decide +kernel
theorem xa1 : bootBuiltins "list" = some (.type "list") := by decide +kernel
theorem xa2 : bootBuiltins "tuple" = some (.type "tuple") := by decide +kernel
theorem xlB : bootBuiltins "int" = some (.type "int") := by decide +kernel
theorem xnT : bootBuiltins "bool" = some (.type "bool") := by decide +kernel
theorem xcd : bootBuiltins "enumerate" = some (.type "enumerate") := by decide +kernel
theorem xnU {f : Str} {v : V} {fs : List (Str × V)} {n : Nat} (h : fs.length < n) : (vS f v fs).length < n + 1 := Nat.lt_of_le_of_lt (xcR f v fs) (by omega)
section
variable {X : Cx} {a b c : Expr} {ta tb : TE} {pos : Pos}
theorem xgg (hc : X.calm = true) : zp X (.builtin "max") (fun xs H Q => xe0 (fun i j H1 => Q (.int (max i j)) H1) xs H) := (xlj hc).imp fun xs H Q q => by
 obtain ⟨i, j, rfl, q⟩ := xdA q
 refine ⟨i, j, rfl, ?_⟩
 have e : (if j > i then j else i) = max i j := by split <;> omega
 rw [e]; exact q
theorem xlC (hc : X.calm = true) : zp X (.builtin "min") (fun xs H Q => xe0 (fun i j H1 => Q (.int (min i j)) H1) xs H) := (xlk hc).imp fun xs H Q q => by
 obtain ⟨i, j, rfl, q⟩ := xdA q
 refine ⟨i, j, rfl, ?_⟩
 have e : (if j < i then j else i) = min i j := by split <;> omega
 rw [e]; exact q
theorem xpN : zp X (.builtin "abs") (fun xs H Q => xkp (fun i H1 => Q (.int (i.natAbs : Int)) H1) xs H) := xml.imp fun xs H Q q => by
 obtain ⟨i, rfl, q⟩ := xjG q
 refine ⟨i, rfl, ?_⟩
 have e : (if i < 0 then -i else i) = (i.natAbs : Int) := by split <;> omega
 rw [e]; exact q
def isN : V → Bool
 | .non => true
 | _ => false
theorem xjI (x : V) : decide (x = .non) = isN x := by cases x <;> simp [isN]
def xpO (ta : TE) : TT := fun σ H Q => ta σ H fun x H1 => Q (isN x) H1
def xo4 (ta : TE) : TT := fun σ H Q => ta σ H fun x H1 => Q (!isN x) H1
theorem xgh {j pos'} (ha : PE X a ta) : PT X (.Compare a [.Is] [.Constant .none j pos'] pos) (xpO ta) := (xle (xoC ha)).imp fun σ H Q q => by
 show ta σ H _
 have e : (fun x H1 => ∃ c, V.bl (decide (x = V.non)) = .bl c ∧ Q c H1) = fun x H1 => Q (isN x) H1 := by
  funext x H1; rw [xjI]; apply propext; exact ⟨fun ⟨c, e, q⟩ => by cases e; exact q, fun q => ⟨_, rfl, q⟩⟩
 rw [e]; exact q
theorem xgX {j pos'} (ha : PE X a ta) : PT X (.Compare a [.IsNot] [.Constant .none j pos'] pos) (xo4 ta) := (xle (xnE ha)).imp fun σ H Q q => by
 show ta σ H _
 have e : (fun x H1 => ∃ c, V.bl (!decide (x = V.non)) = .bl c ∧ Q c H1) = fun x H1 => Q (!isN x) H1 := by
  funext x H1; rw [xjI]; apply propext; exact ⟨fun ⟨c, e, q⟩ => by cases e; exact q, fun q => ⟨_, rfl, q⟩⟩
 rw [e]; exact q
theorem xmz {body : List Stmt} {tc : TT} {tb : TS} (hp : PassesOwn (model X.prog X.w) X.A X.env X.xe) (hc : PT X c tc) (hb : PSs X body tb) : PS X (.While c body [] pos) (xlv tc tb) := by
 intro pins s σ H D I h
 unfold xlv xeZ at h
 obtain ⟨W, ⟨m0, w0⟩, turn⟩ := h
 refine wpAny_While (codeAny_whileLoop (fun n s' => ∃ σ' H', Inv X pins σ' H' s' ∧ W n σ' H') ?_ m0 ⟨σ, H, I, w0⟩)
 rintro n s1 ⟨σ1, H1, I1, w1⟩
 refine wpAny_passesOwn hp (thn (hc pins s1 σ1 H1 _ I1 (turn n σ1 H1 w1)) fun b s2 ⟨H2, I2, q2⟩ => ?_)
 cases b with
 | true =>
  obtain ⟨N, hN, q2⟩ := q2.1 rfl
  rw [if_pos rfl]
  refine wpAny_passesOwn hp (thn (hb pins s2 σ1 H2 _ I2 q2) fun f s3 q3 => ?_)
  cases f with
  | next =>
   obtain ⟨σ3, H3, I3, n3⟩ := q3
   obtain ⟨m', hm, w3⟩ := hN σ3 H3 n3
   exact ⟨m', hm, σ3, H3, I3, w3⟩
  | cont =>
   obtain ⟨σ3, H3, I3, n3⟩ := q3
   obtain ⟨m', hm, w3⟩ := hN σ3 H3 n3
   exact ⟨m', hm, σ3, H3, I3, w3⟩
  | brk => exact q3
  | ret v => exact q3
 | false =>
  rw [if_neg Bool.false_ne_true]
  exact wpAny_execs_nil ⟨σ1, H2, I2, q2.2 rfl⟩
end
theorem xbq {lo st : Int} {n : Nat} {g : TG} {tb : TS} {D : Ends} {σ : St} {H : Hp} (Pv : Nat → St → Hp → Prop) (h0 : Pv 0 σ H)
  (hs : ∀ (i : Nat) σ H, i < n → Pv i σ H → g (.int (lo + i * st)) σ H fun σ2 H2 => tb { D with nx := Pv (i + 1), ct := Pv (i + 1), bk := D.nx } σ2 H2) (hd : ∀ σ H, Pv n σ H → D.nx σ H) : vE (Its lo st n) g tb D σ H := by
 unfold vE
 refine ⟨fun i m σ H => m = n - i ∧ i ≤ n ∧ Pv i σ H, ⟨n, by simp, Nat.zero_le _, h0⟩, ?_⟩
 rintro i m σ H ⟨rfl, hi, p⟩
 by_cases hlt : i < n
 ·refine .inr ⟨hlt, Pv (i + 1), fun σ' H' p' => ⟨n - (i + 1), by omega, rfl, hlt, p'⟩, fun x H' y => ?_⟩
  obtain ⟨e, y⟩ := y
  subst e y
  exact hs i σ _ hlt p
 ·have e : i = n := by omega
  subst e
  exact .inl ⟨Nat.le_refl _, hd σ H p⟩
theorem zH {K : W.Frag} {l : Addr} {xs : List V} {g : TG} {tb : TS} {D : Ends} {σ : St} {H : Hp} (Pv : Nat → St → Hp → Prop) (h0 : Pv 0 σ H) (hl : ∀ i σ H, i ≤ xs.length → Pv i σ H → SqL K H l xs)
  (hs : ∀ i x σ H, xs[i]? = some x → Pv i σ H → g x σ H fun σ2 H2 => tb { D with nx := Pv (i + 1), ct := Pv (i + 1), bk := D.nx } σ2 H2) (hd : ∀ σ H, Pv xs.length σ H → D.nx σ H) : vE (Itl K l) g tb D σ H := by
 unfold vE
 exact xmj Pv h0 hl hs hd
theorem xhu {K : W.Frag} {l : Addr} {xs : List V} {g : TG} {tb : TS} {D : Ends} {σ : St} {H : Hp} (Pv : Nat → St → Hp → Prop) (h0 : Pv 0 σ H) (hl : ∀ i σ H, i ≤ xs.length → Pv i σ H → SqT K H l xs)
  (hs : ∀ i x σ H, xs[i]? = some x → Pv i σ H → g x σ H fun σ2 H2 => tb { D with nx := Pv (i + 1), ct := Pv (i + 1), bk := D.nx } σ2 H2) (hd : ∀ σ H, Pv xs.length σ H → D.nx σ H) : vE (Itt K l) g tb D σ H := by
 unfold vE
 exact xnG Pv h0 hl hs hd
theorem xc.new {H : Hp} {p : Addr} {o : HO} (h : H p = none) : xc H (upd H p o) := fun b u e => by rw [xn (xB e h)]; exact e
theorem xc.put {H H' : Hp} {p : Addr} {o : HO} (e : xc H H') (h : H p = none) : xc H (upd H' p o) := fun b u q => by rw [xn (xB q h)]; exact e b u q
theorem xc.at {H H' : Hp} {p : Addr} {o : HO} (e : xc H H') (h : H p = some o) : H' p = some o := e p o h
end L2
namespace L2
open PySem PySem.Spec PyProof.Rows
theorem xc.of_eq {H H' : Hp} {p : Addr} {o : HO} (h : H p = none) (e : upd H p o = H') : xc H H' := by rw [← e]; exact xc.new h
theorem xq {H H' : Hp} {p : Addr} {o : HO} (e : upd H p o = H') : H' p = some o := by rw [← e]; exact xo
theorem xc.back {H H' : Hp} {p : Addr} (e : xc H H') (h : H' p = none) : H p = none := xc.free e h
theorem xc.wr {H0 H H' : Hp} {p : Addr} {o : HO} (s : xc H0 H) (f : H0 p = none) (e : upd H p o = H') : xc H0 H' := by rw [← e]; exact s.put f
end L2
namespace L2
open PySem PySem.Spec PyProof.Rows
structure uX (H0 H : Hp) (l : Addr) (as : List Addr) (xss : List (List Int)) : Prop where
 top : H l = some (.lst (as.map V.ref))
 nd : (l :: as).Nodup
 len : as.length = xss.length
 each : ∀ (i : Nat) (a : Addr) (xs : List Int), as[i]? = some a → xss[i]? = some xs → H a = some (.lst (xs.map V.int))
 fr : H0 l = none
 frs : ∀ a ∈ as, H0 a = none
theorem uX.same {H0 H H' : Hp} {l : Addr} {as : List Addr} {xss : List (List Int)} (L : uX H0 H l as xss) (s : xc H H') : uX H0 H' l as xss :=
 ⟨s.at L.top, L.nd, L.len, fun i a xs h1 h2 => s.at (L.each i a xs h1 h2), L.fr, L.frs⟩
theorem uX.nil {H0 H H' : Hp} {l : Addr} (h : H0 l = none) (e : H l = some (.lst [])) : uX H0 H l [] [] :=
 ⟨e, by simp, rfl, fun i a xs h1 _ => by simp at h1, h, fun a ha => by simp at ha⟩
theorem uX.tracked {H0 H : Hp} {l : Addr} {as : List Addr} {xss : List (List Int)} (L : uX H0 H l as xss) {a : Addr} (ha : a ∈ as) : ∃ xs : List Int, H a = some (.lst (xs.map V.int)) := by
 obtain ⟨i, hi, rfl⟩ := List.mem_iff_getElem.mp ha
 have h2 : i < xss.length := by rw [← L.len]; exact hi
 exact ⟨xss[i], L.each i _ _ (List.getElem?_eq_getElem hi) (List.getElem?_eq_getElem h2)⟩
theorem uX.apart {H0 H : Hp} {l : Addr} {as : List Addr} {xss : List (List Int)} (L : uX H0 H l as xss) {p : Addr} (h : H p = none) : p ∉ l :: as := by
 intro z
 rcases List.mem_cons.mp z with rfl | z
 ·rw [L.top] at h; cases h
 ·obtain ⟨xs, e⟩ := L.tracked z
  rw [e] at h; cases h
theorem uX.push {H0 H H' : Hp} {l p : Addr} {as : List Addr} {xss : List (List Int)} {xs : List Int} (L : uX H0 H l as xss) (hp : H p = some (.lst (xs.map V.int))) (hne : p ∉ l :: as) (hf : H0 p = none)
  (e : upd H l (.lst (as.map V.ref ++ [.ref p])) = H') : uX H0 H' l (as ++ [p]) (xss ++ [xs]) := by
 subst e
 have hpl : p ≠ l := fun z => hne (by rw [z]; exact List.mem_cons_self)
 have hpa : p ∉ as := fun z => hne (List.mem_cons_of_mem _ z)
 obtain ⟨n1, n2⟩ := List.nodup_cons.mp L.nd
 refine ⟨by rw [xo, List.map_append]; rfl, ?_, by simp [L.len], fun i a ys h1 h2 => ?_, L.fr, fun a ha => ?_⟩
 ·refine List.nodup_cons.mpr ⟨fun z => ?_, xjE n2 hpa⟩
  rcases List.mem_append.mp z with z | z
  ·exact n1 z
  ·exact hpl (List.mem_singleton.mp z).symm
 ·have hla : a ∈ as ++ [p] := List.mem_of_getElem? h1
  have nal : a ≠ l := fun z => by
   subst z
   rcases List.mem_append.mp hla with z | z
   ·exact n1 z
   ·exact hpl (List.mem_singleton.mp z).symm
  rw [xn nal]
  by_cases hi : i < as.length
  ·rw [List.getElem?_append_left hi] at h1
   rw [List.getElem?_append_left (by rw [← L.len]; exact hi)] at h2
   exact L.each i a ys h1 h2
  ·rw [List.getElem?_append_right (by omega)] at h1
   rw [List.getElem?_append_right (by rw [← L.len]; omega)] at h2
   have e1 : i - as.length = 0 := by
    cases hq : i - as.length with
    | zero => rfl
    | succ k => rw [hq] at h1; simp at h1
   rw [e1] at h1
   rw [← L.len, e1] at h2
   simp at h1 h2
   rw [← h1, ← h2]; exact hp
 ·rcases List.mem_append.mp ha with z | z
  ·exact L.frs a z
  ·have z' : a = p := by simpa using z
   rw [z']; exact hf
theorem xgi {lo st : Int} {n : Nat} {te : TE} {caps : L2.St} {Q : VK} {H2 : Hp} (f : Nat → List Int) (hn : n ≤ sizeLine)
  (hs : ∀ (i : Nat) (H3 : Hp), i < n → xc H2 H3 → ∀ R : VK, (∀ l H6, xc H3 H6 → H3 l = none → H6 l = some (.lst ((f i).map V.int)) → R (.ref l) H6) → te (some (.int (lo + i * st)) :: caps) H3 R)
  (hd : ∀ D H' as, xc H2 H' → uX H2 H' D as ((List.range n).map f) → Q (.ref D) H') : uL (Its lo st n) caps xgT te Q H2 := by
 unfold uL
 intro D hD
 refine ⟨fun i m acc H3 => m = n - i ∧ i ≤ n ∧ xc H2 H3 ∧ ∃ as, acc = as.map V.ref ∧ uX H2 H3 D as ((List.range i).map f), ⟨n, by simp, Nat.zero_le _, xc.new hD, [], rfl, uX.nil (H' := H2) hD xo⟩, ?_⟩
 rintro i m acc H3 ⟨rfl, hi, s3, as, rfl, L⟩
 refine ⟨L.top, ?_⟩
 by_cases hlt : i < n
 ·have hl : as.length = i := by rw [L.len]; simp
  refine .inr ⟨hlt, by simp [hl]; omega, fun v H4 y => ?_⟩
  obtain ⟨e, y⟩ := y
  subst e y
  refine ⟨fun _ => ?_, fun z => by cases z⟩
  refine hs i _ hlt s3 _ fun l H6 s6 hl0 hl6 => ⟨s6.at L.top, n - (i + 1), by omega, rfl, hlt, (s3.trans s6).put hD, as ++ [l], by rw [List.map_append]; rfl, ?_⟩
  rw [List.range_succ, List.map_append]
  exact (L.same s6).push hl6 (L.apart hl0) (s3.back hl0) rfl
 ·have e : i = n := by omega
  subst e
  exact .inl ⟨Nat.le_refl _, hd D H3 as s3 L⟩
section
variable {X : Cx}
end
end L2
namespace L2
open PySem PySem.Spec PyProof.Rows
abbrev HO.any : HO := .ext fun _ => True
theorem xS.anyOf {P : Program} {w : World} {H : Hp} {h : Heap} {a : Addr} {o : Obj} (e : h.get? a = some o) : xS P w H h a (.frz o HO.any) := ⟨e, trivial, ⟨o, e⟩, fun _ _ _ _ => trivial⟩
def yJ (H : Hp) (f : Addr) (nm qual : Str) (params : Arguments) (body : FuncBody) (scope : Scope) (fv : List (Str × V)) : Prop :=
 ∃ (clos : List (Str × Addr)) (c : Addr) (o : Obj) (u u' : HO) (vs : Array Value) (t : Tok) (doc pm ctv : Value),
  H f = some (.frz { cls := .type "function", data := .func { name := nm, qualname := qual, params, body, scope, globals := mainGlobals, closure := clos, defaults := .none, kwdefaults := .none, doc, pyModule := pm, annotations := none, code := .ref c, closureTuple := ctv, builtins := builtinsNs } } u) ∧
  H c = some (.frz o u') ∧ o.data = .fields vs ∧ vs[1]? = some (.str qual t) ∧
  (∀ x y a, clos.lookup x = some a → clos.lookup y = some a → x = y) ∧ (∀ x, (x, NameKind.free) ∈ scope.names → ∃ a, clos.lookup x = some a) ∧
  (∀ x v, (x, v) ∈ fv → ∃ a, clos.lookup x = some a ∧ H a = some (.cel (some v))) ∧ ∀ x a, clos.lookup x = some a → ∃ v, H a = some (.cel (some v))
theorem yJ.same {H H' : Hp} {f : Addr} {nm qual : Str} {params : Arguments} {body : FuncBody} {scope : Scope} {fv : List (Str × V)} (h : yJ H f nm qual params body scope fv) (e : xc H H') : yJ H' f nm qual params body scope fv := by
 obtain ⟨clos, c, o, u, u', vs, t, doc, pm, ctv, h1, h2, h3, h4, h5, h6, h7, h8⟩ := h
 exact ⟨clos, c, o, u, u', vs, t, doc, pm, ctv, e _ _ h1, e _ _ h2, h3, h4, h5, h6, fun x v m => let ⟨a, q1, q2⟩ := h7 x v m; ⟨a, q1, e _ _ q2⟩, fun x a q => let ⟨v, q2⟩ := h8 x a q; ⟨v, e _ _ q2⟩⟩
theorem xnV {pos pos' : Pos} {c : Value} (l : List Value) (h : TriplesOk l) :
  codeAmong pos' (l ++ [rawInt pos.line, rawInt pos.col, c]) = (match codeAmong pos' l with
   | some d => some d
   | none => if ((pos.line : Int) == pos'.line && (pos.col : Int) == pos'.col) = true then some c else none) := by
 fun_induction TriplesOk l with
 | case1 => simp [codeAmong, rawInt]
 | case2 a t b u x rest ih =>
  simp only [List.cons_append, codeAmong]
  split
  ·rfl
  ·exact ih h
 | case3 l h1 h2 => exact h.elim
def xbC (K : W.Frag) (c P : Addr) : Prop := ∀ h : Heap, K.In h → W.CodeHd h c P
theorem xhv {cells : List (Str × Addr)} : ∀ {l : List (Str × NameKind)} {cs : List (Str × Addr)} {x : Str} {c : Addr}, (yV cells l cs).lookup x = some c → (x, NameKind.free) ∈ l ∨ ∃ a, cs.lookup x = some a
 | [], cs, x, c, h => .inr ⟨c, h⟩
 | (n, k) :: r, cs, x, c, h => by
  unfold yV at h
  rcases xhv h with q | ⟨a, q⟩
  ·exact .inl (List.mem_cons_of_mem _ q)
  ·split at q
   ·rename_i hk
    rw [List.lookup_cons] at q
    split at q
    ·rename_i hx
     have e : x = n := by simpa using hx
     have e2 : k = .free := by simpa using hk
     subst e; subst e2
     exact .inl List.mem_cons_self
    ·exact .inr ⟨a, q⟩
   ·exact .inr ⟨a, q⟩
abbrev xc4 (name qual : Str) (params : Arguments) (body : FuncBody) (scope : Scope) (clos : List (Str × Addr)) (doc pm cdv ctv : Value) : Obj :=
 { cls := .type "function", data := .func { name, qualname := qual, params, body, scope, globals := mainGlobals, closure := clos, defaults := .none, kwdefaults := .none, doc, pyModule := pm, annotations := none, code := cdv, closureTuple := ctv, builtins := builtinsNs } }
section
variable {M : Model} {A : Around} {E : Value → Shared → Prop} {s : Shared} {name qual : Str} {params : Arguments} {body : FuncBody} {scope : Scope} {env : Env} {c P : Addr} {ps : Array Value} {pos : Pos} {firstLine : Nat} {mg : Str → Option Value}
 {clos : List (Str × Addr)} {Q : Value → Shared → Prop}
theorem xnW (hcl : closureFor scope env = pure clos) (hge0 : env.globals = mainGlobals) (hg : s.heap.Ns mainGlobals mg) (hcode : env.code = .ref c) (C : W.CodeHd s.heap c P) (hP : s.heap.get? P = some (W.tabObj ps)) (ht : TriplesOk ps.toList)
  (hnf : codeAmong pos ps.toList = none) (hgP : mainGlobals ≠ P) (hb : s.heap.BuiltinsAt mg P)
  (h : ∀ c' ctv doc h' tk, Heap.ExtBut P s.heap h' → s.heap.objs.size ≤ c' → c' < h'.objs.size → h'.CodeRec (.ref c') qual → h'.get? P = some (W.tabObj (ps ++ #[rawInt pos.line, rawInt pos.col, .ref c'])) →
   Q (.ref h'.objs.size) { s with heap := h'.push (xc4 name qual params body scope clos doc ((mg "__name__").getD .none) (.ref c') ctv), toks := tk }) :
  wpAny M A (makeFunction name qual params body scope env [] [] [] pos firstLine) Q E s := by
 cases body with
 | stmts b => exact W.makeFunction_K hcl hge0 hg hcode C hP ht hnf hgP hb h
 | expr e => exact W.kla_makeFunction hcl hge0 hg hcode C hP ht hnf hgP hb fun c' ctv h' tk => h c' ctv .none h' tk
theorem xo5 {cv : Value} (hcl : closureFor scope env = pure clos) (hge0 : env.globals = mainGlobals) (hg : s.heap.Ns mainGlobals mg) (hcode : env.code = .ref c) (C : W.CodeHd s.heap c P) (hP : s.heap.get? P = some (W.tabObj ps)) (ht : TriplesOk ps.toList)
  (hf : codeAmong pos ps.toList = some cv) (hb : s.heap.BuiltinsAt mg P)
  (h : ∀ (ctv doc : Value) (h' : Heap) (tk : Tok), (∀ b o, s.heap.get? b = some o → h'.get? b = some o) → s.heap.objs.size ≤ h'.objs.size →
   Q (.ref h'.objs.size) { s with heap := h'.push (xc4 name qual params body scope clos doc ((mg "__name__").getD .none) cv ctv), toks := tk }) :
  wpAny M A (makeFunction name qual params body scope env [] [] [] pos firstLine) Q E s := by
 cases body with
 | stmts b => exact W.makeFunction_hit hcl hge0 hg hcode C hP ht hf hb h
 | expr e => exact W.kla_makeFunctionHit hcl hge0 hg hcode C hP ht hf hb fun ctv h' tk => h ctv .none h' tk
end
section
variable {X : Cx} {pins : List (Addr × Obj)} {σ : St} {H : Hp} {s : Shared} {c P : Addr} {qs : List (Pos × Str)} {name qual : Str} {params : Arguments} {body : FuncBody} {scope : Scope} {pos : Pos} {fv : List (Str × V)} {Q : VK} {fns : List Str}
def tFn (X : Cx) (P : Addr) (qs : List (Pos × Str)) (fns : List Str) (name qual : Str) (params : Arguments) (body : FuncBody) (scope : Scope) : TE := fun σ H Q =>
 H P = some (.tbl qs) ∧ ∃ fv : List (Str × V), fv.map (·.1) = fns ∧ (∀ x v, (x, v) ∈ fv → ∃ a, X.env.cells.lookup x = some a ∧ H a = some (.cel (some v))) ∧
  ∀ f H', H f = none → xc H H' → yJ H' f name qual params body scope fv → Q (.ref f) H'
theorem xnX (I : Inv X pins σ H s) (hcode : X.env.code = .ref c) (T : xbC X.K c P) (hq : (pos, qual) ∈ qs) (hu : (qs.all fun p => !((pos.line == p.1.line) && (pos.col == p.1.col)) || (p.2 == qual)) = true)
  (hfr : (scope.names.filter fun y => y.2 == .free).map (·.1) = fns) (h : tFn X P qs fns name qual params body scope σ H Q) {n : Nat} :
  wpAny (model X.prog X.w) X.A (makeFunction name qual params body scope X.env [] [] [] pos n) (EP X pins σ Q) X.xe s := by
 obtain ⟨hP, fv, hn, hf, h⟩ := h
 have isfr : ∀ x, (x, NameKind.free) ∈ scope.names ↔ x ∈ fns := fun x => by
  rw [← hfr, List.mem_map]
  constructor
  ·exact fun m => ⟨(x, .free), List.mem_filter.mpr ⟨m, rfl⟩, rfl⟩
  ·rintro ⟨⟨y, k⟩, m, rfl⟩
   have m2 := List.mem_filter.mp m
   have e : k = .free := by simpa using m2.2
   subst e
   exact m2.1
 have names : ∀ x, (x, NameKind.free) ∈ scope.names → ∃ v a, (x, v) ∈ fv ∧ X.env.cells.lookup x = some a ∧ H a = some (.cel (some v)) := fun x hx => by
  have m := (isfr x).mp hx
  rw [← hn] at m
  obtain ⟨⟨x', v⟩, hm, rfl⟩ := List.mem_map.mp m
  obtain ⟨a, h1, h2⟩ := hf _ _ hm
  exact ⟨v, a, hm, h1, h2⟩
 have hcs : ∀ y ∈ scope.names, y.2 = .free → ∃ c, X.env.cells.lookup y.1 = some c := fun y hy e => by
  obtain ⟨y1, y2⟩ := y
  have e : y2 = .free := e
  subst e
  obtain ⟨_, a, _, h1, _⟩ := names y1 hy
  exact ⟨a, h1⟩
 have hcl := xbM (scope := scope) (env := X.env) hcs
 have sub : ∀ {z : Str} {a : Addr}, (yV X.env.cells scope.names []).lookup z = some a → X.env.cells.lookup z = some a := fun {z a} e => by
  rcases xdy hcs e with q | q
  ·cases q
  ·exact q
 have subF : ∀ {z : Str} {a : Addr}, (yV X.env.cells scope.names []).lookup z = some a → (z, NameKind.free) ∈ scope.names := fun {z a} e => by
  rcases xhv e with q | ⟨_, q⟩
  ·exact q
  ·cases q
 have cInj : ∀ x y a, (yV X.env.cells scope.names []).lookup x = some a → (yV X.env.cells scope.names []).lookup y = some a → x = y := fun x y a e1 e2 => I.ok.inj x y a (sub e1) (sub e2)
 have cHas : ∀ x, (x, NameKind.free) ∈ scope.names → ∃ a, (yV X.env.cells scope.names []).lookup x = some a := fun x m => xa0 (.inl m)
 have cVal : ∀ x v, (x, v) ∈ fv → ∃ a, (yV X.env.cells scope.names []).lookup x = some a ∧ H a = some (.cel (some v)) := fun x v m => by
  obtain ⟨a, e1, e2⟩ := hf x v m
  obtain ⟨a', e3⟩ := cHas x ((isfr x).mpr (by rw [← hn]; exact List.mem_map_of_mem m))
  have e4 := sub e3
  rw [e1] at e4; cases e4
  exact ⟨a, e3, e2⟩
 have cAll : ∀ x a, (yV X.env.cells scope.names []).lookup x = some a → ∃ v, H a = some (.cel (some v)) := fun x a e => by
  obtain ⟨v, a', _, e1, e2⟩ := names x (subF e)
  rw [sub e] at e1; cases e1
  exact ⟨v, e2⟩
 have hg : s.heap.Ns mainGlobals X.mg := I.mod.glob.keeps I.bk
 obtain ⟨ps, hPo, ht, hent⟩ := I.hok P _ hP
 have C := T s.heap I.kIn
 have hgP : mainGlobals ≠ P := fun q => by
  obtain ⟨o, es, ep, e, hd, _⟩ := hg
  rw [q, hPo] at e; cases e; cases hd
 have hB : s.heap.BuiltinsAt X.mg P := by
  obtain ⟨bm, ob, b1, b2, b3, b4, b5, b6⟩ := I.mod.bm
  have b3' := I.bk _ _ b3
  refine ⟨bm, ob, b1, b2, fun q => ?_, fun q => ?_, b3', b4, b5, b6⟩
  ·obtain ⟨o, es, ep, e, hd, _⟩ := hg
   rw [← q, b3'] at e; cases e; rw [b6] at hd; cases hd
  ·rw [q, hPo] at b3'; cases b3'; cases b4
 rcases hent pos qual hq with hnf | ⟨c', o, u, vs, t, hit, hc', hd, hv⟩
 ·refine xnW hcl I.ok.glob hg hcode C hPo ht hnf hgP hB fun c' ctv doc h' tk hx hge hlt hrec htb => ?_
  obtain ⟨c2, oc, vs, t, e2, hoc, hd, hv⟩ := hrec
  cases e2
  have hc0 : H c' = none := I.hok.fresh hge
  have hsz : s.heap.objs.size ≤ h'.objs.size := Nat.le_of_lt (Nat.lt_of_le_of_lt hge hlt)
  have hf0 : H h'.objs.size = none := I.hok.fresh hsz
  have hcf : c' ≠ h'.objs.size := Nat.ne_of_lt hlt
  let fo := xc4 name qual params body scope (yV X.env.cells scope.names []) doc ((X.mg "__name__").getD .none) (.ref c') ctv
  let H' := upd (upd H c' (.frz oc HO.any)) h'.objs.size (.frz fo HO.any)
  have sm : ∀ b u, H b = some u → H' b = some u := fun b u e => by
   show upd _ _ _ b = _
   rw [xn (xB e hf0), xn (xB e hc0)]; exact e
  have H'c : H' c' = some (.frz oc HO.any) := by
   show upd _ _ _ c' = _
   rw [xn hcf, xo]
  have H'f : H' h'.objs.size = some (.frz fo HO.any) := xo
  have keep : ∀ b o, b ≠ P → s.heap.get? b = some o → (h'.push fo).get? b = some o := fun b o hb e => Heap.get?_push_of_some _ (hx b o hb e)
  have nP : ∀ b, H b = none → b ≠ P := fun b e q => by rw [q, hP] at e; cases e
  refine ⟨.ref h'.objs.size, H', I.un ⟨fun b o e n _ _ => keep b o (nP b n) e, fun b o e n _ _ => ⟨o.slots, keep b o (nP b n) e⟩, fun b o e n _ => ?_, fun b o e _ => ?_, fun b u e _ => sm b u e⟩ fun b u e => ?_, rfl, ?_⟩
  ·have lt := Heap.lt_size e
   show upd _ _ _ b = _
   rw [xn (Nat.ne_of_lt (Nat.lt_of_lt_of_le lt hsz)), xn (Nat.ne_of_lt (Nat.lt_of_lt_of_le lt hge))]; exact n
  ·by_cases hb : b = P
   ·exact ⟨_, Heap.get?_push_of_some _ (by rw [hb]; exact htb)⟩
   ·exact ⟨o, keep b o hb e⟩
  ·by_cases h1 : b = h'.objs.size
   ·subst h1
    rw [H'f] at e; cases e
    exact xS.anyOf (Heap.get?_push_size _ rfl)
   ·have e1 : upd H c' (.frz oc HO.any) b = some u := (xn h1).symm.trans e
    by_cases h2 : b = c'
    ·subst h2
     rw [xo] at e1; cases e1
     exact xS.anyOf (Heap.get?_push_of_some _ hoc)
    ·rw [xn h2] at e1
     by_cases hb : b = P
     ·subst hb
      rw [hP] at e1; cases e1
      refine ⟨_, Heap.get?_push_of_some _ htb, ?_, fun pos' q m => ?_⟩
      ·simpa using TriplesOk_snoc (pos.line : Int) (pos.col : Int) (.ref c') ps.toList ht
      ·have e3 : (ps ++ #[rawInt pos.line, rawInt pos.col, Value.ref c']).toList = ps.toList ++ [rawInt pos.line, rawInt pos.col, Value.ref c'] := by simp
       rw [e3, xnV _ ht]
       rcases hent pos' q m with z | ⟨d, o, u, vs', t', z1, z2, z3, z4⟩
       ·rw [z]
        by_cases hl : ((pos.line : Int) == pos'.line && (pos.col : Int) == pos'.col) = true
        ·right
         have hqq : q = qual := by
          have := List.all_eq_true.mp hu (pos', q) m
          simp only [Bool.and_eq_true, beq_iff_eq, Int.ofNat_inj, Int.natCast_inj] at hl
          have a1 : pos.line = pos'.line := by have := hl.1; omega
          have a2 : pos.col = pos'.col := by have := hl.2; omega
          simpa [a1, a2] using this
         subst hqq
         exact ⟨c', oc, HO.any, vs, t, if_pos hl, H'c, hd, hv⟩
        ·exact .inl (if_neg hl)
       ·right
        rw [z1]
        exact ⟨d, o, u, vs', t', rfl, sm _ _ z2, z3, z4⟩
     ·refine (I.hok b u e1).stay (fun d v hc q => keep d v ?_ q) (fun d q => sm _ _ q) fun d u q _ => sm _ _ q
      rcases hc with rfl | hc
      ·exact hb
      ·intro z; rw [z, hP] at hc; cases hc
  ·exact h h'.objs.size H' hf0 sm ⟨_, c', oc, HO.any, HO.any, vs, t, doc, _, ctv, H'f, H'c, hd, hv, cInj, cHas, fun x v m => let ⟨a, q1, q2⟩ := cVal x v m; ⟨a, q1, sm _ _ q2⟩, fun x a q => let ⟨v, q2⟩ := cAll x a q; ⟨v, sm _ _ q2⟩⟩
 ·refine xo5 hcl I.ok.glob hg hcode C hPo ht hit hB fun ctv doc h' tk hk hsz => ?_
  have hf0 : H h'.objs.size = none := I.hok.fresh hsz
  have sm : xc H (upd H h'.objs.size (.frz (xc4 name qual params body scope (yV X.env.cells scope.names []) doc ((X.mg "__name__").getD .none) (.ref c') ctv) HO.any)) := fun b u e => by
   rw [xn (xB e hf0)]; exact e
  refine ⟨.ref h'.objs.size, _, I.laid (o := .frz (xc4 name qual params body scope (yV X.env.cells scope.names []) doc ((X.mg "__name__").getD .none) (.ref c') ctv) HO.any) (fun b o e => Heap.get?_push_of_some _ (hk b o e)) hsz (xS.anyOf (Heap.get?_push_size _ rfl)), rfl, ?_⟩
  exact h _ _ hf0 sm ⟨_, c', o, HO.any, u, vs, t, doc, _, ctv, xo, sm _ _ hc', hd, hv, cInj, cHas, fun x v m => let ⟨a, q1, q2⟩ := cVal x v m; ⟨a, q1, sm _ _ q2⟩, fun x a q => let ⟨v, q2⟩ := cAll x a q; ⟨v, sm _ _ q2⟩⟩
theorem xlD {e : Expr} (hcode : X.env.code = .ref c) (T : xbC X.K c P) (hq : (pos, X.env.qual ++ "<lambda>") ∈ qs) (hu : (qs.all fun p => !((pos.line == p.1.line) && (pos.col == p.1.col)) || (p.2 == X.env.qual ++ "<lambda>")) = true)
  (hfr : (scope.names.filter fun y => y.2 == .free).map (·.1) = fns) (hdef : defaultsOf params X.env = ([], []) := by rfl) :
  PE X (.Lambda params e scope pos) (tFn X P qs fns "<lambda>" (X.env.qual ++ "<lambda>") params (.expr e) scope) := fun _ _ _ _ _ I h =>
 W.kla_eval hdef (xnX I hcode T hq hu hfr h)
theorem Inv.track {x : Str} {a : Addr} {i : Nat} (I : Inv X pins σ H s) (hN : X.N.Nodup) (hi : X.N[i]? = some x) (hk : X.env.kindOf x = some .cell) (hcp : X.cp x = true) (hfn : X.fn x = false) (ha : X.env.cells.lookup x = some a) (hH : H a = none) :
  Inv X pins σ (upd H a (.cel (σ[i]?.join))) s := by
 have hab : ∀ b o, X.s₀.heap.get? b = some o → b ≠ a := fun b o e => Nat.ne_of_lt (Nat.lt_of_lt_of_le (Heap.lt_size e) (I.ok.cab2 x a hcp ha))
 obtain ⟨v0, hv0⟩ := I.cell x a ha
 refine ⟨I.ok, I.os, I.bare, ⟨I.base.keep, I.base.slot, fun b o e n hx => ?_, I.base.there, fun b u e f => ?_⟩, I.loc, I.cell, ?_, fun y c e => ?_, fun p hp => ?_, fun b u e => ?_, I.len⟩
 ·rw [xn (hab b o e)]; exact I.base.free b o e n hx
 ·have := I.base.fix b u e f
  rw [xn (xB this hH)]; exact this
 ·rw [xn (Ne.symm (I.cne x a ha))]; exact I.free
 ·by_cases hc : c = a
  ·subst hc
   obtain rfl := I.ok.inj _ _ _ e ha
   refine .inr ⟨hfn, _, xo, fun z j v e1 k e2 => ?_⟩
   have := xdq hN e1 hi
   subst this
   rw [e2] at z; cases z
  ·rw [xn hc]; exact I.freeC y c e
 ·obtain ⟨e, n, ne, nf, d⟩ := I.pin p hp
  refine ⟨e, ?_, ne, nf, d⟩
  rw [xn fun z => ?_]
  ·exact n
  ·obtain ⟨o, q1, q2⟩ := hv0
   rw [← z, e] at q1; cases q1
   exact d _ q2
 ·by_cases hb : b = a
  ·subst hb
   rw [xo] at e; cases e
   cases hσ : σ[i]?.join with
   | none => exact ⟨v0, hv0, fun x z => by cases z⟩
   | some v =>
    have hσ' : σ[i]? = some (some v) := by
     cases q : σ[i]? with
     | none => rw [q] at hσ; cases hσ
     | some w => rw [q] at hσ; cases w with
      | none => cases hσ
      | some w => cases hσ; rfl
    obtain ⟨m, hn, hl⟩ := I.loc
    obtain ⟨u, r, l⟩ := hl i x v hi hσ' (.inr (.inl hk))
    rcases l with ⟨k, _⟩ | ⟨_, c, hc, hcell⟩
    ·rw [hk] at k; cases k
    ·rw [ha] at hc; cases hc
     exact ⟨_, hcell, fun y z => by cases z; exact ⟨u, rfl, r⟩⟩
  ·rw [xn hb] at e
   exact (I.hok b u e).stay (fun _ _ _ q => q) (fun d q => by rw [xn (xB q hH)]; exact q) fun d u q _ => by rw [xn (xB q hH)]; exact q
def xo6 (X : Cx) (x : Str) (i : Nat) (t : TS) : TS := fun D σ H => ∀ a, X.env.cells.lookup x = some a → X.H₀ a = none → (∀ y b, X.env.cells.lookup y = some b → y ≠ x → b ≠ a) → H a = none ∧ t D σ (upd H a (.cel (σ[i]?.join)))
theorem xbr {x : Str} {i : Nat} {b : List Stmt} {t : TS} (hN : X.N.Nodup) (hi : X.N[i]? = some x) (hk : X.env.kindOf x = some .cell) (hcp : X.cp x = true) (hfn : X.fn x = false)
  (h : PSs X b t) : PSs X b (xo6 X x i t) := fun pins s σ H D I q => by
 obtain ⟨a, ha⟩ := I.ok.has x (.inl hk)
 obtain ⟨z, q⟩ := q a ha (I.ok.hz a (I.ok.cab2 x a hcp ha)) fun y b e ne z => ne (I.ok.inj y x b e (z ▸ ha))
 exact h pins s σ _ D (I.track hN hi hk hcp hfn ha z) q
def xpP (X : Cx) (x : Str) (i : Nat) (te : TE) : TS := fun D σ H => te σ H fun v H1 => ∃ a, X.env.cells.lookup x = some a ∧ H1 a = some (.cel none) ∧ D.nx (σ.set i (some v)) (upd H1 a (.cel (some v)))
theorem xgY {i : Nat} {x : Str} {e : Expr} {te : TE} {pos' : Pos} (hN : X.N.Nodup) (hi : X.N[i]? = some x) (hk : X.env.kindOf x = some .cell) (hcp : X.cp x = true) (hfn : X.fn x = false) (he : PE X e te) (hs : swapsWith e (some (.Name x pos')) pos.line X.env = pure false := by rfl) :
  PS X (.Assign [.Name x pos'] e pos) (xpP X x i te) := by
 intro pins s σ H D I h
 refine wpAny_Assign_Name (thn (he pins s σ H _ I h) fun u s1 ⟨v, H1, I, r, q⟩ => ?_) hs
 obtain ⟨a, ha, hH, q⟩ := q
 obtain ⟨w0, z⟩ := I.cell x a ha
 obtain ⟨m, hn, hl⟩ := id I.loc
 have hiσ : i < σ.length := by rw [I.len]; exact (List.getElem?_eq_some_iff.mp hi).1
 have hab : ∀ b o, X.s₀.heap.get? b = some o → b ≠ a := fun b o e => Nat.ne_of_lt (Nat.lt_of_lt_of_le (Heap.lt_size e) (I.ok.cab2 x a hcp ha))
 refine wpAny_storeName_cell I.ok.kind hk ha z fun h' hc' hs => ?_
 refine ⟨_, _, ⟨I.ok, I.os, I.bare, ⟨fun b o e n hb hx => ?_, fun b o e n hb hx => ?_, fun b o e n hx => ?_, fun b o e hx => ?_, fun b u e f => ?_⟩, ⟨m, hn.sameBut hs (Ne.symm (I.cne x a ha)), fun j y v' e1 e2 e3 => ?_⟩, fun y c' e => ?_, ?_, fun y c' e => ?_, fun p hp => ?_, fun b u e => ?_, by simpa using I.len⟩, q⟩
 ·exact (hs.2 b (hab b o e)).trans (I.base.keep b o e n hb hx)
 ·obtain ⟨sl, e1⟩ := I.base.slot b o e n hb hx
  exact ⟨sl, (hs.2 b (hab b o e)).trans e1⟩
 ·rw [xn (hab b o e)]; exact I.base.free b o e n hx
 ·obtain ⟨o', e1⟩ := I.base.there b o e hx
  exact ⟨o', (hs.2 b (hab b o e)).trans e1⟩
 ·have h0 := I.ok.hz a (I.ok.cab2 x a hcp ha)
  rw [xn (xB e h0)]
  exact I.base.fix b u e f
 ·by_cases hj : j = i
  ·subst hj
   rw [hi] at e1; cases e1
   rw [List.getElem?_set_self hiσ] at e2
   cases e2
   exact ⟨u, r, .inr ⟨.inl hk, a, ha, hc'⟩⟩
  ·rw [List.getElem?_set_ne (Ne.symm hj)] at e2
   obtain ⟨u', r', q⟩ := hl j y v' e1 e2 e3
   refine ⟨u', r', ?_⟩
   rcases q with q | ⟨k, c', e, z'⟩
   ·exact .inl q
   ·refine .inr ⟨k, c', e, z'.sameBut hs ?_⟩
    rintro rfl
    exact hj (xdq hN e1 (I.ok.inj _ _ _ e ha ▸ hi))
 ·by_cases hcc : c' = a
  ·subst hcc; exact ⟨_, hc'⟩
  ·obtain ⟨w2, z2⟩ := I.cell y c' e
   exact ⟨w2, z2.sameBut hs hcc⟩
 ·rw [xn (Ne.symm (I.cne x a ha))]; exact I.free
 ·by_cases hcc : c' = a
  ·subst hcc
   obtain rfl := I.ok.inj _ _ _ e ha
   exact .inr ⟨hfn, some v, xo, fun z => by cases z⟩
  ·rw [xn hcc]
   refine (I.freeC y c' e).imp id fun ⟨hf', o', ho', hno⟩ => ⟨hf', o', ho', fun z j v' e1 k e2 => ?_⟩
   by_cases hj : j = i
   ·subst hj
    rw [hi] at e1; cases e1
    rw [ha] at e; cases e
    exact hcc rfl
   ·rw [List.getElem?_set_ne (Ne.symm hj)] at e2
    exact hno z j v' e1 k e2
 ·obtain ⟨e, n, ne, nf, d⟩ := I.pin p hp
  have hpa : p.1 ≠ a := fun q => by
   obtain ⟨oc, hoc, hocd⟩ := z
   rw [q, hoc] at e
   have q' : oc = p.2 := Option.some.inj e
   exact d w0 (by rw [← q']; exact hocd)
  exact ⟨(hs.2 p.1 hpa).trans e, by rw [xn hpa]; exact n, ne, nf, d⟩
 ·by_cases hb : b = a
  ·subst hb
   rw [xo] at e; cases e
   exact ⟨_, hc', fun y z => by cases z; exact ⟨u, rfl, r⟩⟩
  ·rw [xn hb] at e
   have nfix : ∀ d u', H1 d = some u' → u' ≠ .cel none → upd H1 a (.cel (some v)) d = some u' := fun d u' e' hu => by
    rw [xn fun z => ?_]
    ·exact e'
    ·rw [z, hH] at e'
     cases e'
     exact hu rfl
   refine (I.hok b u e).stay (fun d w' hc q => (hs.2 d ?_).trans q) (fun d q => nfix _ _ q (by simp)) fun d u' q hf => nfix _ _ q (by rintro rfl; exact hf)
   rcases hc with rfl | hc
   ·exact hb
   ·intro z; rw [z, hH] at hc; cases hc
end
end L2
namespace L2
open PySem PySem.Spec PyProof.Rows
theorem xlE {P : Program} {w : World} {K : W.Frag} {mg mb : Str → Option Value} {CX : CXT} {k : Nat} {fa a : Addr} {fd : FuncData} {x : Str} {sp : Sp} {s₁ : Shared} {vs : List Value} {ns : List Int} {tabs : List (Addr × Addr × List (Pos × Str))}
  (KX : K.In s₁.heap) (hns : s₁.heap.Ns mainGlobals mg) (hb : s₁.heap.Ns builtinsNs mb) (hbb : ∀ x : Str, x ≠ "__name__" → mb x = bootBuiltins x) (hlim : s₁.heap.NoLimit) (hbm : ∃ b o, mg "__builtins__" = some (.ref b) ∧ b ≠ builtinsNs ∧ s₁.heap.get? b = some o ∧ o.cls = .type "module" ∧ o.dict = some builtinsNs ∧ o.data = .plain) (hg : s₁.gens = #[])
  (ha : s₁.heap.get? a = some { cls := .type "list", data := .seq vs.toArray }) (hi : IntsAre vs ns) (hl : ns.length ≤ sizeLine) (hr : xX k callerA)
  (hT : ∀ q ∈ tabs, W.CodeHd s₁.heap q.1 q.2.1 ∧ s₁.heap.get? q.2.1 = some (W.tabObj #[])) (hnt : W.noTabs K = true) (nd : (tabs.map fun q => q.2.1).Nodup)
  (F : ∀ base : Heap, K.In base → base.Ns mainGlobals mg → xA P w K mg base CX k fa fd [x] sp) (hbind : ∀ (s : Shared) (u : Value), BindsTo s fd ⟨[u], []⟩ [(x, u)])
  (hsp : ∀ H : Hp, SqL K H a (ns.map V.int) → (∀ q ∈ tabs, H q.2.1 = some (.tbl q.2.2)) → sp [.ref a] H (fun v _ => v = .bl true) fun _ _ _ => False)
  (hCX : ∀ H e s', CX [] H s₁ (fun _ _ _ => False) e s' → False) :
  codeAny (model P w) callerA (.call (.ref fa) ⟨[.ref a], []⟩) (fun r s' => r = .ok (.ret (.bool true)) ∧ OldK s₁.heap s'.heap ∧ s'.os = s₁.os ∧ AllBare s'.gens) s₁ := by
 have rv := xhr hi
 have lenV := hi.length
 have aP : ∀ q ∈ tabs, q.2.1 ≠ a := fun q hq z => by
  have e := (hT q hq).2
  rw [z, ha] at e; cases e
 have core : ∀ H : Hp, SqL K H a (ns.map V.int) → (∀ q ∈ tabs, H q.2.1 = some (.tbl q.2.2)) →
   (∀ b u, H b = some u → (b = a ∧ K.lookup a = none ∧ ∃ xs, u = .frz { cls := .type "list", data := .seq vs.toArray } (.lst xs)) ∨ ∃ q ∈ tabs, b = q.2.1 ∧ u = .tbl q.2.2) → HOk P w H s₁.heap →
   codeAny (model P w) callerA (.call (.ref fa) ⟨[.ref a], []⟩) (fun r s' => r = .ok (.ret (.bool true)) ∧ OldK s₁.heap s'.heap ∧ s'.os = s₁.os ∧ AllBare s'.gens) s₁ := by
  intro H hS hP hA hok
  have base_of : ∀ {b : Addr} {o : Obj}, s₁.heap.get? b = some o → H b = none → (xdp s₁.heap H).get? b = some o := fun e n => xme e n
  have noA : ∀ {b : Addr} {o : Obj}, s₁.heap.get? b = some o → o.cls ≠ .type "list" ∨ (∀ n, o.data ≠ .seq vs.toArray n) → o ≠ W.tabObj #[] → H b = none := fun {b o} e d1 d2 => by
   cases q : H b with
   | none => rfl
   | some u =>
    rcases hA b u q with ⟨rfl, _, _⟩ | ⟨t, ht, rfl, _⟩
    ·rw [ha] at e; cases e
     rcases d1 with d1 | d1
     ·exact absurd rfl d1
     ·exact absurd rfl (d1 _)
    ·have e2 := (hT t ht).2
     rw [e] at e2; cases e2
     exact absurd rfl d2
  have nsK : ∀ {b : Addr} {m : Str → Option Value}, s₁.heap.Ns b m → (xdp s₁.heap H).Ns b m := fun {b m} ⟨o, es, ep, e, d, r⟩ =>
   ⟨o, es, ep, base_of e (noA e (.inr fun n z => by rw [d] at z; cases z) fun z => by rw [z] at d; cases d), d, r⟩
  have hKb : K.In (xdp s₁.heap H) := fun b o e => base_of (KX b o e) (by
   cases q : H b with
   | none => rfl
   | some u =>
    rcases hA b u q with ⟨rfl, z, _⟩ | ⟨t, ht, rfl, _⟩
    ·rw [z] at e; cases e
    ·have e2 := KX _ _ e
     rw [(hT t ht).2] at e2; cases e2
     have h2 := List.all_eq_true.mp hnt _ (W.mem_of_lookupK e)
     exact absurd (show false = true from h2) Bool.false_ne_true)
  have hM : Mod K mg (xdp s₁.heap H) := ⟨hKb, nsK hns, ⟨mb, nsK hb, hbb⟩, let ⟨mc, h1, h2⟩ := hlim; ⟨mc, nsK h1, h2⟩, let ⟨b, o, a1, a2, a3, a4⟩ := hbm; ⟨b, o, a1, a2, base_of a3 (noA a3 (.inl fun z => by rw [a4.1] at z; simp at z) fun z => by rw [z] at a4; cases a4.1), a4⟩⟩
  have e0 : xds P w K mg (xdp s₁.heap H) callerA [] s₁ H := ⟨rfl, hM, fun b o e => xnD e, Nat.le_of_eq (xld _ _), trivial, fun b hb => absurd (show b ∈ ([] : List Addr) from hb) (by simp), hok, .of_eq hg⟩
  refine codeAny_mono ((F _ hKb (nsK hns)).run callerA [] s₁ H ⟨[.ref a], []⟩ [.ref a] [.ref a] _ _ hr e0 (hbind s₁ (.ref a)) (.cons rfl .nil) (hsp H hS hP)) fun r s' h => ?_
  cases r with
  | error e => exact (hCX H e s' h).elim
  | ok fl =>
   cases fl with
   | next => exact False.elim h
   | brk => exact False.elim h
   | cont => exact False.elim h
   | ret u =>
    obtain ⟨v, H', os, bare, un, hok', r', q⟩ := h
    have q' : v = .bl true := q
    subst q'
    obtain rfl : u = Value.bool true := r'
    have old : ∀ b o, s₁.heap.get? b = some o → s'.heap.get? b = some o ∨ ∃ t ∈ tabs, b = t.2.1 ∧ o = W.tabObj #[] ∧ ∃ ps, s'.heap.get? b = some (W.tabObj ps) := fun b o e => by
     cases q : H b with
     | none => exact .inl (un.keep b o e q (by intro z; exact absurd (show b ∈ ([] : List Addr) from z) (by simp)) (by simp))
     | some u =>
      rcases hA b u q with ⟨rfl, _, xs, rfl⟩ | ⟨t, ht, rfl, rfl⟩
      ·obtain ⟨e1, _⟩ := hok _ _ q
       obtain ⟨e2, _⟩ := hok' _ _ (un.fix _ _ q trivial)
       rw [e] at e1; cases e1
       exact .inl e2
      ·obtain ⟨ps, e2, _⟩ := hok' _ _ (un.fix _ _ q trivial)
       have e3 := (hT t ht).2
       rw [e] at e3; cases e3
       exact .inr ⟨t, ht, rfl, rfl, ps, e2⟩
    refine ⟨rfl, ⟨fun b o e => ?_, fun b o e => ?_⟩, os, bare⟩
    ·rcases old b o e with z | ⟨t, ht, rfl, rfl, ps, z⟩
     ·exact .inl z
     ·exact .inr (.inl ⟨((hT t ht).1.tab (hT t ht).2).isCodeTable, rfl, #[], ps, rfl, by rw [Array.empty_append]; exact z⟩)
    ·rcases old b o e with z | ⟨t, ht, rfl, rfl, ps, z⟩
     ·exact ⟨o, z⟩
     ·exact ⟨_, z⟩
 let Ht : Hp := fun b => (tabs.find? fun q => q.2.1 == b).map fun q => HO.tbl q.2.2
 have HtP : ∀ q ∈ tabs, Ht q.2.1 = some (.tbl q.2.2) := fun q hq => by
  show Option.map _ (tabs.find? _) = _
  cases e : tabs.find? fun r => r.2.1 == q.2.1 with
  | none =>
   have := List.find?_eq_none.mp e q hq
   simp at this
  | some r =>
   have h1 := List.find?_some e
   have h2 := List.mem_of_find?_eq_some e
   have h3 : r.2.1 = q.2.1 := by simpa using h1
   have : r = q := by
    obtain ⟨i, hi⟩ := List.mem_iff_getElem?.mp h2
    obtain ⟨j, hj⟩ := List.mem_iff_getElem?.mp hq
    have ei : (tabs.map fun q => q.2.1)[i]? = some r.2.1 := by rw [List.getElem?_map, hi]; rfl
    have ej : (tabs.map fun q => q.2.1)[j]? = some r.2.1 := by rw [List.getElem?_map, hj, h3]; rfl
    obtain ⟨i1, i2⟩ := List.getElem?_eq_some_iff.mp ei
    obtain ⟨j1, j2⟩ := List.getElem?_eq_some_iff.mp ej
    have := (List.getElem_inj nd).mp (i2.trans j2.symm)
    subst this
    rw [hi] at hj; exact Option.some.inj hj
   subst this
   rfl
 have HtA : ∀ b u, Ht b = some u → ∃ q ∈ tabs, b = q.2.1 ∧ u = .tbl q.2.2 := fun b u e => by
  have e : Option.map (fun q => HO.tbl q.2.2) (tabs.find? fun q => q.2.1 == b) = some u := e
  obtain ⟨q, hq, rfl⟩ := Option.map_eq_some_iff.mp e
  have h1 := List.find?_some hq
  exact ⟨q, List.mem_of_find?_eq_some hq, by have : q.2.1 = b := by simpa using h1
                                             exact this.symm, rfl⟩
 have tok : ∀ {H : Hp} {q}, q ∈ tabs → xS P w H s₁.heap q.2.1 (.tbl q.2.2) := fun {H q} hq => ⟨#[], (hT q hq).2, trivial, fun _ _ _ => .inl rfl⟩
 cases hk : K.lookup a with
 | some o =>
  have e := KX a o hk
  rw [ha] at e
  cases e
  refine core Ht (.inr ⟨_, vs.toArray, _, hk, rfl, rfl, rfl, by rw [List.size_toArray, lenV]; exact hl, by simpa using rv⟩) HtP (fun b u z => .inr (HtA b u z)) fun b u z => ?_
  obtain ⟨q, hq, rfl, rfl⟩ := HtA b u z
  exact tok hq
 | none =>
  refine core (fun b => if b = a then some (.frz { cls := .type "list", data := .seq vs.toArray } (.lst (ns.map V.int))) else Ht b) (.inl (.inr ⟨{ cls := .type "list", data := .seq vs.toArray }, if_pos rfl⟩)) (fun q hq => (if_neg (aP q hq)).trans (HtP q hq)) (fun b u z => ?_) fun b u z => ?_
  ·by_cases hb : b = a
   ·have z' := (if_pos hb).symm.trans z
    cases z'
    exact .inl ⟨hb, hk, _, rfl⟩
   ·exact .inr (HtA b u ((if_neg hb).symm.trans z))
  ·by_cases hb : b = a
   ·have z' := (if_pos hb).symm.trans z
    cases z'
    subst hb
    exact ⟨ha, by rw [List.length_map]; exact hl, vs, _, rv, ha⟩
   ·obtain ⟨q, hq, rfl, rfl⟩ := HtA b u ((if_neg hb).symm.trans z)
    exact tok hq
theorem xmA {l : W.OpenLaw} {n k : Nat} {q : Program} {loose : List Str} {XP : (Str → Option Value) → Heap → Prop} {YP : World → Heap → Prop} {d : DefRec} {K : Params → W.Frag} {CX : CXT} {sp : W.Frag → Sp} {x : Str} {tabs : List (Addr × Addr × List (Pos × Str))}
  (hn : l.most = some n) (hn2 : n ≤ sizeLine) (hdf : d.params.defaults = []) (hr : xX k callerA)
  (hY : ∀ (w : World) (h : Heap), YP w h → (K w.params).In h)
  (hT : ∀ (w : World) (h : Heap), YP w h → (K w.params).In h → ∀ t ∈ tabs, W.CodeHd h t.1 t.2.1 ∧ h.get? t.2.1 = some (W.tabObj #[])) (hnt : ∀ w : World, W.noTabs (K w.params) = true) (nd : (tabs.map fun q => q.2.1).Nodup)
  (F : ∀ (w : World) (mg : Str → Option Value) (fa : Addr) (h : Heap), (K w.params).In h → h.Ns mainGlobals mg → mg d.name = some (.ref fa) →
   ∃ fd : FuncData, (∀ (s : Shared) (u : Value), BindsTo s fd ⟨[u], []⟩ [(x, u)]) ∧
    ∀ base : Heap, (K w.params).In base → base.Ns mainGlobals mg → xA l.prog w (K w.params) mg base CX k fa fd [x] (sp (K w.params)))
  (hsp : ∀ (K : W.Frag) (H : Hp) (a : Addr) (ns : List Int), ns.length ≤ n → SqL K H a (ns.map V.int) → (∀ q ∈ tabs, H q.2.1 = some (.tbl q.2.2)) → sp K [.ref a] H (fun v _ => v = .bl true) fun _ _ _ => False)
  (hCX : ∀ (H : Hp) (s : Shared) (e : Value) (s' : Shared), CX [] H s (fun _ _ _ => False) e s' → False) :
  W.WalkO q loose XP YP l.row.toRowW d [] (fun f vs => PySem.call f vs) := by
 refine Att.xi9 hn hdf fun w s₀ s₁ mg mb fa o pm cd doc a vs ns G Y ho hd hcd hmg hobj hints hlen hg => ?_
 have KX := hY w _ Y
 obtain ⟨fd, hb, hF⟩ := F w mg fa _ KX G.T.g hmg
 exact xlE KX G.T.g G.T.b G.T.builtins G.T.nolimit G.T.bmain hg hobj hints (Nat.le_trans hlen hn2) hr (hT w _ Y KX) (hnt w) nd hF hb (fun H hS hP => hsp (K w.params) H a ns hlen hS hP) fun H e s' => hCX H s₁ e s'
end L2
namespace L2
open PySem PySem.Spec PyProof.Rows
structure xac (N ps fns : List Str) (sc : Scope) : Prop where
 kind : sc.kind = .function
 co : sc.isCoroutine = false
 gen : sc.isGenerator = false
 nd : N.Nodup
 pre : N.take (ps.length + fns.length) = ps ++ fns
 par : ∀ x ∈ ps, sc.names.lookup x = some .local
 fre : ∀ x ∈ fns, sc.names.lookup x = some .free
 nocell : ∀ y ∈ sc.names, y.2 ≠ .cell
def xel (N : List Str) (vs : List V) (fv : List (Str × V)) : St := vs.map some ++ fv.map (fun p => some p.2) ++ List.replicate (N.length - vs.length - fv.length) none
def xie (CX : CXT) (P : Program) (w : World) (K : W.Frag) (mg : Str → Option Value) (base : Heap) (N : List Str) (qual : Str) (scope : Scope) (f : Addr) (cd : Value) (clos : List (Str × Addr)) (A : Around) (outer : List Env) (s : Shared) (H : Hp) (E : XK) : Cx where
 prog := P
 w := w
 K := K
 mg := mg
 base := base
 A := A.deeper (W.envX qual scope s.heap.objs.size f cd clos)
 N := N
 s₀ := s
 H₀ := H
 env := W.envX qual scope s.heap.objs.size f cd clos
 outer := outer
 stack := W.envX qual scope s.heap.objs.size f cd clos :: outer
 ex := []
 calm := true
 cp := fun _ => false
 fn := fun _ => false
 pn := []
 xe := fun e s' => wpAny (model P w) (A.deeper (W.envX qual scope s.heap.objs.size f cd clos)) (leaving (W.envX qual scope s.heap.objs.size f cd clos) e) (fun _ s'' => CX outer H s E e s'') (fun e' s'' => CX outer H s E e' s'') s'
theorem xhw {α : Type} : ∀ {l : List (Str × α)} {x : Str} {v : α}, (l.map (·.1)).Nodup → (x, v) ∈ l → l.lookup x = some v
 | [], _, _, _, m => by simp at m
 | (y, u) :: r, x, v, nd, m => by
  obtain ⟨n1, n2⟩ := List.nodup_cons.mp nd
  rw [List.lookup_cons]
  rcases List.mem_cons.mp m with e | m
  ·cases e; simp
  ·have : x ≠ y := fun e => n1 (by rw [← e]; exact List.mem_map_of_mem (f := (·.1)) m)
   rw [beq_false_of_ne this]
   exact xhw n2 m
theorem xim : ∀ {ps : List Str} {us : List Value}, us.length = ps.length → (ps.zip us).map (·.1) = ps
 | [], [], _ => rfl
 | p :: ps, u :: us, h => by simp [xim (ps := ps) (us := us) (by simpa using h)]
 | [], _ :: _, h => by simp at h
 | _ :: _, [], h => by simp at h
theorem xgZ {ps : List Str} {us : List Value} {i : Nat} {x : Str} {u : Value} (hl : us.length = ps.length) (nd : ps.Nodup) (h1 : ps[i]? = some x) (h2 : us[i]? = some u) : (ps.zip us).reverse.lookup x = some u := by
 refine xhw ?_ (List.mem_reverse.mpr ?_)
 ·rw [List.map_reverse, xim hl]
  exact List.pairwise_reverse.mpr (nd.imp fun h => Ne.symm h)
 ·refine List.mem_iff_getElem?.mpr ⟨i, ?_⟩
  rw [List.getElem?_zip_eq_some]
  exact ⟨h1, h2⟩
def codeOf (body : FuncBody) (env : Env) : Code := match body with
 | .stmts b => .func b env
 | .expr e => .expr e env
section
variable {CX : CXT} {P : Program} {w : World} {K : W.Frag} {mg : Str → Option Value} {base : Heap} {N ps fns : List Str} {nm qual : Str} {params : Arguments} {scope : Scope} {f : Addr} {cd : Value} {clos : List (Str × Addr)} {A : Around} {outer : List Env} {s : Shared} {H : Hp} {E : XK} {us : List Value} {vs : List V} {fv : List (Str × V)} {k : Nat}
theorem xku {h' : Heap} {tk : Tok} (S : xac N ps fns scope) (hd : A.handled = none) (e0 : xds P w K mg base A outer s H) (hl : vs.length = ps.length) (r : Vals vs us) (hfv : fv.map (·.1) = fns)
  (hin : ∀ x y a, clos.lookup x = some a → clos.lookup y = some a → x = y) (hhas : ∀ x, (x, NameKind.free) ∈ scope.names → ∃ a, clos.lookup x = some a)
  (hval : ∀ x v, (x, v) ∈ fv → ∃ a, clos.lookup x = some a ∧ H a = some (.cel (some v))) (hall : ∀ x a, clos.lookup x = some a → ∃ v, H a = some (.cel (some v)))
  (hns : h'.Ns s.heap.objs.size fun x => (ps.zip us).reverse.lookup x) (hk : ∀ b o, s.heap.get? b = some o → h'.get? b = some o) :
  Inv (xie CX P w K mg base N qual scope f cd clos A outer s H E) [] (xel N vs fv) H { s with heap := h', toks := tk } := by
 have lenF : fv.length = fns.length := by rw [← hfv, List.length_map]
 have hpl : ps.length + fns.length ≤ N.length := by have := congrArg List.length S.pre; rw [List.length_take, List.length_append] at this; omega
 have noA : ∀ b : Addr, b ∉ (xie CX P w K mg base N qual scope f cd clos A outer s H E).ex := fun b z => absurd (show b ∈ ([] : List Addr) from z) (by simp)
 have lu : us.length = ps.length := by rw [← r.length]; exact hl
 have ndP : (ps ++ fns).Nodup := by rw [← S.pre]; exact S.nd.sublist (List.take_sublist _ _)
 refine ⟨⟨e0.mod, S.kind, rfl, rfl, Nat.le_refl _, fun y z c h1 h2 => hin y z c h1 h2, fun y hy => ?_, fun y c h _ => (Bool.false_ne_true h).elim, fun _ => hd, Around.frames_deeper e0.frames, .inr ⟨rfl, rfl⟩, fun b z => absurd z (noA b), e0.bs, e0.bsz, fun b _ _ => noA b, fun b z => absurd z (noA b), e0.funs, e0.frf, fun y c h _ => (Bool.false_ne_true h).elim, fun b hb => e0.hok.fresh hb⟩,
  rfl, e0.bare, Un.kept hk, ⟨_, hns, fun i y v h1 h2 h3 => ?_⟩, fun y c h => ?_, e0.hok.fresh (Nat.le_refl _), fun y c h => ?_, fun p hp => absurd (show p ∈ ([] : List (Addr × Obj)) from hp) (by simp), e0.hok.kept hk, ?_⟩
 ·have hy : scope.names.lookup y = some .cell ∨ scope.names.lookup y = some .free := hy
  rcases hy with hy | hy
  ·exact absurd rfl (S.nocell _ (PySem.mem_of_lookup hy))
  ·exact hhas y (PySem.mem_of_lookup hy)
 ·have h1 : N[i]? = some y := h1
  unfold xel at h2
  by_cases hi : i < vs.length
  ·rw [List.getElem?_append_left (by simp; omega), List.getElem?_append_left (by simpa using hi), List.getElem?_map] at h2
   cases e : vs[i]? with
   | none => rw [e] at h2; cases h2
   | some a =>
    rw [e] at h2; cases h2
    obtain ⟨u, hu, rv⟩ := r.get e
    have hp : ps[i]? = some y := by
     have : (N.take (ps.length + fns.length))[i]? = some y := by rw [List.getElem?_take_of_lt (by omega)]; exact h1
     rw [S.pre, List.getElem?_append_left (by omega)] at this
     exact this
    exact ⟨u, rv, .inl ⟨S.par y (List.mem_of_getElem? hp), xgZ lu (ndP.sublist (List.sublist_append_left _ _)) hp hu⟩⟩
  ·by_cases hj : i < vs.length + fv.length
   ·rw [List.getElem?_append_left (by simp; omega), List.getElem?_append_right (by simpa using hi), List.length_map, List.getElem?_map] at h2
    cases e : fv[i - vs.length]? with
    | none => rw [e] at h2; cases h2
    | some p =>
     obtain ⟨z, v'⟩ := p
     rw [e] at h2; cases h2
     have hp : fns[i - vs.length]? = some y := by
      have : (N.take (ps.length + fns.length))[i]? = some y := by rw [List.getElem?_take_of_lt (by omega)]; exact h1
      rw [S.pre, List.getElem?_append_right (by omega), ← hl] at this
      exact this
     have hz : z = y := by
      rw [← hfv, List.getElem?_map, e] at hp
      exact Option.some.inj hp
     subst hz
     obtain ⟨a, q1, q2⟩ := hval _ _ (List.mem_of_getElem? e)
     obtain ⟨u, q3, q4⟩ := e0.hok a _ q2
     obtain ⟨y', rfl, r'⟩ := q4 v' rfl
     exact ⟨y', r', .inr ⟨.inr (S.fre z (List.mem_of_getElem? hp)), a, q1, q3.keeps hk⟩⟩
   ·rw [List.getElem?_append_right (by simp; omega), List.getElem?_replicate] at h2
    split at h2 <;> cases h2
 ·obtain ⟨v, q2⟩ := hall y c h
  obtain ⟨u, q3, _⟩ := e0.hok c _ q2
  exact ⟨u, q3.keeps hk⟩
 ·obtain ⟨v, q2⟩ := hall y c h
  exact .inr ⟨rfl, some v, q2, fun z => by cases z⟩
 ·unfold xel
  show _ = N.length
  simp only [List.length_append, List.length_map, List.length_replicate]
  omega
structure xbO (P : Program) (w : World) (K : W.Frag) (mg : Str → Option Value) (base : Heap) (CX : CXT) (k : Nat) (nm qual : Str) (params : Arguments) (body : FuncBody) (scope : Scope) (ps : List Str) (sp : List (Str × V) → Sp) : Prop where
 len : ∀ fv vs H Q E, sp fv vs H Q E → vs.length = ps.length
 run : ∀ (A : Around) (outer : List Env) (s : Shared) (H : Hp) (f : Addr) (fv : List (Str × V)) (us : List Value) (vs : List V) (Q : VK) (E : XK), xX k A → xds P w K mg base A outer s H → yJ H f nm qual params body scope fv → Vals vs us → sp fv vs H Q E →
  codeAny (model P w) A (.call (.ref f) ⟨us, []⟩) (CR CX outer P w H s Q E) s
theorem xlF {body : FuncBody} {sp : List (Str × V) → Sp} (S : xac N ps fns scope) (len : ∀ fv vs H Q E, sp fv vs H Q E → vs.length = ps.length ∧ fv.map (·.1) = fns)
  (hb : ∀ (clos : List (Str × Addr)) (doc pm cdv ctv : Value) (us : List Value), us.length = ps.length →
   bindArgs { name := nm, qualname := qual, params, body, scope, globals := mainGlobals, closure := clos, defaults := .none, kwdefaults := .none, doc, pyModule := pm, annotations := none, code := cdv, closureTuple := ctv, builtins := builtinsNs } ⟨us, []⟩ = pure (ps.zip us))
  (hgo : ∀ (A : Around) (outer : List Env) (s : Shared) (H : Hp) (f : Addr) (clos : List (Str × Addr)) (cdv : Value) (fv : List (Str × V)) (vs : List V) (Q : VK) (E : XK) (s1 : Shared), xX k (A.deeper (W.envX qual scope s.heap.objs.size f cdv clos)) → sp fv vs H Q E →
   Inv (xie CX P w K mg base N qual scope f cdv clos A outer s H E) [] (xel N vs fv) H s1 →
   codeAny (model P w) A (codeOf body (W.envX qual scope s.heap.objs.size f cdv clos)) (CR CX outer P w H s Q E) s1) :
  xbO P w K mg base CX (k + 1) nm qual params body scope ps sp := by
 refine ⟨fun fv vs H Q E h => (len fv vs H Q E h).1, fun A outer s H f fv us vs Q E hr e0 hc r hsp => ?_⟩
 obtain ⟨clos, c, o, u, u', xs, t, doc, pm, ctv, h1, h2, h3, h4, h5, h6, h7, h8⟩ := hc
 obtain ⟨hl, hfv⟩ := len fv vs H Q E hsp
 have lu : us.length = ps.length := by rw [← r.length]; exact hl
 obtain ⟨hf, _⟩ := e0.hok f _ h1
 obtain ⟨hcO, _⟩ := e0.hok c _ h2
 have lim : s.heap.NoLimit := e0.mod.nolimit.keeps fun b o e => (e0.bs b o e).1
 have hloc : ∀ y ∈ ps.zip us, scope.names.lookup y.1 = some .local := fun ⟨n, v⟩ hy => S.par n (List.of_mem_zip hy).1
 have cr : s.heap.CodeRec (.ref c) qual := ⟨c, o, xs, t, rfl, hcO, h3, h4⟩
 have fin : wpAny (model P w) A.in1 (newFunctionEnv scope mainGlobals clos (ps.zip us) (qual ++ ".<locals>.") (some f) (.ref c) none builtinsNs)
   (fun env s₂ => s₂.heap.NoLimit ∧ codeAny (model P w) A (codeOf body env) (CR CX outer P w H s Q E) s₂) (fun e s' => CR CX outer P w H s Q E (.error e) s') s := by
  refine wpAny_newFunctionEnv S.nocell hloc (fun h' hns hsb => ?_) S.kind
  have hk : ∀ b o, s.heap.get? b = some o → h'.get? b = some o := fun b o e => hsb.extBut b o (Nat.ne_of_lt (Heap.lt_size e)) (Heap.get?_push_of_some _ e)
  exact ⟨lim.keeps hk, hgo A outer s H f clos (.ref c) fv vs Q E _ (hr.deeper _) hsp (xku S hr.hd e0 hl r hfv h5 h6 h7 h8 hns hk)⟩
 cases body with
 | stmts b =>
  refine codeAny_call_function hr.depth hf rfl S.co S.gen rfl cr ?_
  rw [hb clos doc pm (.ref c) ctv us lu]
  exact wpAny_pure fin
 | expr e =>
  refine W.kla_callFunE hr.depth hf rfl S.co S.gen rfl cr ?_
  rw [hb clos doc pm (.ref c) ctv us lu]
  exact wpAny_pure fin
theorem xdB {e : Expr} {sp : List (Str × V) → Sp} (S : xac N ps fns scope) (len : ∀ fv vs H Q E, sp fv vs H Q E → vs.length = ps.length ∧ fv.map (·.1) = fns)
  (hb : ∀ (clos : List (Str × Addr)) (doc pm cdv ctv : Value) (us : List Value), us.length = ps.length →
   bindArgs { name := nm, qualname := qual, params, body := .expr e, scope, globals := mainGlobals, closure := clos, defaults := .none, kwdefaults := .none, doc, pyModule := pm, annotations := none, code := cdv, closureTuple := ctv, builtins := builtinsNs } ⟨us, []⟩ = pure (ps.zip us))
  (hbody : ∀ (A : Around) (outer : List Env) (s : Shared) (H : Hp) (f : Addr) (clos : List (Str × Addr)) (cdv : Value) (fv : List (Str × V)) (vs : List V) (Q : VK) (E : XK), xX k (A.deeper (W.envX qual scope s.heap.objs.size f cdv clos)) → sp fv vs H Q E →
   ∃ te, PE (xie CX0 P w K mg base N qual scope f cdv clos A outer s H E).nox e te ∧ te (xel N vs fv) H Q) : xbO P w K mg base CX0 (k + 1) nm qual params (.expr e) scope ps sp :=
 xlF S len hb fun A outer s H f clos cdv fv vs Q E s1 hr hsp I => by
  obtain ⟨te, ht, hq⟩ := hbody A outer s H f clos cdv fv vs Q E hr hsp
  refine W.kla_codeExpr (wpAny_mono (ht [] s1 _ H Q (I.wish _) hq) (fun v s' ⟨x, H', J, rv, q⟩ => ?_) fun _ _ z => z.elim)
  exact ⟨x, H', J.os, J.bare, J.base, J.hok, rv, q⟩
end
section
variable {X : Cx} {CX : CXT} {k : Nat} {nm qual x : Str} {params : Arguments} {body : FuncBody} {scope : Scope} {ps : List Str} {sp : List (Str × V) → Sp} {p pos : Pos} {e : Expr} {es : List Expr} {t : TA} {E : XK} {i : Nat}
theorem xjJ {pins : List (Addr × Obj)} {σ : St} {H : Hp} {s : Shared} {Q : VK} {us : List Value} {vs : List V} {f : Addr} {fv : List (Str × V)} (F : xbO X.prog X.w X.K X.mg X.base CX k nm qual params body scope ps sp) (hr : xX k X.A) (hx : Passes CX X E)
  (I : Inv X pins σ H s) (hc : yJ H f nm qual params body scope fv) (r : Vals vs us) (h : sp fv vs H Q E) : wpAny (model X.prog X.w) X.A (call (.ref f) us) (EP X pins σ Q) X.xe s := by
 refine wpAny_call (codeAny_mono (F.run X.A X.stack s H f fv us vs Q E hr I.env0 hc r h) fun r s' hq => ?_)
 cases r with
 | error e => exact hx pins σ H s e s' I hq
 | ok fl =>
  cases fl with
  | ret u => exact I.after hq
  | next => exact False.elim hq
  | brk => exact False.elim hq
  | cont => exact False.elim hq
theorem yJ.fn {pins : List (Addr × Obj)} {σ : St} {H : Hp} {s : Shared} {f : Addr} {fv : List (Str × V)} (hc : yJ H f nm qual params body scope fv) (I : Inv X pins σ H s) : W.FnAt f s.heap := by
 obtain ⟨clos, c, o, u, u', xs, t, doc, pm, ctv, h1, _⟩ := hc
 obtain ⟨e, _⟩ := I.hok f _ h1
 exact ⟨_, _, _, _, e⟩
def xo7 (nm qual : Str) (params : Arguments) (body : FuncBody) (scope : Scope) (sp : List (Str × V) → Sp) (E : XK) (i : Nat) (t : TA) : TE := fun σ H Q => ∃ f fv, σ[i]? = some (some (.ref f)) ∧ yJ H f nm qual params body scope fv ∧ t σ H fun vs H1 => yJ H1 f nm qual params body scope fv ∧ sp fv vs H1 Q E
theorem xin (i : Nat) (F : xbO X.prog X.w X.K X.mg X.base CX k nm qual params body scope ps sp) (hr : xX k X.A) (hx : Passes CX X E) (ha : PA X (e :: es) t) (hN : X.N[i]? = some x := by rfl) (hv : Vis X.env.scope x := by first | exact Or.inl rfl | exact Or.inr (Or.inl rfl) | exact Or.inr (Or.inr rfl)) (hd : (x == ("__debug__" : Str)) = false := by decide)
  (hcd : (x == ("__classdict__" : Str)) = false := by decide) (he : starEach (e :: es) X.env = (false, eval e X.env) :: starEach es X.env := by rfl) (hpl : (backTo pos (starEach es X.env)).any (·.1) = false := by rfl) :
  PE X (.Call (.Name x p) (e :: es) [] pos) (xo7 nm qual params body scope sp E i t) := by
 intro pins s σ H Q I h
 obtain ⟨f, fv, e1, hc, h⟩ := h
 refine wpAny_Call_Name_kw (thn (xif (pos := p) hN hv hd hcd pins s σ H (fun v H1 => v = .ref f ∧ H1 = H) I ⟨_, e1, rfl, rfl⟩) fun u s1 ⟨v, H1, I1, r, q1, q2⟩ => ?_)
 subst q1; subst q2
 cases (show u = Value.ref f from r)
 refine W.callWith_F (hc.fn I1) (thn (ha pos pins s1 σ H1 _ I1 h) fun us s2 ⟨vs, H2, I2, r2, q⟩ => ⟨q.1.fn I2, ?_⟩) he hpl
 exact xjJ F hr hx I2 q.1 r2 q.2
end
theorem Inv.capd {X : Cx} {pins : List (Addr × Obj)} {σ : St} {H : Hp} {s : Shared} (hfn : ∀ x, X.fn x = true) (I : Inv X pins σ H s) (g : Str → Bool) : Inv { X with fn := g } pins σ H s := by
 have ok := I.ok
 refine ⟨⟨ok.mod, ok.kind, ok.glob, ok.blt, ok.above, ok.inj, ok.has, fun x c _ h => ok.cab x c (hfn x) h, ok.hd, ok.frames, ok.stk, ok.exf, ok.bs, ok.bsz, ok.noex, ok.exfs, ok.funs, ok.frf, ok.cab2, ok.hz⟩, I.os, I.bare, I.base, I.loc, I.cell, I.free, fun x c e => ?_, I.pin, I.hok, I.len⟩
 rcases I.freeC x c e with z | ⟨z, _⟩
 ·exact .inl z
 ·rw [hfn x] at z; cases z
abbrev xkv (cap : List Str) : Str → Bool := fun x => !(cap.contains x)
abbrev xcv (cap : List Str) (CX : CXT) (P : Program) (w : World) (K : W.Frag) (mg : Str → Option Value) (base : Heap) (N : List Str) (qual : Str) (scope : Scope) (f : Addr) (cd : Value) (A : Around) (outer : List Env) (s : Shared) (H : Hp) (E : XK) : Cx :=
 { xaZ CX P w K mg base N qual scope f cd A outer s H E with fn := xkv cap }
theorem Fun.okC {P : Program} {w : World} {K : W.Frag} {mg : Str → Option Value} {base : Heap} {x qual : Str} {st : Stmt} {f c : Addr} {fd : FuncData} {N ps : List Str} {k : Nat} {sp : Sp} (cap : List Str) (F : Fun K x qual st f fd) (hc : fd.code = .ref c) (S : xt N ps (xb st)) (len : ∀ vs H Q E, sp vs H Q E → vs.length = ps.length)
  (hbody : ∀ (A : Around) (outer : List Env) (s : Shared) (H : Hp) (vs : List V) (Q : VK) (E : XK), xX k (A.deeper (envOfC qual (xb st) s.heap.objs.size f (.ref c))) → sp vs H Q E →
   ∃ t, PSs (xcv cap CX0 P w K mg base N qual (xb st) f (.ref c) A outer s H E).nox (xg st) t ∧ t { nx := fun _ H' => Q .non H', rt := Q } (start N vs) H) : xA P w K mg base CX0 (k + 1) f fd ps sp := by
 obtain ⟨oc, od, kV, doc, pm, an, cdv, ct, osl, rfl, lk, hcd⟩ := F.ex
 obtain rfl : cdv = .ref c := hc
 refine ⟨len, fun A outer s H args us vs Q E hr e0 hb r hsp => ?_⟩
 have hl := len _ _ _ _ hsp
 have KX : K.In s.heap := e0.mod.kin.keeps fun b o e => (e0.bs b o e).1
 have lim : s.heap.NoLimit := e0.mod.nolimit.keeps fun b o e => (e0.bs b o e).1
 have hkind : ∀ y ∈ ps.zip us, (xb st).names.lookup y.1 = some .local ∨ ((xb st).names.lookup y.1 = some .cell ∧ ((cellsFrom (s.heap.objs.size + 1) (xb st).names []).lookup y.1).isSome = true) := fun ⟨n, v⟩ hy => by
  rcases S.par n (List.of_mem_zip hy).1 with q | q
  ·exact .inl q
  ·exact .inr ⟨q, W.cellsFrom_some _ _ _ (.inl q)⟩
 refine codeAny_call_function hr.depth (KX _ _ lk) rfl S.co S.gen rfl (W.codeRec_of KX hcd) (hb _ _ _ _ ?_)
 refine wpAny_newFunctionEnv_cells S.kind hkind fun env he s1 x => ?_
 subst he
 refine ⟨lim.keeps x.toInCall.keep, codeAny_func ?_⟩
 obtain ⟨t, ht, hq⟩ := hbody A outer s H vs Q E (hr.deeper _) hsp
 have I : Inv (xaZ CX0 P w K mg base N qual (xb st) f (.ref c) A outer s H E) [] (start N vs) H s1 := xef S hr.hd e0 hl r x
 have I' : Inv (xcv cap CX0 P w K mg base N qual (xb st) f (.ref c) A outer s H E).nox [] (start N vs) H s1 := (I.capd (fun _ => rfl) (xkv cap)).wish _
 refine wpAny_mono (ht [] s1 (start N vs) H _ I' hq) (fun fl s' hs => ?_) fun e s' hs => hs.elim
 have fin : ∀ {σ' : St} {H' : Hp} {v : V} {u : Value}, Inv (xcv cap CX0 P w K mg base N qual (xb st) f (.ref c) A outer s H E).nox [] σ' H' s' → RelV v u → Q v H' → CE outer P w H s Q u s' :=
  fun {σ' H' v u} J rv q => ⟨v, H', J.os, J.bare, J.base, J.hok, rv, q⟩
 cases fl with
 | ret u =>
  obtain ⟨v, σ', H', J, rv, q⟩ := hs
  exact fin J rv q
 | next =>
  obtain ⟨σ', H', J, q⟩ := hs
  exact fin (v := V.non) (u := Value.none) J rfl q
 | brk =>
  obtain ⟨_, _, _, q⟩ := hs
  exact False.elim q
 | cont =>
  obtain ⟨_, _, _, q⟩ := hs
  exact False.elim q
section
variable {X : Cx} {c P : Addr} {qs : List (Pos × Str)} {name q : Str} {params : Arguments} {scope : Scope} {pos : Pos} {fns : List Str}
theorem xbs {e : Expr} (hcode : X.env.code = .ref c) (T : xbC X.K c P) (hql : X.env.qual ++ "<lambda>" = q) (hq : (pos, q) ∈ qs) (hu : (qs.all fun p => !((pos.line == p.1.line) && (pos.col == p.1.col)) || (p.2 == q)) = true)
  (hfr : (scope.names.filter fun y => y.2 == .free).map (·.1) = fns) (hdef : defaultsOf params X.env = ([], []) := by rfl) :
  PE X (.Lambda params e scope pos) (tFn X P qs fns "<lambda>" q params (.expr e) scope) := by
 subst hql
 exact xlD hcode T hq hu hfr hdef
end
theorem xe2 {K : W.Frag} {c P : Addr} (e : W.codeHdIn K c P = true) : xbC K c P := fun _ X => W.codeHd_of_K X e
end L2
namespace L2
open PySem PySem.Spec PyProof.Rows
theorem xkw {X : Cx} {a b : Expr} {pos : Pos} {op : CmpOp} {t : TE} (h : PC X op a b t) (h1 : behindInMarks op b = false) : PT X (.Compare a [op] [b] pos) (cB t) := by
 intro pins s σ H Q I hw
 refine wpAny_isTrue_Compare1 (thn (h pins s σ H _ I hw) fun v s1 h1 => thn h1 fun u s2 h2 => thn h2 fun c s3 ⟨x, H1, I1, r1, q1⟩ => ?_) h1
 obtain ⟨d, rfl, q⟩ := xb9 q1
 cases r1
 exact wpAny_truthy_bool ⟨H1, I1, q⟩
end L2
namespace L2
open PySem PySem.Spec PyProof.Rows
end L2
namespace L2
open PySem PySem.W PyProof.Rows
structure STO (lt : Nat → Nat → Bool) (n : Nat) : Prop where
 irr : ∀ i, i < n → lt i i = false
 tr : ∀ i j k, i < n → j < n → k < n → lt i j = true → lt j k = true → lt i k = true
 tot : ∀ i j, i < n → j < n → i ≠ j → lt i j = true ∨ lt j i = true
def Wp {α : Type} (lt : Nat → Nat → Bool) (n : Nat) : KasT α → (α → Prop) → Prop
 | .ret a, Q => Q a
 | .ask i j k, Q => i < n ∧ j < n ∧ Wp lt n (k (lt i j)) Q
section
variable {lt : Nat → Nat → Bool} {n : Nat} {α β : Type}
theorem Wp.bind {f : α → KasT β} {Q : β → Prop} : ∀ {t : KasT α}, Wp lt n t (fun a => Wp lt n (f a) Q) → Wp lt n (t.bind f) Q
 | .ret _, h => h
 | .ask _ _ _, ⟨h1, h2, h⟩ => ⟨h1, h2, Wp.bind h⟩
theorem Wp.kas {cmp : Nat → Nat → (Bool → Shared → Prop) → Shared → Prop} {Q : α → Shared → Prop} {s : Shared} (hc : ∀ i j (C : Bool → Shared → Prop), i < n → j < n → C (lt i j) s → cmp i j C s) : ∀ {t : KasT α}, Wp lt n t (fun a => Q a s) → t.kasWp cmp Q s
 | .ret _, h => h
 | .ask i j k, ⟨h1, h2, h⟩ => hc i j _ h1 h2 (Wp.kas hc h)
theorem wp_mono {Q Q' : α → Prop} : ∀ {t : KasT α}, Wp lt n t Q → (∀ a, Q a → Q' a) → Wp lt n t Q'
 | .ret _, h, k => k _ h
 | .ask _ _ _, ⟨h1, h2, h⟩, k => ⟨h1, h2, wp_mono h k⟩
structure Pm (n : Nat) (p : Array Nat) : Prop where
 size : p.size = n
 perm : p.toList.Perm (List.range n)
abbrev g0 (p : Array Nat) (i : Nat) : Nat := p.getD i 0
theorem xcw (p : Array Nat) (i : Nat) : g0 p i = (p[i]?).getD 0 := by unfold g0; rw [Array.getD_eq_getD_getElem?]
theorem Pm.bd {p : Array Nat} (P : Pm n p) {i : Nat} (h : i < n) : g0 p i < n := by
 have hi : i < p.size := by rw [P.size]; exact h
 have e : g0 p i = p[i] := by rw [xcw, Array.getElem?_eq_getElem hi]; rfl
 rw [e]
 exact List.mem_range.mp (P.perm.mem_iff.mp (Array.mem_toList_iff.mpr (Array.getElem_mem hi)))
theorem Pm.inj {p : Array Nat} (P : Pm n p) {i j : Nat} (h : i < n) (h' : j < n) (ne : i ≠ j) : g0 p i ≠ g0 p j := by
 have nd : p.toList.Nodup := P.perm.nodup_iff.mpr List.nodup_range
 have hi : i < p.toList.length := by rw [Array.length_toList, P.size]; exact h
 have hj : j < p.toList.length := by rw [Array.length_toList, P.size]; exact h'
 have e : ∀ k (hk : k < p.toList.length), g0 p k = p.toList[k] := fun k hk => by
  rw [xcw, ← Array.getElem?_toList, List.getElem?_eq_getElem hk]; rfl
 rw [e i hi, e j hj]
 exact fun z => ne ((List.getElem_inj nd).mp z)
def Up (lt : Nat → Nat → Bool) (p : Array Nat) (m : Nat) : Prop := ∀ i j, i < j → j < m → lt (g0 p i) (g0 p j) = true
def Dn (lt : Nat → Nat → Bool) (p : Array Nat) (m : Nat) : Prop := ∀ i j, i < j → j < m → lt (g0 p j) (g0 p i) = true
theorem Up.snoc (S : STO lt n) {p : Array Nat} (P : Pm n p) {m : Nat} (hm : m < n) (h1 : 1 ≤ m) (U : Up lt p m) (h : lt (g0 p (m - 1)) (g0 p m) = true) : Up lt p (m + 1) := fun i j hij hj => by
 by_cases e : j = m
 ·subst e
  by_cases e2 : i = j - 1
  ·subst e2; exact h
  ·exact S.tr _ _ _ (P.bd (by omega)) (P.bd (by omega)) (P.bd hm) (U i (j - 1) (by omega) (by omega)) h
 ·exact U i j hij (by omega)
theorem Dn.snoc (S : STO lt n) {p : Array Nat} (P : Pm n p) {m : Nat} (hm : m < n) (h1 : 1 ≤ m) (U : Dn lt p m) (h : lt (g0 p m) (g0 p (m - 1)) = true) : Dn lt p (m + 1) := fun i j hij hj => by
 by_cases e : j = m
 ·subst e
  by_cases e2 : i = j - 1
  ·subst e2; exact h
  ·exact S.tr _ _ _ (P.bd hm) (P.bd (by omega)) (P.bd (by omega)) h (U i (j - 1) (by omega) (by omega))
 ·exact U i j hij (by omega)
theorem xio (S : STO lt n) {p : Array Nat} (P : Pm n p) {Q : Nat → Prop} : ∀ (f m : Nat), 1 ≤ m → m + f ≤ n → Up lt p m → (∀ m', m ≤ m' → m' ≤ m + f → Up lt p m' → (m' < m + f → lt (g0 p m') (g0 p (m' - 1)) = true) → Q m') → Wp lt n (kas_asc p f m) Q
 | 0, m, _, _, U, h => h m (Nat.le_refl _) (Nat.le_refl _) U (fun z => absurd z (by omega))
 | f + 1, m, h1, hf, U, h => by
  refine ⟨P.bd (by omega), P.bd (by omega), ?_⟩
  cases e : lt (p.getD m 0) (p.getD (m - 1) 0) with
  | true => exact h m (Nat.le_refl _) (by omega) U fun _ => e
  | false =>
   have e2 : lt (g0 p (m - 1)) (g0 p m) = true := (S.tot _ _ (P.bd (by omega)) (P.bd (by omega)) (P.inj (by omega) (by omega) (by omega))).resolve_right (by rw [show lt (g0 p m) (g0 p (m - 1)) = false from e]; simp)
   exact xio S P f (m + 1) (by omega) (by omega) (U.snoc S P (by omega) h1 e2) fun m' a1 a2 a3 a4 => h m' (by omega) (by omega) a3 fun z => a4 (by omega)
theorem xjK (S : STO lt n) {p : Array Nat} (P : Pm n p) {Q : Array Nat × Nat × Nat → Prop} : ∀ (f m : Nat), 2 ≤ m → m + f ≤ n → Dn lt p m → (∀ m', 2 ≤ m' → m' ≤ n → Dn lt p m' → Q (p, m', 0)) → Wp lt n (kas_desc f p m 0) Q
 | 0, m, _, hf, U, h => h m (by omega) (by omega) U
 | f + 1, m, h1, hf, U, h => by
  refine ⟨P.bd (by omega), P.bd (by omega), ?_⟩
  cases e : lt (p.getD m 0) (p.getD (m - 1) 0) with
  | true => exact xjK S P f (m + 1) (by omega) (by omega) (U.snoc S P (by omega) (by omega) e) h
  | false =>
   have e2 : lt (g0 p (m - 1)) (g0 p m) = true := (S.tot _ _ (P.bd (by omega)) (P.bd (by omega)) (P.inj (by omega) (by omega) (by omega))).resolve_right (by rw [show lt (g0 p m) (g0 p (m - 1)) = false from e]; simp)
   refine ⟨P.bd (by omega), P.bd (by omega), ?_⟩
   rw [show lt (p.getD (m - 1) 0) (p.getD m 0) = true from e2]
   exact h m (by omega) (by omega) U
theorem Pm.rev {p : Array Nat} (P : Pm n p) (i j : Nat) : Pm n (kas_rev p i j) := ⟨by unfold kas_rev; rw [mirror_size]; exact P.size, (Array.perm_iff_toList_perm.mp (mirror_perm p i j ((j - i) / 2))).trans P.perm⟩
theorem Dn.rev {p : Array Nat} (P : Pm n p) {m : Nat} (hm : m ≤ n) (U : Dn lt p m) : Up lt (kas_rev p 0 m) m := fun i j hij hj => by
 have e : ∀ k, k < m → g0 (kas_rev p 0 m) k = g0 p (m - 1 - k) := fun k hk => by
  rw [xcw, xcw]
  unfold kas_rev
  rw [getElem?_mirror_all (by rw [P.size]; exact hm), if_pos ⟨Nat.zero_le _, hk⟩]
  congr 2
  omega
 rw [e i (by omega), e j hj]
 exact U (m - 1 - j) (m - 1 - i) (by omega) (by omega)
theorem xmB (S : STO lt n) {p : Array Nat} (P : Pm n p) {m : Nat} (h1 : 1 ≤ m) (hm : m ≤ n) (U : Dn lt p m) : Wp lt n (kas_tail3 m n p) (fun r => Pm n r.2 ∧ 1 ≤ r.1 ∧ r.1 ≤ n ∧ Up lt r.2 r.1) :=
 Wp.bind (xio S (P.rev 0 m) (n - m) m h1 (by omega) (U.rev P hm) fun m' a1 a2 a3 _ => ⟨P.rev 0 m, by show 1 ≤ m'; omega, by show m' ≤ n; omega, a3⟩)
theorem xmC (S : STO lt n) {p : Array Nat} (P : Pm n p) (h2 : 2 ≤ n) : Wp lt n (kas_count n p) (fun r => Pm n r.2 ∧ 1 ≤ r.1 ∧ r.1 ≤ n ∧ Up lt r.2 r.1) := by
 refine Wp.bind (xio S P (n - 1) 1 (Nat.le_refl _) (by omega) (fun i j h1 h2 => absurd h2 (by omega)) fun m a1 a2 a3 a4 => ?_)
 by_cases e : (m == n) = true
 ·rw [if_pos e]
  exact ⟨P, a1, by show m ≤ n; omega, a3⟩
 ·rw [if_neg e]
  have hmn : m < n := by
   have : m ≠ n := by simpa using e
   omega
  by_cases e2 : m > 1
  ·rw [if_pos e2]
   refine ⟨P.bd (by omega), P.bd (by omega), ?_⟩
   rw [show lt (p.getD 0 0) (p.getD (m - 1) 0) = true from a3 0 (m - 1) (by omega) (by omega)]
   exact ⟨P, a1, by show m ≤ n; omega, a3⟩
  ·rw [if_neg e2]
   have e3 : m = 1 := by omega
   subst e3
   refine Wp.bind (xjK S P (n - 2) 2 (Nat.le_refl _) (by omega) (fun i j h1 h2 => ?_) fun m' b1 b2 b3 => ?_)
   ·obtain rfl : j = 1 := by omega
    obtain rfl : i = 0 := by omega
    exact a4 (by omega)
   ·exact xmB S P (by show 1 ≤ m'; omega) b2 b3
theorem xfR (S : STO lt n) {p : Array Nat} (P : Pm n p) {k : Nat} (hk : k < n) {Q : Nat → Prop} (h : ∀ l, l ≤ k → (∀ i, i < l → lt (g0 p i) (g0 p k) = true) → (∀ i, l ≤ i → i < k → lt (g0 p k) (g0 p i) = true) → Q l) (U : Up lt p k) :
  ∀ (f l r : Nat), l ≤ r → r ≤ k → r - l ≤ f → (∀ i, i < l → lt (g0 p i) (g0 p k) = true) → (∀ i, r ≤ i → i < k → lt (g0 p k) (g0 p i) = true) → Wp lt n (kas_place p k f l r) Q
 | 0, l, r, a1, a2, a3, b1, b2 => h l (by omega) b1 fun i h1 h2 => b2 i (by omega) h2
 | f + 1, l, r, a1, a2, a3, b1, b2 => by
  unfold kas_place
  by_cases e : l ≥ r
  ·rw [if_pos e]
   exact h l (by omega) b1 fun i h1 h2 => b2 i (by omega) h2
  ·rw [if_neg e]
   have hm1 : (l + r) / 2 < r := by omega
   have hm2 : l ≤ (l + r) / 2 := by omega
   refine ⟨P.bd hk, P.bd (by omega), ?_⟩
   cases e2 : lt (p.getD k 0) (p.getD ((l + r) / 2) 0) with
   | true =>
    refine xfR S P hk h U f l ((l + r) / 2) hm2 (by omega) (by omega) b1 fun i h1 h2 => ?_
    by_cases e3 : i = (l + r) / 2
    ·subst e3; exact e2
    ·exact S.tr _ _ _ (P.bd hk) (P.bd (by omega)) (P.bd (by omega)) e2 (U ((l + r) / 2) i (by omega) h2)
   | false =>
    have e4 : lt (g0 p ((l + r) / 2)) (g0 p k) = true := (S.tot _ _ (P.bd (by omega)) (P.bd hk) (P.inj (by omega) hk (by omega))).resolve_right (by rw [show lt (g0 p k) (g0 p ((l + r) / 2)) = false from e2]; simp)
    refine xfR S P hk h U f ((l + r) / 2 + 1) r (by omega) a2 (by omega) (fun i h1 => ?_) b2
    by_cases e3 : i = (l + r) / 2
    ·subst e3; exact e4
    ·exact S.tr _ _ _ (P.bd (by omega)) (P.bd (by omega)) (P.bd hk) (U i ((l + r) / 2) (by omega) (by omega)) e4
theorem Up.ins {p : Array Nat} (P : Pm n p) {k l : Nat} (hk : k < n) (hl : l ≤ k) (U : Up lt p k) (b1 : ∀ i, i < l → lt (g0 p i) (g0 p k) = true) (b2 : ∀ i, l ≤ i → i < k → lt (g0 p k) (g0 p i) = true) : Up lt (bubble p k (k - l)) (k + 1) := fun i j hij hj => by
 have e : ∀ x, g0 (bubble p k (k - l)) x = if x = l then g0 p k else if l < x ∧ x ≤ k then g0 p (x - 1) else g0 p x := fun x => by
  rw [xcw, getElem?_bubble (by rw [P.size]; exact hk) (k - l) (by omega), show k - (k - l) = l by omega]
  by_cases h1 : x = l
  ·rw [if_pos h1, if_pos h1, xcw]
  ·rw [if_neg h1, if_neg h1]
   by_cases h2 : l < x ∧ x ≤ k
   ·rw [if_pos h2, if_pos h2, xcw]
   ·rw [if_neg h2, if_neg h2, xcw]
 rw [e i, e j]
 by_cases hi : i = l
 ·rw [if_pos hi, if_neg (by omega), if_pos ⟨by omega, by omega⟩]
  exact b2 (j - 1) (by omega) (by omega)
 ·rw [if_neg hi]
  by_cases hj' : j = l
  ·rw [if_pos hj', if_neg (by omega)]
   exact b1 i (by omega)
  ·rw [if_neg hj']
   by_cases h1 : l < i ∧ i ≤ k
   ·rw [if_pos h1, if_pos ⟨by omega, by omega⟩]
    exact U (i - 1) (j - 1) (by omega) (by omega)
   ·rw [if_neg h1]
    by_cases h2 : l < j ∧ j ≤ k
    ·rw [if_pos h2]
     exact U i (j - 1) (by omega) (by omega)
    ·rw [if_neg h2]
     exact U i j hij (by omega)
theorem Pm.bub {p : Array Nat} (P : Pm n p) (k d : Nat) : Pm n (bubble p k d) := ⟨by rw [bubble_size]; exact P.size, (Array.perm_iff_toList_perm.mp (bubble_perm p k d)).trans P.perm⟩
theorem xlG (S : STO lt n) : ∀ (f : Nat) (p : Array Nat) (k : Nat), k + f = n → Pm n p → Up lt p k → Wp lt n (kas_bin f p k) (fun q => Pm n q ∧ Up lt q n)
 | 0, p, k, e, P, U => ⟨P, by rw [show n = k by omega]; exact U⟩
 | f + 1, p, k, e, P, U => by
  refine Wp.bind (xfR S P (by omega) (fun l hl b1 b2 => ?_) U k 0 k (Nat.zero_le _) (Nat.le_refl _) (by omega) (fun i h => absurd h (by omega)) fun i h1 h2 => absurd h2 (by omega))
  exact xlG S f _ (k + 1) (by omega) (P.bub k (k - l)) (U.ins P (by omega) hl b1 b2)
theorem xnY (S : STO lt n) (h2 : 2 ≤ n) : Wp lt n (kas_sort n) (fun q => Pm n q ∧ Up lt q n) := by
 have P0 : Pm n (List.toArray (List.range n)) := ⟨by simp, by simp⟩
 refine Wp.bind ?_
 refine wp_mono (xmC S P0 h2) fun r hr => ?_
 obtain ⟨P, a1, a2, U⟩ := hr
 by_cases e : r.1 < n
 ·rw [if_pos e, show max r.1 1 = r.1 by omega]
  exact xlG S (n - r.1) r.2 r.1 (by omega) P U
 ·rw [if_neg e]
  exact ⟨P, by rw [show n = r.1 by omega]; exact U⟩
end
end L2
namespace L2
open PySem PySem.Spec PyProof.Rows
section
variable {X : Cx}
theorem xe3 {st : Stmt} : PS X st (fun _ _ _ => False) := fun _ _ _ _ _ _ q => q.elim
theorem xgj : ∀ {bs : List Bool} {us : List Value}, Vals (bs.map V.bl) us → us = bs.map Value.bool
 | [], [], _ => rfl
 | [], _ :: _, h => by cases h
 | _ :: _, [], h => by cases h
 | b :: bs, u :: us, h => by
  cases h with
  | cons h1 h2 =>
   rw [xgj h2]
   cases h1
   rfl
theorem range_all (bs : List Bool) (d : Bool) : (List.range bs.length).all (fun i => bs.getD i d) = bs.all id := by
 rw [Bool.eq_iff_iff, List.all_eq_true, List.all_eq_true]
 constructor
 ·intro h x hx
  obtain ⟨i, hi, rfl⟩ := List.mem_iff_getElem.mp hx
  have := h i (by simpa using hi)
  simpa [hi] using this
 ·intro h i hi
  have hi' : i < bs.length := by simpa using hi
  have := h bs[i] (List.getElem_mem hi')
  simpa [hi'] using this
def xpQ (K : W.Frag) (f : List Bool → Bool) : List V → Hp → VK → Prop := fun xs H Q => ∃ p bs, xs = [.ref p] ∧ SqL K H p (bs.map V.bl) ∧ Q (.bl (f bs)) H
theorem xja {prog : Program} {w : World} {A : Around} (bs : List Bool) : TruthOf prog w A (fun i v => (bs.map Value.bool).toArray[i]? = some v) (fun i => bs.getD i true) := by
 intro i v s Q E hP hQ
 have e : v = .bool (bs.getD i true) := by
  simp only [List.getElem?_toArray, List.getElem?_map] at hP
  cases q : bs[i]? with
  | none => rw [q] at hP; cases hP
  | some b => rw [q] at hP; simp at hP; rw [← hP]; simp [List.getD, q]
 rw [e]
 exact wpAny_truthy_bool hQ
theorem xlH (hc : X.calm = true) : zp X (.builtin "all") (xpQ X.K fun bs => bs.all id) := by
 intro pins s σ H xs us Q I r h
 obtain ⟨p, bs, rfl, hq, q⟩ := h
 obtain ⟨u, rfl, rx⟩ := vals1 r
 cases rx
 obtain ⟨its, r', pl, hz⟩ := I.list hq
 have e := xgj r'
 subst e
 have hL := pl.isList
 have hlt : p < s.heap.objs.size := by obtain ⟨_, e, _⟩ := hL; exact Heap.lt_size e
 refine call_all_walk (wpAny_pyIter_list hL ⟨_, _, _, _, _, _, fun i => bs.getD i true, rfl, Walks.list (A := X.A.in1) (I.ok.hd hc) _ p (Nat.ne_of_lt hlt) (bs.map Value.bool).toArray, ⟨⟨_, Heap.get?_push_size _ rfl, rfl, rfl⟩, hL.push _⟩, xja bs, fun h' tk hk => ?_⟩)
 refine ⟨.bl (bs.all id), H, I.kept (t' := tk) (fun b o e => hk b o (fun hb => ?_) (Heap.get?_push_of_some _ e)), ?_, q⟩
 ·exact absurd (Heap.lt_size e) (by rw [List.mem_singleton.mp hb]; exact Nat.lt_irrefl _)
 ·have e := range_all bs true
  simp only [List.size_toArray, List.length_map]
  rw [e]; rfl
end
end L2
namespace L2
open PySem PySem.Spec PyProof.Rows
section
variable {X : Cx} {pins : List (Addr × Obj)} {σ : St} {H : Hp} {s : Shared} {h' : Heap}
theorem Inv.turnLaid {t' : Nat} {ch : List Addr} {a : Addr} {o : HO} (I : Inv X pins σ H s) (k : ∀ b u, b ∉ ch → s.heap.get? b = some u → h'.get? b = some u) (hp : s.heap.objs.size ≤ a) (new : xS X.prog X.w (upd H a o) h' a o)
  (hn : ∀ b ∈ ch, H b = none) (hl : ∀ b ∈ ch, b < s.heap.objs.size) (hch : ∀ b ∈ ch, (b ∈ X.ex ∨ X.s₀.heap.objs.size ≤ b) ∧ b ≠ X.env.locals ∧ (∀ x c, X.env.cells.lookup x = some c → c ≠ b) ∧ ∀ p ∈ X.pn ++ pins, p.1 ≠ b) :
  Inv X pins σ (upd H a o) { s with heap := h', toks := t' } := by
 have nit : ∀ b u, H b = some u → b ∉ ch := fun b u e z => by rw [hn b z] at e; cases e
 have fr := I.hok.fresh hp
 refine I.call' (s' := { s with heap := h', toks := t' }) (ch := ch) rfl ⟨fun b o q _ _ hx => k b o hx q, fun b o q _ _ hx => ⟨o.slots, k b o hx q⟩, fun b o q n _ => ?_, fun b o q hx => ⟨o, k b o hx q⟩, fun b u q _ => ?_⟩ (fun b u e => ?_) I.bare hch
 ·rw [xn (Nat.ne_of_lt (Nat.lt_of_lt_of_le (Heap.lt_size q) hp))]; exact n
 ·rw [xn (xB q fr)]; exact q
 ·by_cases hb : b = a
  ·subst hb; rw [xo] at e; cases e; exact new
  ·rw [xn hb] at e
   refine (I.hok b u e).stay (fun c v hc q => k c v ?_ q) (fun c q => by rw [xn (xB q fr)]; exact q) fun c xs q _ => by rw [xn (xB q fr)]; exact q
   rcases hc with z | z
   ·rw [z]; exact nit b u e
   ·exact nit c _ z
end
def Ite (K : W.Frag) (a : Addr) : It :=
 ⟨fun i H => ∃ xs x, SqL K H a xs ∧ xs[i]? = some x, fun i H v H' => ∃ T x, v = .ref T ∧ H T = none ∧ H' = upd H T (.tup [.int i, x]) ∧ ∀ xs, SqL K H a xs → xs[i]? = some x, fun i H => ∃ xs, SqL K H a xs ∧ xs.length ≤ i⟩
theorem xlI {P : Program} {w : World} {K : W.Frag} {es : List Expr} {k : Nat} {pos : Pos} (a e it : Addr) (hne : e ≠ it) : Turn P w K (.Tuple es k pos) (Ite K a) [e, it] e (fun i h => (∃ old, IsEnum h e it (i : Nat) old) ∧ h.IsListIter it a i) where
 mem := by simp
 obj := fun i h st b hb => by
  obtain ⟨⟨old, he⟩, ⟨o, e1, c, d⟩⟩ := st
  rcases List.mem_cons.mp hb with z | z
  ·subst z
   exact ⟨_, he, fun v z => by cases z⟩
  ·rw [List.mem_singleton.mp z]
   exact ⟨o, e1, fun v z => by rw [d] at z; cases z⟩
 keep := fun i h h' st kk => by
  obtain ⟨⟨old, he⟩, hit⟩ := st
  exact ⟨⟨old, kk e (by simp) _ he⟩, hit.at fun o x => kk it (by simp) o x⟩
 item := by
  intro X hP hw hK hc i pins s σ H E I hf st hg
  subst hP hw hK
  obtain ⟨xs, x, hq, hx⟩ := hg
  obtain ⟨its, rv, p, hz⟩ := I.list hq
  obtain ⟨u, hu, ru⟩ := rv.get hx
  obtain ⟨⟨old, he⟩, hit⟩ := st
  have he' := Heap.lt_size he
  have hi' : it < s.heap.objs.size := by obtain ⟨o, q, _⟩ := hit; exact Heap.lt_size q
  refine wpAny_pyNext_enum_item he hit p.isList (x := u) (by simpa using hu) hne fun h' heo hit' hT hsz hk => ?_
  refine ⟨_, rfl, wpAny_letOwnedTupleGo_enum (s := { s with heap := h', toks := s.toks + 1 }) heo fun h2 he2 hs2 => ?_⟩
  have hT2 : h2.get? s.heap.objs.size = some { cls := .type "tuple", data := .seq #[.int i s.toks, u] } := (hs2.2 _ (Nat.ne_of_gt he')).trans hT
  have I2 : Inv X pins σ (upd H s.heap.objs.size (.tup [.int i, x])) { s with heap := h2, toks := s.toks + 1 } := by
   refine I.turnLaid (ch := [e, it]) (fun b o hb q => ?_) (Nat.le_refl _) ⟨by simp [sizeLine_eq], [.int i s.toks, u], .cons ⟨_, rfl⟩ (.cons ru .nil), ⟨_, hT2, rfl, _, rfl⟩⟩ (fun b hb => (hf b hb).1) (fun b hb => ?_) fun b hb => ?_
   ·have b1 : b ≠ e := fun z => hb (by simp [z])
    have b2 : b ≠ it := fun z => hb (by simp [z])
    exact (hs2.2 b b1).trans (hk b o b1 b2 q)
   ·rcases List.mem_cons.mp hb with z | z
    ·rw [z]; exact he'
    ·rw [List.mem_singleton.mp z]; exact hi'
   ·obtain ⟨f0, f1, f2, f3, f4, f5⟩ := hf b hb
    exact ⟨f3, f1, f4, f5⟩
  refine ⟨.ref s.heap.objs.size, _, I2, rfl, ⟨_, x, rfl, I.hok.fresh (Nat.le_refl _), rfl, fun ys hy => by rw [I.list_inj hy hq]; exact hx⟩, ⟨⟨u, by simpa using he2⟩, hit'.extBut hs2.extBut (Ne.symm hne)⟩, fun b hb => ?_⟩
  have hb' : b ≠ s.heap.objs.size := by
   rcases List.mem_cons.mp hb with z | z
   ·rw [z]; exact Nat.ne_of_lt he'
   ·rw [List.mem_singleton.mp z]; exact Nat.ne_of_lt hi'
  rw [xn hb']
  exact (hf b hb).1
 done := by
  intro X hP hw hK hc i pins s σ H E I hf st hg
  subst hP hw hK
  obtain ⟨xs, hq, hx⟩ := hg
  obtain ⟨its, rv, p, hz⟩ := I.list hq
  obtain ⟨⟨old, he⟩, hit⟩ := st
  obtain ⟨f0, f1, f2, f3, f4, f5⟩ := hf it (by simp)
  have hl := rv.length
  exact wpAny_pyNext_enum_end (I.ok.hd hc) he hit p.isList (by simp; omega) fun h' eb => ⟨rfl, I.turned (t' := s.toks) (fun b o hb e => eb b o hb e) f0 f1 f3 f4 f5⟩
 self := fun _ _ _ _ _ st h => by
  obtain ⟨⟨old, he⟩, _⟩ := st
  exact wpAny_pyIter_enum he h
section
variable {X : Cx} {es : List Expr} {k : Nat} {tp : Pos}
def xpR (K : W.Frag) (ta : TA) : TI := fun σ H R => ta σ H fun vs H1 => ∃ a, vs = [.ref a] ∧ (∃ xs, SqL K H1 a xs) ∧ R (Ite K a) H1
theorem xjL {l : Expr} {ta : TA} {p pos : Pos} (hg : Gl X "enumerate") (hm : X.mg "enumerate" = none) (ha : PA X [l] ta) (hs : starEach [l] X.env = [(false, eval l X.env)] := by rfl) : PI X (.Tuple es k tp) (.Call (.Name "enumerate" p) [l] [] pos) (xpR X.K ta) := by
 intro pins s σ H R I h
 refine Call_ (vR I hg hm xcd (PyProof.Rows.callWith_type1 (thn (ha pos pins s σ H _ I h) fun us s1 ⟨vs, H1, I1, r1, q1⟩ => ?_) hs rfl))
 obtain ⟨a, e, ⟨xs, hq⟩, q⟩ := q1
 subst e
 obtain ⟨u, rfl, ru⟩ := Vals.one r1
 cases ru
 obtain ⟨its, rv, pl, hz⟩ := I1.list hq
 refine call_enumerate_list pl.isList fun h' he hi hsz hk => wpAny_pyIter_enum (s := { s1 with heap := h' }) he ?_
 refine ⟨s1.heap.objs.size + 1, [s1.heap.objs.size + 1, s1.heap.objs.size], _, _, H1, rfl, I1.kept (t' := s1.toks) hk, xlI a _ _ (Nat.succ_ne_self _), ⟨⟨.none, by simpa using he⟩, hi⟩, fun b hb => ?_, q⟩
 rcases List.mem_cons.mp hb with z | z
 ·rw [z]; exact I1.fpOk (Nat.le_succ _) (I1.hok.fresh (Nat.le_succ _))
 ·rw [List.mem_singleton.mp z]; exact I1.fpOk (Nat.le_refl _) (I1.hok.fresh (Nat.le_refl _))
end
structure uM (X : Cx) (scope : Scope) (x1 x2 : Str) (cap : List Nat) (ys : List Str) : Prop where
 kind : scope.kind = .function
 nocell : ∀ y ∈ scope.names, y.2 ≠ .cell
 locs : ∀ y ∈ scope.names, y.2 = .local → scope.names.lookup y.1 = some .local
 lx1 : scope.names.lookup x1 = some .local
 lx2 : scope.names.lookup x2 = some .local
 fr : ∀ y ∈ scope.names, y.2 = .free → X.env.kindOf y.1 = some .cell ∨ X.env.kindOf y.1 = some .free
 cap : xdz X scope cap ys
 nd : (x1 :: x2 :: ys).Nodup
theorem xnZ {X : Cx} {scope : Scope} {x1 x2 : Str} {cap : List Nat} {ys : List Str} (kind : scope.kind = .function) (h1 : (scope.names.all fun y => !(y.2 == .cell)) = true) (h2 : (scope.names.all fun y => !(y.2 == .local) || scope.names.lookup y.1 == some .local) = true)
  (hx1 : scope.names.lookup x1 = some .local) (hx2 : scope.names.lookup x2 = some .local) (h3 : (scope.names.all fun y => !(y.2 == .free) || (X.env.kindOf y.1 == some .cell || X.env.kindOf y.1 == some .free)) = true) (hcap : xdz X scope cap ys) (hnd : (x1 :: x2 :: ys).Nodup) : uM X scope x1 x2 cap ys := by
 refine ⟨kind, fun y hy e => ?_, fun y hy e => ?_, hx1, hx2, fun y hy e => ?_, hcap, hnd⟩
 ·have := List.all_eq_true.mp h1 y hy
  rw [e] at this; exact absurd this (by decide)
 ·have := List.all_eq_true.mp h2 y hy
  rw [e] at this
  simpa using this
 ·have := List.all_eq_true.mp h3 y hy
  rw [e] at this
  simpa using this
section
variable {X : Cx} {scope : Scope} {x1 x2 : Str} {cap : List Nat} {ys : List Str}
theorem uM.clos (B : uM X scope x1 x2 cap ys) (ok : X.Ok) : ∀ y ∈ scope.names, y.2 = .free → ∃ c, X.env.cells.lookup y.1 = some c := fun y hy e => ok.has y.1 (B.fr y hy e)
theorem uM.sub (B : uM X scope x1 x2 cap ys) (ok : X.Ok) {z : Str} {c : Addr} (h : (yV X.env.cells scope.names []).lookup z = some c) : X.env.cells.lookup z = some c := by
 rcases xdy (B.clos ok) h with q | q
 ·simp at q
 ·exact q
theorem uM.start {pins : List (Addr × Obj)} {σ : St} {H₂ : Hp} {s₂ : Shared} {fp : List Addr} {h₁ : Heap} {tk : Nat} {C D : Addr} (B : uM X scope x1 x2 cap ys) (I : Inv X pins σ H₂ s₂)
  (hf : ∀ b ∈ fp, xaY X pins H₂ b) (hD : s₂.heap.objs.size ≤ D) (hC : s₂.heap.objs.size ≤ C) (hDC : D ≠ C) (hk : ∀ b o, s₂.heap.get? b = some o → h₁.get? b = some o)
  (hns : ∃ m, h₁.Ns C m) (hl : h₁.get? D = some { cls := .type "list", data := .seq ([] : List Value).toArray }) (hfp : ∀ b ∈ fp, b < s₂.heap.objs.size) :
  Inv (X.blk scope C (x1 :: x2 :: ys) s₂ H₂ fp) [] (none :: none :: uI σ cap) (upd H₂ D (.lst [])) { s₂ with heap := h₁, toks := tk } := by
 have ok := I.ok
 have freshC : H₂ C = none := I.hok.fresh hC
 have freshD : H₂ D = none := I.hok.fresh hD
 have lt : ∀ b o, s₂.heap.get? b = some o → b < s₂.heap.objs.size := fun b o e => Heap.lt_size e
 refine ⟨⟨ok.mod, B.kind, ok.glob, ok.blt, hC, fun y z c h1 h2 => ok.inj y z c (B.sub ok h1) (B.sub ok h2), fun y hy => ?_, fun y c h => (Bool.false_ne_true h).elim, ok.hd, ok.frames, .inl rfl, fun b hb => ⟨?_, fun y c h e => ?_⟩, I.bs, Nat.le_trans ok.bsz I.sz, fun b o e hb => ?_, fun b hb hs => ?_, I.stack, I.stkFree, fun y c h => (Bool.false_ne_true h).elim, fun b hb => I.hok.fresh hb⟩,
  rfl, I.bare, Un.laid hk hD freshD, ?_, fun y c h => ?_, ?_, fun y c h => ?_, fun p hp => ?_, ?_, ?_⟩
 ·have hy' : (relabel scope X.env).names.lookup y = some .cell ∨ (relabel scope X.env).names.lookup y = some .free := hy
  have m : (y, NameKind.free) ∈ scope.names := by
   rcases hy' with q | q
   ·exact jn q (.inl rfl) B.nocell
   ·exact jn q (.inr rfl) B.nocell
  exact xa0 (.inl m)
 ·exact Nat.ne_of_lt (Nat.lt_of_lt_of_le (hfp b hb) hC)
 ·exact (hf b hb).2.2.2.2.1 y c (B.sub ok h) e
 ·rcases (hf b hb).2.2.2.1 with q | q
  ·exact ok.noex b o e q
  ·exact absurd (Nat.lt_of_lt_of_le (Heap.lt_size (ok.bs b o e).1) q) (Nat.lt_irrefl _)
 ·rcases List.mem_cons.mp (I.stkSub b hs) with q | q
  ·exact (hf b hb).2.1 q
  ·exact (hf b hb).2.2.1 q
 ·obtain ⟨m, hm⟩ := hns
  refine ⟨m, hm, fun i y v e1 e2 e3 => ?_⟩
  cases i with
  | zero => simp at e2
  | succ i =>
   cases i with
   | zero => simp at e2
   | succ i =>
   obtain ⟨j, n1, n2, n3, n4⟩ := xbp (i := i) B.cap (by simpa [Cx.blk] using e1) (by simpa using e2)
   obtain ⟨m0, hn0, hl0⟩ := I.loc
   have vis : Vis X.env.scope y := by
    rcases n4 with q | q
    ·exact .inr (.inl q)
    ·exact .inr (.inr q)
   obtain ⟨u, ru, l⟩ := hl0 j y v n1 n2 vis
   refine ⟨u, ru, .inr ⟨xcc n3, ?_⟩⟩
   rcases l with ⟨k, _⟩ | ⟨_, c, ec, z⟩
   ·rw [k] at n4
    rcases n4 with q | q <;> cases q
   ·obtain ⟨c', ec'⟩ := xa0 (cells := X.env.cells) (cs := []) (.inl (xcb n3))
    have := B.sub ok ec'
    rw [ec] at this; cases this
    obtain ⟨o, ho, hd⟩ := z
    exact ⟨c, ec', o, hk c o ho, hd⟩
 ·obtain ⟨v, o, ho, hd⟩ := I.cell y c (B.sub ok h)
  exact ⟨v, o, hk c o ho, hd⟩
 ·show upd H₂ D _ C = none
  rw [xn (Ne.symm hDC)]; exact freshC
 ·obtain ⟨v, o, ho, hd⟩ := I.cell y c (B.sub ok h)
  rw [xn (Nat.ne_of_lt (Nat.lt_of_lt_of_le (lt c o ho) hD))]
  refine (I.freeC y c (B.sub ok h)).imp id fun ⟨_, o', ho', hno⟩ => ⟨rfl, o', ho', fun z i v e1 k e2 => ?_⟩
  cases i with
  | zero => simp at e2
  | succ i =>
   cases i with
   | zero => simp at e2
   | succ i =>
   obtain ⟨j, n1, n2, n3, n4⟩ := xbp (i := i) B.cap (by simpa [Cx.blk] using e1) (by simpa using e2)
   exact hno z j v n1 n4 n2
 ·exact absurd (show p ∈ ([] : List (Addr × Obj)) from hp) (by simp)
 ·exact I.hok.laid hk hD ⟨Nat.zero_le _, [], 0, .nil, hl⟩
 ·simp [Cx.blk, uI, xei B.cap]
theorem uM.back {pins : List (Addr × Obj)} {σ : St} {H₂ H' : Hp} {s₂ s' : Shared} {fp : List Addr} {C : Addr} {pl : List (Addr × Obj)} {σ' : St} (B : uM X scope x1 x2 cap ys) (I : Inv X pins σ H₂ s₂)
  (hf : ∀ b ∈ fp, xaY X pins H₂ b) (J : Inv (X.blk scope C (x1 :: x2 :: ys) s₂ H₂ fp) pl σ' H' s') : Inv X pins σ H' s' :=
 I.call' (ch := fp) J.os J.base J.hok J.bare fun b hb => by
  obtain ⟨f0, f1, f2, f3, f4, f5⟩ := hf b hb
  refine ⟨?_, f1, f4, f5⟩
  rcases f3 with q | q
  ·exact .inl q
  ·exact .inr q
theorem uM.far {pins : List (Addr × Obj)} {σ : St} {H₂ H' : Hp} {s₂ s' : Shared} {fp : List Addr} {C : Addr} {pl : List (Addr × Obj)} {σ' : St} (I : Inv X pins σ H₂ s₂)
  (hC : s₂.heap.objs.size ≤ C) (J : Inv (X.blk scope C (x1 :: x2 :: ys) s₂ H₂ fp) pl σ' H' s') :
  H' C = none ∧ C ≠ X.env.locals ∧ X.s₀.heap.objs.size ≤ C ∧ (∀ z c, X.env.cells.lookup z = some c → c ≠ C) ∧ ∀ p ∈ X.pn ++ pins, p.1 ≠ C := by
 refine ⟨J.free, Nat.ne_of_gt (Nat.lt_of_lt_of_le I.lt hC), Nat.le_trans I.sz hC, fun z c e q => ?_, fun p hp q => ?_⟩
 ·obtain ⟨v, w⟩ := I.cell z c e
  exact absurd (Nat.lt_of_lt_of_le w.lt (by rw [q]; exact hC)) (Nat.lt_irrefl _)
 ·exact absurd (Nat.lt_of_lt_of_le (Heap.lt_size (I.pin p hp).1) (by rw [q]; exact hC)) (Nat.lt_irrefl _)
end
@[irreducible] def xc5 (K : W.Frag) (J : It) (caps : St) (tt : TT) (te : TE) (Q : VK) (H2 : Hp) : Prop := ∀ D, H2 D = none → ∃ W : CW, (∃ m, W 0 m [] (upd H2 D (.lst []))) ∧
 ∀ i m acc H3, W i m acc H3 → H3 D = some (.lst acc) ∧ ((J.stop i H3 ∧ Q (.ref D) H3) ∨ (J.go i H3 ∧ acc.length < sizeLine ∧ ∀ v H4, J.yld i H3 v H4 → ∃ T v1 v2, v = .ref T ∧ SqT K H4 T [v1, v2] ∧ tt (some v1 :: some v2 :: caps) H4 fun b H5 =>
  (b = true → te (some v1 :: some v2 :: caps) H5 fun u H6 => H6 D = some (.lst acc) ∧ ∃ m', m' < m ∧ W (i + 1) m' (acc ++ [u]) (upd H6 D (.lst (acc ++ [u])))) ∧ (b = false → ∃ m', m' < m ∧ W (i + 1) m' acc H5)))
def xo8 (K : W.Frag) (cap : List Nat) (wi : TI) (tt : TT) (te : TE) : TE := fun σ H Q => wi σ H fun J H2 => xc5 K J (uI σ cap) tt te Q H2
section
variable {X : Cx} {scope : Scope} {x1 x2 : Str} {cap : List Nat} {ys : List Str} {elt iter : Expr} {ifs : List Expr} {px1 px2 px pos : Pos} {kx : Nat} {wi : TI} {tt : TT} {te : TE}
theorem xjb (B : uM X scope x1 x2 cap ys) (hc : X.calm = true) (he : ∀ C s H fp, PE (X.blk scope C (x1 :: x2 :: ys) s H fp) elt te) (ht : ∀ C s H fp, CTs (X.blk scope C (x1 :: x2 :: ys) s H fp) ifs tt)
  {pins : List (Addr × Obj)} {σ : St} {s₂ : Shared} {Q : VK} {RR : Value → Addr → Result → Shared → Prop} {itv : Value} {E : Value → Shared → Prop}
  (hp : PIE X pins σ (.Tuple [.Name x1 px1, .Name x2 px2] kx px) (fun J H2 => xc5 X.K J (uI σ cap) tt te Q H2) itv s₂)
  (hR : ∀ (D C : Addr) (H' : Hp) (s' : Shared), Inv X pins σ H' s' → (∃ m, s'.heap.Ns C m) → H' C = none → C ≠ X.env.locals → X.s₀.heap.objs.size ≤ C → (∀ z c, X.env.cells.lookup z = some c → c ≠ C) → (∀ p ∈ X.pn ++ pins, p.1 ≠ C) → Q (.ref D) H' → RR (.ref D) C (.ok .next) s') :
  wpAny (model X.prog X.w) X.A (newList []) (fun acc s₃ => wpAny (model X.prog X.w) X.A (newFunctionEnv scope X.env.globals (yV X.env.cells scope.names []) [] X.env.qual none .none (some X.env)) (fun cenv s₄ =>
   codeAny (model X.prog X.w) X.A (.compStart (.ListComp elt [⟨.Tuple [.Name x1 px1, .Name x2 px2] kx px, iter, ifs, 0⟩] scope pos) 0 itv acc { cenv with scope := relabel scope X.env }) (RR acc cenv.locals) s₄) E s₃) E s₂ := by
 obtain ⟨it, fp, tn, J, H2, e, I2, T, st2, f2, hw⟩ := hp
 subst e
 unfold xc5 at hw
 refine wpAny_newObj_type (wpAny_newFunctionEnv B.nocell (by intro y hy; simp at hy) (fun h₁ hns₁ hsb₁ => ?_) B.kind)
 dsimp only at hns₁ hsb₁ ⊢
 generalize hG : s₂.heap.push { cls := .type "list", dict := none, data := .seq ([] : List Value).toArray } = G at hns₁ hsb₁ ⊢
 have hsz : G.objs.size = s₂.heap.objs.size + 1 := by rw [← hG, Heap.size_push]
 have hCle : s₂.heap.objs.size ≤ G.objs.size := by omega
 have hDC : s₂.heap.objs.size ≠ G.objs.size := by omega
 have old : ∀ b o, s₂.heap.get? b = some o → h₁.get? b = some o := fun b o q => by
  have lt := Heap.lt_size q
  refine hsb₁.extBut b o (Nat.ne_of_lt (Nat.lt_of_lt_of_le lt hCle)) (Heap.get?_push_of_some _ ?_)
  rw [← hG]; exact Heap.get?_push_of_some _ q
 have accAt : h₁.get? s₂.heap.objs.size = some { cls := .type "list", data := .seq ([] : List Value).toArray } := by
  refine hsb₁.extBut _ _ hDC (Heap.get?_push_of_some _ ?_)
  rw [← hG]; exact Heap.get?_push_size _ rfl
 have hfp : ∀ b ∈ fp, b < s₂.heap.objs.size := fun b hb => by
  obtain ⟨o, ho, _⟩ := T.obj _ _ st2 b hb
  exact Heap.lt_size ho
 obtain ⟨W, ⟨m0, w0⟩, turn⟩ := hw s₂.heap.objs.size (I2.hok.fresh (Nat.le_refl _))
 generalize htk : s₂.toks + ([] : List (Str × Value)).length = tk
 have I0 := B.start (tk := tk) (C := G.objs.size) I2 f2 (Nat.le_refl _) hCle hDC old ⟨_, hns₁⟩ accAt hfp
 have st0 : tn 0 h₁ := T.keep _ _ _ st2 fun b hb o q => old b o q
 -- what stays true of the iterator's objects
 have f3 : ∀ {H' : Hp}, (∀ b ∈ fp, H' b = none) → ∀ b ∈ fp, xaY (X.blk scope G.objs.size (x1 :: x2 :: ys) s₂ H2 fp) [] H' b := fun hn b hb => by
  obtain ⟨f0, f1, f2', f3', f4, f5⟩ := f2 b hb
  refine ⟨hn b hb, Nat.ne_of_lt (Nat.lt_of_lt_of_le (hfp b hb) hCle), fun hs => ?_, .inl hb, fun z c q => f4 z c (B.sub I2.ok q), fun p hp => absurd (show p ∈ ([] : List (Addr × Obj)) from hp) (by simp)⟩
  rcases List.mem_cons.mp (I2.stkSub b hs) with q | q
  ·exact f1 q
  ·exact f2' q
 have n0 : ∀ b ∈ fp, upd H2 s₂.heap.objs.size (.lst []) b = none := fun b hb => by
  rw [xn (Nat.ne_of_lt (hfp b hb))]; exact (f2 b hb).1
 have loop : ∀ sx : Shared, sx = { s₂ with heap := h₁, toks := tk } →
   codeAny (model X.prog X.w) X.A (.compLoop (.ListComp elt [⟨.Tuple [.Name x1 px1, .Name x2 px2] kx px, iter, ifs, 0⟩] scope pos) 0 (.ref it) (.ref s₂.heap.objs.size) (compEnvC scope (yV X.env.cells scope.names []) G.objs.size X.env)) (RR (.ref s₂.heap.objs.size) G.objs.size) sx := by
  rintro sx rfl
  refine xgd (fun n s' => ∃ i acc H', Inv (X.blk scope G.objs.size (x1 :: x2 :: ys) s₂ H2 fp) [] (none :: none :: uI σ cap) H' s' ∧ tn i s'.heap ∧ (∀ b ∈ fp, H' b = none) ∧ W i n acc H') ?_ m0 ⟨0, [], _, I0, st0, n0, w0⟩
  rintro n s3 ⟨i, acc, H3, I3, st3, fr3, w3⟩
  obtain ⟨hD3, alt⟩ := turn i n acc H3 w3
  rcases alt with ⟨stop, q⟩ | ⟨go, hlen, step⟩
  ·refine wpAny_mono (T.done (X.blk scope G.objs.size (x1 :: x2 :: ys) s₂ H2 fp) rfl rfl rfl hc i [] s3 _ H3 (fun _ _ => False) I3 (f3 fr3) st3 stop) (fun r s4 ⟨hr, I4⟩ => ?_) fun _ _ z => z.elim
   subst hr
   obtain ⟨g1, g2, g3, g4, g5⟩ := uM.far I2 hCle I4
   obtain ⟨m4, hm4, _⟩ := I4.loc
   exact hR _ _ H3 s4 (B.back I2 f2 I4) ⟨m4, hm4⟩ g1 g2 g3 g4 g5 q
  ·refine wpAny_mono (T.item (X.blk scope G.objs.size (x1 :: x2 :: ys) s₂ H2 fp) rfl rfl rfl hc i [] s3 _ H3 (fun _ _ => False) I3 (f3 fr3) st3 go) (fun r s4 ⟨u, hr, h4⟩ => ?_) fun _ _ z => z.elim
   subst hr
   refine wpAny_mono h4 (fun _ s4 ⟨v, H4, I4, rv, y4, st4, fr4⟩ => ?_) fun _ _ z => z.elim
   have I4' := I4.pinned (f3 fr4) (T.obj _ _ st4)
   obtain ⟨Tt, v1, v2, ev, hT4, step⟩ := step v H4 y4
   have G0 : PG (X.blk scope G.objs.size (x1 :: x2 :: ys) s₂ H2 fp) (.Tuple [.Name x1 px1, .Name x2 px2] kx px) (xoF X.K 2 (xkc (xeP 0) (xkc (xeP 1) xoE))) :=
    xb6 hc (yE (xM (i := 0) B.nd rfl (.inl (lookup_relabel_local B.lx1)) (.inr (lookup_relabel_local B.lx1))) (yE (xM (i := 1) B.nd rfl (.inl (lookup_relabel_local B.lx2)) (.inr (lookup_relabel_local B.lx2))) xaX))
   refine wpAny_mono (G0 _ s4 _ H4 v u (fun σ5 H5 => σ5 = some v1 :: some v2 :: uI σ cap ∧ H4 = H5) I4' rv ⟨Tt, [v1, v2], ev, hT4, rfl, ⟨v1, _, rfl, v2, _, rfl, ⟨rfl, rfl, rfl⟩⟩⟩) (fun _ s5 z5 => ?_) fun _ _ z => z.elim
   obtain ⟨σ5, H5, I5, e5, e6⟩ := z5
   subst e5 e6
   have I5' : Inv (X.blk scope G.objs.size (x1 :: x2 :: ys) s₂ H2 fp) ([] ++ jI fp s4.heap) (some v1 :: some v2 :: uI σ cap) H4 s5 := I5
   refine wpAny_mono (ht _ _ _ _ _ s5 _ H4 _ I5' step) (fun ok s6 ⟨H6, I6, q6⟩ => ?_) fun _ _ z => z.elim
   have pinned : ∀ {σ7 : St} {H7 : Hp} {s7 : Shared}, Inv (X.blk scope G.objs.size (x1 :: x2 :: ys) s₂ H2 fp) ([] ++ jI fp s4.heap) σ7 H7 s7 → tn (i + 1) s7.heap ∧ ∀ b ∈ fp, H7 b = none := fun {σ7 H7 s7} I7 => by
    refine ⟨T.keep _ _ _ st4 fun b hb o e => (I7.pin (b, o) (List.mem_append_right _ (List.mem_append_right _ (jm hb e)))).1, fun b hb => ?_⟩
    obtain ⟨o, e, d⟩ := T.obj _ _ st4 b hb
    exact (I7.pin (b, o) (List.mem_append_right _ (List.mem_append_right _ (jm hb e)))).2.1
   have weak : ∀ {H7 : Hp} {s7 : Shared}, Inv (X.blk scope G.objs.size (x1 :: x2 :: ys) s₂ H2 fp) ([] ++ jI fp s4.heap) (some v1 :: some v2 :: uI σ cap) H7 s7 → Inv (X.blk scope G.objs.size (x1 :: x2 :: ys) s₂ H2 fp) [] (none :: none :: uI σ cap) H7 s7 := fun I7 =>
    (I7.unpinned (pins := [])).weak rfl fun j z e => by
     cases j with
     | zero => simp at e
     | succ j =>
      cases j with
      | zero => simp at e
      | succ j => simpa using e
   cases ok with
   | false =>
    rw [if_neg Bool.false_ne_true]
    obtain ⟨m', hm', w'⟩ := q6.2 rfl
    exact ⟨m', hm', i + 1, acc, H6, weak I6, (pinned I6).1, (pinned I6).2, w'⟩
   | true =>
    rw [if_pos rfl]
    refine wpAny_mono (he _ _ _ _ _ s6 _ H6 _ I6 (q6.1 rfl)) (fun y s7 ⟨z, H7, I7, rz, hD7, m', hm', w'⟩ => ?_) fun _ _ z => z.elim
    refine wpAny_mono (uU (X := X.blk scope G.objs.size (x1 :: x2 :: ys) s₂ H2 fp) _ s7 _ H7 (.ref s₂.heap.objs.size) [z] (.ref s₂.heap.objs.size) [y] (fun _ H8 => H8 = upd H7 s₂.heap.objs.size (.lst (acc ++ [z]))) I7 rfl (.cons rz .nil) ⟨_, acc, z, rfl, rfl, hD7, hlen, rfl⟩) (fun _ s8 ⟨_, H8, I8, _, e8⟩ => ?_) fun _ _ z => z.elim
    subst e8
    exact ⟨m', hm', i + 1, _, _, weak I8, (pinned I8).1, (pinned I8).2, w'⟩
 exact codeAny_compStart_list (loop _ rfl) (T.self _ 0 _ _ _ st0 (loop _ rfl))
theorem xmD (B : uM X scope x1 x2 cap ys) (hc : X.calm = true) (hi : PI X (.Tuple [.Name x1 px1, .Name x2 px2] kx px) iter wi) (he : ∀ C s H fp, PE (X.blk scope C (x1 :: x2 :: ys) s H fp) elt te) (ht : ∀ C s H fp, CTs (X.blk scope C (x1 :: x2 :: ys) s H fp) ifs tt)
  (hs : ∀ x, foldedSetIterable iter X.env x = pure x := by intro _; rfl) : PE X (.ListComp elt [⟨.Tuple [.Name x1 px1, .Name x2 px2] kx px, iter, ifs, 0⟩] scope pos) (xo8 X.K cap wi tt te) := by
 intro pins s σ H Q I h
 rw [eval_ListComp]
 refine wpAny_comprehension_free (use := none) rfl hs (xbM (B.clos I.ok)) B.kind B.locs ?_
 refine thn (hi pins s σ H _ I h) fun v s1 h1 => thn h1 fun itv s2 h2 => ?_
 refine xjb (Q := Q) (RR := fun acc C => compPost (model X.prog X.w) X.A X.xe none (EP X pins σ Q) acc C) B hc he ht h2 ?_
 rintro D C H' s' J ⟨m, hm⟩ g1 g2 g3 g4 g5 q
 exact ⟨m, hm, fun h' sb => ⟨.ref D, H', J.turned (t' := s'.toks) (fun b o hb e => (sb.2 b hb).trans e) g1 g2 (.inr g3) g4 g5, rfl, q⟩⟩
end
end L2
namespace L2
open PySem PySem.Spec PyProof.Rows
theorem xcU {α β : Type} {F : α → β → Prop} : ∀ {as : List α} {bs : List β} {i : Nat} {a : α}, Paired F as bs → as[i]? = some a → ∃ b, bs[i]? = some b ∧ F a b
 | _, _, i, b, .nil, h => by simp at h
 | _, _, 0, b, .cons x xs, h => by simp at h; subst h; exact ⟨_, rfl, x⟩
 | _, _, i + 1, b, .cons x xs, h => by obtain ⟨a, h1, h2⟩ := xcU (i := i) xs (by simpa using h); exact ⟨a, by simpa using h1, h2⟩
def del (H : Hp) (D : Addr) : Hp := fun b => if b = D then none else H b
theorem vV {H : Hp} {D : Addr} : del H D D = none := by unfold del; rw [if_pos rfl]
theorem xbt {H : Hp} {D b : Addr} (h : b ≠ D) : del H D b = H b := by unfold del; rw [if_neg h]
theorem vW {H : Hp} {D : Addr} : xc (del H D) H := fun b u e => by
 by_cases h : b = D
 ·rw [h, vV] at e; cases e
 ·rw [xbt h] at e; exact e
theorem ue {H : Hp} {D : Addr} {o : HO} : del (upd H D o) D = del H D := by
 funext b
 by_cases h : b = D
 ·rw [h, vV, vV]
 ·rw [xbt h, xbt h, xn h]
theorem xa3 {H : Hp} {D : Addr} (h : H D = none) : del H D = H := by
 funext b
 by_cases e : b = D
 ·rw [e, vV, h]
 ·rw [xbt e]
theorem xa4 {H H' : Hp} {D : Addr} (s : xc H H') : xc (del H D) (del H' D) := fun b u e => by
 by_cases h : b = D
 ·rw [h, vV] at e; cases e
 ·rw [xbt h] at e ⊢; exact s b u e
theorem vX {lo st : Int} {n : Nat} {te : TE} {caps : L2.St} {Q : VK} {H2 : Hp} (Pv : Nat → List V → Hp → Prop) (hn : n ≤ sizeLine) (h0 : Pv 0 [] H2)
  (hs : ∀ (i : Nat) acc H3 H3', i < n → xc H2 H3 → xc H3 H3' → Pv i acc H3 → ∀ R : VK, (∀ u H6', xc H3' H6' → (∀ H6, xc H3 H6 → (∀ p o, (H3' p = none ∨ ∀ ys, o ≠ HO.lst ys) → H6' p = some o → H6 p = some o) → Pv (i + 1) (acc ++ [u]) H6) → R u H6') → te (some (.int (lo + i * st)) :: caps) H3' R)
  (hd : ∀ D acc H H', H2 D = none → H D = none → xc H2 H → xc H H' → Pv n acc H → acc.length = n → H' D = some (.lst acc) → Q (.ref D) H') : uL (Its lo st n) caps xgT te Q H2 := by
 unfold uL
 intro D hD
 refine ⟨fun i m acc H3 => m = n - i ∧ i ≤ n ∧ acc.length = i ∧ H3 D = some (.lst acc) ∧ xc H2 (del H3 D) ∧ Pv i acc (del H3 D), ⟨n, by simp, Nat.zero_le _, rfl, xo, ?_, ?_⟩, ?_⟩
 ·rw [ue, xa3 hD]; exact xc.refl _
 ·rw [ue, xa3 hD]; exact h0
 rintro i m acc H3 ⟨rfl, hi, hacc, hD3, s3, p3⟩
 refine ⟨hD3, ?_⟩
 by_cases hlt : i < n
 ·refine .inr ⟨hlt, by omega, fun v H4 y => ?_⟩
  obtain ⟨e, y⟩ := y
  subst e y
  refine ⟨fun _ => ?_, fun z => by cases z⟩
  refine hs i acc _ _ hlt s3 vW p3 _ fun u H6' s6 k => ⟨s6.at hD3, n - (i + 1), by omega, rfl, hlt, by simp [hacc], xo, ?_, ?_⟩
  ·rw [ue]; exact s3.trans (xa4 s6)
  ·rw [ue]
   refine k _ (xa4 s6) fun p o q1 q2 => ?_
   rw [xbt (fun z => by
    rcases q1 with q1 | q1
    ·rw [z, hD3] at q1; cases q1
    ·rw [z, s6.at hD3] at q2; cases q2; exact q1 _ rfl)]
   exact q2
 ·have e : i = n := by omega
  subst e
  exact .inl ⟨Nat.le_refl _, hd D acc _ H3 hD vV s3 vW p3 hacc hD3⟩
theorem xkx {K : W.Frag} {l : Addr} {xs : List V} {te : TE} {caps : L2.St} {Q : VK} {H2 : Hp} (Pv : Nat → List V → Hp → Prop) (hl : SqL K H2 l xs) (hn : xs.length ≤ sizeLine) (h0 : Pv 0 [] H2)
  (hs : ∀ (i : Nat) x acc H3 H3', xs[i]? = some x → xc H2 H3 → xc H3 H3' → Pv i acc H3 → ∀ R : VK, (∀ u H6', xc H3' H6' → (∀ H6, xc H3 H6 → (∀ p o, (H3' p = none ∨ ∀ ys, o ≠ HO.lst ys) → H6' p = some o → H6 p = some o) → Pv (i + 1) (acc ++ [u]) H6) → R u H6') → te (some x :: caps) H3' R)
  (hd : ∀ D acc H H', H2 D = none → H D = none → xc H2 H → xc H H' → Pv xs.length acc H → acc.length = xs.length → H' D = some (.lst acc) → Q (.ref D) H') : uL (Itl K l) caps xgT te Q H2 := by
 unfold uL
 intro D hD
 refine ⟨fun i m acc H3 => m = xs.length - i ∧ i ≤ xs.length ∧ acc.length = i ∧ H3 D = some (.lst acc) ∧ xc H2 (del H3 D) ∧ Pv i acc (del H3 D), ⟨xs.length, by simp, Nat.zero_le _, rfl, xo, ?_, ?_⟩, ?_⟩
 ·rw [ue, xa3 hD]; exact xc.refl _
 ·rw [ue, xa3 hD]; exact h0
 rintro i m acc H3 ⟨rfl, hi, hacc, hD3, s3, p3⟩
 refine ⟨hD3, ?_⟩
 have q := (s3.trans vW).seq hl
 by_cases hlt : i < xs.length
 ·have hx : xs[i]? = some xs[i] := List.getElem?_eq_getElem hlt
  refine .inr ⟨⟨xs, xs[i], q, hx⟩, by omega, fun v H4 y => ?_⟩
  obtain ⟨e, y⟩ := y
  have ev := y xs q
  rw [hx] at ev
  cases ev
  subst e
  refine ⟨fun _ => ?_, fun z => by cases z⟩
  refine hs i _ acc _ _ hx s3 vW p3 _ fun u H6' s6 k => ⟨s6.at hD3, xs.length - (i + 1), by omega, rfl, hlt, by simp [hacc], xo, ?_, ?_⟩
  ·rw [ue]; exact s3.trans (xa4 s6)
  ·rw [ue]
   refine k _ (xa4 s6) fun p o q1 q2 => ?_
   rw [xbt (fun z => by
    rcases q1 with q1 | q1
    ·rw [z, hD3] at q1; cases q1
    ·rw [z, s6.at hD3] at q2; cases q2; exact q1 _ rfl)]
   exact q2
 ·have e : i = xs.length := by omega
  subst e
  exact .inl ⟨⟨xs, q, Nat.le_refl _⟩, hd D acc _ H3 hD vV s3 vW p3 hacc hD3⟩
theorem xhx {K : W.Frag} {l : Addr} {xs : List V} {te : TE} {caps : L2.St} {Q : VK} {H2 : Hp} (Pv : Nat → List V → Hp → Prop) (hl : SqT K H2 l xs) (hn : xs.length ≤ sizeLine) (h0 : Pv 0 [] H2)
  (hs : ∀ (i : Nat) x acc H3 H3', xs[i]? = some x → xc H2 H3 → xc H3 H3' → Pv i acc H3 → ∀ R : VK, (∀ u H6', xc H3' H6' → (∀ H6, xc H3 H6 → (∀ p o, (H3' p = none ∨ ∀ ys, o ≠ HO.lst ys) → H6' p = some o → H6 p = some o) → Pv (i + 1) (acc ++ [u]) H6) → R u H6') → te (some x :: caps) H3' R)
  (hd : ∀ D acc H H', H2 D = none → H D = none → xc H2 H → xc H H' → Pv xs.length acc H → acc.length = xs.length → H' D = some (.lst acc) → Q (.ref D) H') : uL (Itt K l) caps xgT te Q H2 := by
 unfold uL
 intro D hD
 refine ⟨fun i m acc H3 => m = xs.length - i ∧ i ≤ xs.length ∧ acc.length = i ∧ H3 D = some (.lst acc) ∧ xc H2 (del H3 D) ∧ Pv i acc (del H3 D), ⟨xs.length, by simp, Nat.zero_le _, rfl, xo, ?_, ?_⟩, ?_⟩
 ·rw [ue, xa3 hD]; exact xc.refl _
 ·rw [ue, xa3 hD]; exact h0
 rintro i m acc H3 ⟨rfl, hi, hacc, hD3, s3, p3⟩
 refine ⟨hD3, ?_⟩
 have q := (s3.trans vW).seqT hl
 by_cases hlt : i < xs.length
 ·have hx : xs[i]? = some xs[i] := List.getElem?_eq_getElem hlt
  refine .inr ⟨⟨xs, xs[i], q, hx⟩, by omega, fun v H4 y => ?_⟩
  obtain ⟨e, y⟩ := y
  have ev := y xs q
  rw [hx] at ev
  cases ev
  subst e
  refine ⟨fun _ => ?_, fun z => by cases z⟩
  refine hs i _ acc _ _ hx s3 vW p3 _ fun u H6' s6 k => ⟨s6.at hD3, xs.length - (i + 1), by omega, rfl, hlt, by simp [hacc], xo, ?_, ?_⟩
  ·rw [ue]; exact s3.trans (xa4 s6)
  ·rw [ue]
   refine k _ (xa4 s6) fun p o q1 q2 => ?_
   rw [xbt (fun z => by
    rcases q1 with q1 | q1
    ·rw [z, hD3] at q1; cases q1
    ·rw [z, s6.at hD3] at q2; cases q2; exact q1 _ rfl)]
   exact q2
 ·have e : i = xs.length := by omega
  subst e
  exact .inl ⟨⟨xs, q, Nat.le_refl _⟩, hd D acc _ H3 hD vV s3 vW p3 hacc hD3⟩
theorem xdC {K : W.Frag} {l : Addr} {xs : List V} {tt : TT} {te : TE} {caps : L2.St} {Q : VK} {H2 : Hp} (p : V → Bool) (f : V → V) (hl : SqL K H2 l xs) (hn : xs.length < sizeLine)
  (ht : ∀ (x : V) (H3 : Hp), x ∈ xs → xc H2 H3 → ∀ R : Bool → Hp → Prop, (∀ H6, xc H3 H6 → R (p x) H6) → tt (some x :: caps) H3 R)
  (hs : ∀ (x : V) (H3 : Hp), x ∈ xs → p x = true → xc H2 H3 → ∀ R : VK, (∀ H6, xc H3 H6 → R (f x) H6) → te (some x :: caps) H3 R)
  (hd : ∀ D H', H2 D = none → xc H2 H' → H' D = some (.lst ((xs.filter p).map f)) → Q (.ref D) H') : uL (Itl K l) caps tt te Q H2 := by
 unfold uL
 intro D hD
 refine ⟨fun i m acc H3 => m = xs.length - i ∧ i ≤ xs.length ∧ acc = ((xs.take i).filter p).map f ∧ H3 D = some (.lst acc) ∧ xc H2 H3, ⟨xs.length, by simp, Nat.zero_le _, rfl, xo, xc.new hD⟩, ?_⟩
 rintro i m acc H3 ⟨rfl, hi, rfl, hD3, s3⟩
 refine ⟨hD3, ?_⟩
 have q := s3.seq hl
 by_cases hlt : i < xs.length
 ·have hx : xs[i]? = some xs[i] := List.getElem?_eq_getElem hlt
  have hle : (((xs.take i).filter p).map f).length < sizeLine := by
   rw [List.length_map]
   refine Nat.lt_of_le_of_lt (List.length_filter_le _ _) ?_
   rw [List.length_take]; omega
  have et : xs.take (i + 1) = xs.take i ++ [xs[i]] := by rw [List.take_succ, hx]; rfl
  refine .inr ⟨⟨xs, xs[i], q, hx⟩, hle, fun v H4 y => ?_⟩
  obtain ⟨e, y⟩ := y
  have ev := y xs q
  rw [hx] at ev
  cases ev
  subst e
  refine ht _ _ (List.getElem_mem hlt) s3 _ fun H5 s5 => ⟨fun hp => ?_, fun hp => ?_⟩
  ·refine hs _ _ (List.getElem_mem hlt) hp (s3.trans s5) _ fun H6 s6 => ⟨s6.at (s5.at hD3), xs.length - (i + 1), by omega, rfl, hlt, ?_, xo, (s3.trans (s5.trans s6)).put hD⟩
   rw [et, List.filter_append, List.map_append]
   simp [hp]
  ·refine ⟨xs.length - (i + 1), by omega, rfl, hlt, ?_, s5.at hD3, s3.trans s5⟩
   rw [et, List.filter_append, List.map_append]
   simp [hp]
 ·have e : i = xs.length := by omega
  subst e
  rw [List.take_length] at hD3 ⊢
  exact .inl ⟨⟨xs, q, Nat.le_refl _⟩, hd D H3 hD s3 hD3⟩
end L2
namespace L2
open PySem PySem.Spec PyProof.Rows
section
variable {X : Cx} {K : W.Frag}
theorem xmE (e : X.K = K) : IxR X (xoR K) := e ▸ zq
theorem xjM (e : X.K = K) : IxR X (xoS K) := e ▸ xD
theorem xqk (e : X.K = K) : SlR X (xoT K) := e ▸ xc3
theorem xqt (e : X.K = K) : zp X (.builtin "isinstance") (xo0 K) := e ▸ vU
theorem xqu (e : X.K = K) (hu : X.A.units + 64 < cLine) : OpR X (compareOp .NotEq) (xmx K fun b => !b) := e ▸ xgf hu
end
end L2
namespace L2
open PySem PySem.Spec PyProof.Rows
theorem xhy (es : List Int) (lo hi : Option Int) : xcS (es.map V.int) lo hi = ((es.drop (HT.sIx es.length 0 lo)).take (HT.sIx es.length es.length hi - HT.sIx es.length 0 lo)).map V.int := by
 unfold xcS
 rw [List.length_map, ← List.map_drop, ← List.map_take]
end L2
namespace L2
open PySem PySem.Spec PyProof.Rows
theorem xip {n d : Nat} {i : Int} (h0 : 0 ≤ i) : HT.sIx n d (some i) = min i.toNat n := by
 show (if i < 0 then (i + (n : Int)).toNat else min i.toNat n) = _
 rw [if_neg (by omega)]
end L2
namespace L2
open PySem PySem.Spec PyProof.Rows
section
variable {X : Cx}
end
def xn0 : Stmt → List Stmt
 | .For _ _ b _ _ => b
 | _ => []
def xo9 : Stmt → Expr
 | .Assign _ v _ => v
 | _ => .Constant .none 0 ⟨0, 0, 0, 0⟩
def xc6 (i : Nat) : Expr → Expr
 | .Call _ as _ _ => as.getD i (.Constant .none 0 ⟨0, 0, 0, 0⟩)
 | _ => .Constant .none 0 ⟨0, 0, 0, 0⟩
def xai : Expr → Arguments
 | .Lambda a _ _ _ => a
 | _ => xj (.Pass ⟨0, 0, 0, 0⟩)
def xaj : Expr → Expr
 | .Lambda _ b _ _ => b
 | e => e
def zA : Expr → Scope
 | .Lambda _ _ s _ => s
 | _ => xb (.Pass ⟨0, 0, 0, 0⟩)
theorem xem {xs : List Int} {x v : Int} (h0 : 0 ≤ x) (h : xs[x.toNat]? = some v) : atI (xs.map V.int) x = some (.int v) := by
 have := xag (xs := xs.map V.int) (j := x.toNat) (v := .int v) (by rw [List.getElem?_map, h]; rfl)
 rwa [Int.toNat_of_nonneg h0] at this
theorem xgk {n : Nat} {x : Int} (h0 : 0 ≤ x) (h : x < n) : ixN n x = some x.toNat := by
 unfold ixN
 rw [if_pos h0, if_pos h]
end L2
namespace PySem
open Sem (wp)
open PyProof.Rows
namespace F
end F
section
variable {prog : Program} {w : World} {A : Around} {E : Value → Shared → Prop} {s : Shared}
end
end PySem
namespace L2
open PySem PySem.Spec PyProof.Rows
section
variable {X : Cx}
end
end L2
namespace L2
open PySem PySem.Spec PyProof.Rows
section
variable {X : Cx} {K : W.Frag}
theorem xpS : OpR X (binaryOp .RShift) (kI (fun _ j => 0 ≤ j) fun i j => .int (i / 2 ^ j.toNat)) := xoO.imp fun _ _ _ _ => xeh
end
end L2
namespace L2
open PySem PySem.Spec PyProof.Rows
theorem xdD {X : Cx} {sts : List Stmt} : PSs X sts (fun _ _ _ => False) := fun _ _ _ _ _ _ q => q.elim
theorem xjc {c : TT} {tb : TS} {D : Ends} {σ : St} {H : Hp} (Pv : Nat → St → Hp → Prop) {m : Nat} (h0 : Pv m σ H)
  (hs : ∀ m σ H, Pv m σ H → c σ H fun b H1 => (b = true → ∃ N : St → Hp → Prop, (∀ σ' H', N σ' H' → ∃ m', m' < m ∧ Pv m' σ' H') ∧ tb { D with nx := N, ct := N, bk := D.nx } σ H1) ∧ (b = false → D.nx σ H1)) : xeZ c tb D σ H := by
 unfold xeZ
 exact ⟨Pv, ⟨m, h0⟩, hs⟩
end L2
namespace L2
open PySem PySem.Spec PyProof.Rows PySem.W
def xpa : Option (Int × Tok) → Array Value
 | none => #[]
 | some (m, t) => #[.int m t, .int m t]
def xpT (f : Nat → Int) (j : Nat) : Option (Int × Tok) → Prop
 | none => j = 0
 | some (m, _) => (∃ i, i < j ∧ f i = m) ∧ ∀ i, i < j → f i ≤ m
def xlJ (f : Nat → Int) (n : Nat) (d v : Value) : Prop := (n = 0 → v = d) ∧ (0 < n → ∃ m t, v = .int m t ∧ (∃ i, i < n ∧ f i = m) ∧ ∀ i, i < n → f i ≤ m)
theorem xmF (a v : Value) : argsOk "max" ⟨[a], [(Str.ofString "default", v)]⟩ := by unfold argsOk; kernel_rfl
section
variable {prog : Program} {w : World} {A : Around} {R : Result → Shared → Prop} {I : Addr} {fp wr : List Addr} {n : Nat} {P : Nat → Value → Prop} {St : Nat → Heap → Prop}
theorem xdE (W : Walks prog w A.in1 I fp wr n P St) (f : Nat → Int) (hP : ∀ i v, P i v → ∃ t, v = .int (f i) t) (S : Addr) (hSf : S ∉ fp) (d : Value) : ∀ (k j : Nat) (s : Shared) (b : Option (Int × Tok)) (c : Nat), n - j = k → j ≤ n → St j s.heap →
  s.heap.get? S = some { cls := .type "list", dict := none, data := .seq (xpa b) c, slots := #[] } → xpT f j b →
  (∀ v h' tk, xlJ f n d v → (∀ b o, b ∉ wr → b ≠ S → s.heap.get? b = some o → h'.get? b = some o) → R (.ok (.ret v)) { s with heap := h', toks := tk }) →
  codeAny (model prog w) A (.builtin "max.loop" ⟨[.ref I, .none, .ref S], [(Str.ofString "default", d)]⟩) R s
 | 0, j, s, b, c, hk, hj, hst, hS, hb, hR => by
  have hin : j = n := by omega
  subst hin
  have hSw : S ∉ wr := fun h => hSf (W.sub _ h)
  refine codeAny_builtin F.entry_max_loop ?_
  rw [Around.under_plainId F.plain_max_loop _]
  show wpAny _ A.in1 (seqItems? (.ref S) >>= _) _ _ s
  refine wpAny_bind (wpAny_seqItems hS rfl ?_)
  show wpAny _ A.in1 (tryCatch (pyNext (.ref I)) _ >>= _) _ _ s
  refine wpAny_bind (wpAny_tryCatch (W.done s _ _ hst fun h' tk hk' => ?_))
  have hS' := hk' S _ hSw hS
  cases b with
  | none =>
   cases hb
   exact wpAny_bind (m := rule _) (wpAny_rule (wpAny_pure (hR d _ tk ⟨fun _ => rfl, fun q => absurd q (Nat.lt_irrefl _)⟩ fun b o hbw _ e => hk' b o hbw e)))
  | some p =>
   obtain ⟨m, t⟩ := p
   show wpAny _ A.in1 (updateSeq S (fun _ => #[]) >>= _) _ _ _
   refine wpAny_bind (wpAny_updateSeq hS' rfl (wpAny_bind (wpAny_letGo (wpAny_pure ?_))) (by show (2 : Nat) ≤ _; decide))
   refine hR _ _ tk ⟨fun q => ?_, fun _ => ⟨m, t, rfl, hb⟩⟩ fun b o hbw hbS e => (Heap.get?_update_other _ _ (Ne.symm hbS)).trans (hk' b o hbw e)
   obtain ⟨⟨i, hi, _⟩, _⟩ := hb
   omega
 | k + 1, j, s, b, c, hk, hj, hst, hS, hb, hR => by
  have hlt : j < n := by omega
  have hSw : S ∉ wr := fun h => hSf (W.sub _ h)
  have hname : (toString "max" ++ toString ".loop" : String) = "max.loop" := by decide
  refine codeAny_builtin F.entry_max_loop ?_
  rw [Around.under_plainId F.plain_max_loop _]
  show wpAny _ A.in1 (seqItems? (.ref S) >>= _) _ _ s
  refine wpAny_bind (wpAny_seqItems hS rfl ?_)
  show wpAny _ A.in1 (tryCatch (pyNext (.ref I)) _ >>= _) _ _ s
  refine wpAny_bind (wpAny_tryCatch (W.item j s _ _ hlt hst fun v h' tk hv hst' hk' => ?_))
  have hS' := hk' S _ hSw hS
  obtain ⟨t, rfl⟩ := hP _ _ hv
  have turned : ∀ (g : Array Value → Array Value), (∀ b ∈ fp, ∀ o, h'.get? b = some o → (h'.update S (Obj.mapSeq g)).get? b = some o) := fun g b hbf o e => (Heap.get?_update_other _ _ (fun h : S = b => hSf (by rw [h]; exact hbf))).trans e
  cases b with
  | none =>
   cases hb
   show wpAny _ A.in1 (updateSeq S (fun _ => #[.int (f 0) t, .int (f 0) t]) >>= _) _ _ _
   refine wpAny_bind (wpAny_updateSeq hS' rfl ?_)
   rw [hname]
   refine wpAny_pure ⟨plainId_quiet F.plain_max_loop _, xdE W f hP S hSf d k 1 _ (some (f 0, t)) (c + 1) (by omega) (by omega) (W.frame _ _ _ hst' (turned _)) ?_ ⟨⟨0, by omega, rfl⟩, fun i hi => ?_⟩ fun v' h'' tk'' ho hk'' => ?_⟩
   ·exact (Heap.get?_update_self _ hS' rfl).trans rfl
   ·rw [show i = 0 by omega]; exact Int.le_refl _
   exact hR v' h'' tk'' ho fun b o hbw hbS e => hk'' b o hbw hbS ((Heap.get?_update_other _ _ (Ne.symm hbS)).trans (hk' b o hbw e))
  | some p =>
   obtain ⟨m, u⟩ := p
   obtain ⟨⟨i0, hi0, e0⟩, hle⟩ := hb
   show wpAny _ A.in1 (tryCatch (holding [.int (f j) t, .int (f j) t] (richCompare .Gt (.int (f j) t) (.int m u) >>= _)) _ >>= _) _ _ _
   have hcmp := CmpOf.ints_gt (prog := prog) (w := w) (A := A.in1) (P := fun i v => ∃ t, v = .int (if i = 0 then f j else m) t) (fun i => if i = 0 then f j else m) (fun i v e => e)
   refine wpAny_bind (wpAny_tryCatch (wpAny_holding (wpAny_bind (hcmp 0 1 _ _ _ _ _ ⟨t, rfl⟩ ⟨u, rfl⟩ ?_))))
   refine wpAny_bind (wpAny_holding (wpAny_truthy_bool ?_))
   refine wpAny_bind (wpAny_letGo (wpAny_pure ?_))
   by_cases hb : f j > m
   ·show wpAny _ _ (if decide (f j > m) = true then _ else _) _ _ _
    rw [if_pos (decide_eq_true hb)]
    refine wpAny_bind (wpAny_updateSeq hS' rfl (wpAny_bind (wpAny_letGo ?_)) (by show (2 : Nat) ≤ _; decide))
    rw [hname]
    obtain ⟨c', e'⟩ : ∃ c', (h'.update S (Obj.mapSeq fun _ => #[.int (f j) t, .int (f j) t])).get? S = some { cls := .type "list", dict := none, data := .seq #[.int (f j) t, .int (f j) t] c', slots := #[] } := ⟨_, Heap.get?_update_self _ hS' rfl⟩
    refine wpAny_pure ⟨plainId_quiet F.plain_max_loop _, xdE W f hP S hSf d k (j + 1) _ (some (f j, t)) c' (by omega) hlt (W.frame _ _ _ hst' (turned _)) e' ⟨⟨j, by omega, rfl⟩, fun i hi => ?_⟩ fun v' h'' tk'' ho hk'' => ?_⟩
    ·by_cases q : i = j
     ·subst q; exact Int.le_refl _
     ·have := hle i (by omega)
      omega
    ·exact hR v' h'' tk'' ho fun b o hbw hbS e => hk'' b o hbw hbS ((Heap.get?_update_other _ _ (Ne.symm hbS)).trans (hk' b o hbw e))
   ·show wpAny _ _ (if decide (f j > m) = true then _ else _) _ _ _
    rw [if_neg (by rw [decide_eq_false hb]; exact Bool.false_ne_true)]
    refine wpAny_bind (wpAny_letGo ?_)
    rw [hname]
    refine wpAny_pure ⟨plainId_quiet F.plain_max_loop _, xdE W f hP S hSf d k (j + 1) _ (some (m, u)) c (by omega) hlt hst' hS' ⟨⟨i0, by omega, e0⟩, fun i hi => ?_⟩ fun v' h'' tk'' ho hk'' => hR v' h'' tk'' ho fun b o hbw hbS e => hk'' b o hbw hbS (hk' b o hbw e)⟩
    by_cases q : i = j
    ·subst q; omega
    ·exact hle i (by omega)
theorem xmG {E : Value → Shared → Prop} {s : Shared} {l : Addr} {xs : Array (Int × Tok)} {d : Value} {Q : Value → Shared → Prop} (hh : A.handled = none) (hl : s.heap.IsList l (intItems xs))
  (h : ∀ v h' tk, xlJ (numAt xs) xs.size d v → (∀ b o, s.heap.get? b = some o → h'.get? b = some o) → Q v { s with heap := h', toks := tk }) :
  wpAny (model prog w) A (call (.builtin "max") [.ref l] [(Str.ofString "default", d)]) Q E s := by
 have hname : (toString "max" ++ toString ".loop" : String) = "max.loop" := by decide
 refine kmk_tree F.kind_max F.plain_max F.entry_max (xmF _ _) ?_
 show wpAny _ A.in1 (Builtin.Builtins.bindParams "max" ["key", "default"] 0 ⟨[], [(Str.ofString "default", d)]⟩ >>= _) _ _ s
 refine wpAny_bind (wpAny_of_eq (show Builtin.Builtins.bindParams "max" ["key", "default"] 0 ⟨[], [(Str.ofString "default", d)]⟩ = pure [none, some d] from rfl) ?_)
 refine wpAny_bind (wpAny_pure (wpAny_bind (iter_intList hl fun s₂ e st hfp hlI => ?_)))
 subst e
 refine wpAny_bind (wpAny_newObj_type ?_)
 rw [hname]
 have W := Walks.list (prog := prog) (w := w) (A := A.in1) hh s.heap.objs.size l hlI (intItems xs)
 have hsz : (intItems xs).size = xs.size := by simp [intItems]
 refine wpAny_pure ⟨plainId_quiet F.plain_max_loop _, xdE W (numAt xs) (fun i v e => intItems_at e) _ (fun hm => Nat.lt_irrefl _ (hfp _ hm)) d _ 0 _ none 0 rfl (Nat.zero_le _) (W.frame _ _ _ st fun b _ o e => Heap.get?_push_of_some _ e) (Heap.get?_push_size _ rfl) rfl fun v h' tk ho hk => ?_⟩
 rw [hsz] at ho
 exact h v h' tk ho (old_kept fun b o hbw e => hk b o hbw (Nat.ne_of_lt (Heap.lt_size e)) (Heap.get?_push_of_some _ e))
end
section
variable {X : Cx}
def xpU (K : W.Frag) (ta : TA) (tf : TE) : TE := fun σ H Q => ta σ H fun xs H1 => tf σ H1 fun y H2 =>
 ∃ (l : Addr) (ns : List Int) (z : Int), xs = [.ref l] ∧ y = .int z ∧ SqL K H2 l (ns.map V.int) ∧ ∀ m, (ns = [] → m = z) → (ns ≠ [] → m ∈ ns ∧ ∀ a ∈ ns, a ≤ m) → Q (.int m) H2
theorem xn1 {e fe : Expr} {ta : TA} {tf : TE} {p pos kp : Pos} (hc : X.calm = true) (hg : Gl X "max") (hm : X.mg "max" = none) (ha : PA X [e] ta) (hf : PE X fe tf)
  (he : backTo pos (starEach [e] X.env) = (false, eval e X.env) :: backTo pos (starEach [] X.env) := by rfl) :
  PE X (.Call (.Name "max" p) [e] [⟨some "default", fe, kp⟩] pos) (xpU X.K ta tf) := by
 intro pins s σ H Q I h
 refine wpAny_Call_Name_kw (vR I hg hm xek ?_ (by decide) (by decide))
 refine callWith_kw (thn (ha pos pins s σ H _ I h) fun us s1 ⟨xs, H1, I1, r1, q1⟩ => ?_) he (by rw [he]; rfl) rfl rfl
 refine kws_cons (thn (hf pins s1 σ H1 _ I1 q1) fun fu s2 ⟨y, H2, I2, r2, q2⟩ => kws_nil ?_)
 obtain ⟨l, ns, z, rfl, rfl, hl, q⟩ := q2
 obtain ⟨u, rfl, ru⟩ := Vals.one r1
 cases ru
 obtain ⟨tz, rfl⟩ := r2
 obtain ⟨its, r', pl, hz⟩ := I2.list hl
 have hi := intsAre_of r'
 have hL := pl.isList
 have hn := hi.numsOf
 obtain ⟨ys, e⟩ := hi.allInts.items
 rw [e] at hL
 have e2 : numsOf its = numsOf (intItems ys).toList := by rw [← e]
 rw [e2, nums_intItems] at hn
 have hlen := congrArg List.length hn
 rw [List.length_map, Array.length_toList] at hlen
 show wpAny _ _ (call (.builtin "max") [.ref l] [(Str.ofString "default", .int z tz)]) _ _ s2
 refine xmG (I.ok.hd hc) hL fun v h' tk ho hk => ?_
 by_cases hne : ns = []
 ·have h0 : ys.size = 0 := by rw [hlen, hne]; rfl
  have := ho.1 h0
  subst this
  exact ⟨.int z, H2, I2.kept (t' := tk) hk, ⟨tz, rfl⟩, q z (fun _ => rfl) fun x => absurd hne x⟩
 ·have hpos : 0 < ns.length := List.length_pos_iff.mpr hne
  obtain ⟨m, t, rfl, ⟨i, hi', ei⟩, hle⟩ := ho.2 (by omega)
  refine ⟨.int m, H2, I2.kept (t' := tk) hk, ⟨t, rfl⟩, q m (fun x => absurd x hne) fun _ => ⟨?_, fun a ha' => ?_⟩⟩
  ·rw [← hn, ← ei, numAt_eq]; exact getD_mem (by rw [List.length_map, Array.length_toList]; omega)
  ·rw [← hn] at ha'
   obtain ⟨j, hj, rfl⟩ := mem_getD ha'
   rw [List.length_map, Array.length_toList] at hj
   rw [← numAt_eq]; exact hle j hj
def xpV (K : W.Frag) (te : TE) (ts : TO) : TE := fun σ H Q => te σ H fun x H1 => ts σ H1 fun o H2 => ∃ a xs, x = .ref a ∧ o = some (-1) ∧ SqL K H2 a xs ∧ ∀ p, H2 p = none → Q (.ref p) (upd H2 p (.lst xs.reverse))
theorem xjN {e : Expr} {te : TE} {st : Expr} {ts : TO} {pos p2 : Pos} (he : PE X e te) (hs : PO X (some st) ts) : PE X (.Subscript e (.Slice none none (some st) p2) pos) (xpV X.K te ts) := by
 intro pins s σ H Q I h
 refine Subscript_ (thn (he pins s σ H _ I h) fun v s1 ⟨x, H1, I1, r1, q1⟩ => ?_)
 refine wpAny_Slice ?_
 rw [evalPart_none]
 refine wpAny_pure (wpAny_pure (thn (hs pins s1 σ H1 _ I1 q1) fun vk s3 ⟨o, H3, I3, pk, q3⟩ => ?_))
 obtain ⟨a, xs, rfl, rfl, hx, q⟩ := q3
 cases r1
 have I4 : Inv X pins σ H3 { s3 with heap := s3.heap.push { cls := .type "slice", data := .fields #[.none, .none, vk] } } := I3.kept (t' := s3.toks) fun b ob q => Heap.get?_push_of_some _ q
 obtain ⟨its, r, ht, hz⟩ := I4.list hx
 have hlen := r.length
 show wpAny (model X.prog X.w) X.A (subscriptTail e (.Slice none none (some st) p2) (.ref a) (.ref s3.heap.objs.size)) (EP X pins σ Q) X.xe { s3 with heap := s3.heap.push { cls := .type "slice", data := .fields #[.none, .none, vk] } }
 refine tail_any (ops := [.ref a, .ref s3.heap.objs.size]) ht.isList.typeIs slot_list_getitem.lookup ?_ (by with_unfolding_all rfl)
 refine wpAny_getItem_list_slice ht.isList (Heap.IsSliceOf.new ..) .none .none pk (by decide) ?_ (by rw [List.size_toArray] <;> omega)
 rw [krv_pick]
 refine ⟨.ref _, _, I4.laid (t' := s3.toks) (o := .lst xs.reverse) (fun b ob q => Heap.get?_push_of_some _ q) (Nat.le_refl _) ?_, rfl, q _ (I4.hok.fresh (Nat.le_refl _))⟩
 exact ⟨by rw [List.length_reverse]; exact hz, _, 0, r.reverse, Heap.get?_push_size _ rfl⟩
end
end L2
namespace L2
open PySem PySem.Spec PyProof.Rows PySem.W
structure xg0 (K : W.Frag) (x qual : Str) (st : Stmt) (f : Addr) (fd : FuncData) (ds : List Value) : Prop where
 ex : ∃ (oc : Value) (od : Option Addr) (dT : Addr) (o : Obj) (n : Nat) (kV doc pm : Value) (an : Option Addr) (cdv ct : Value) (osl : Array (Option Value)),
  fd = W.fnOf x qual (xj st) (xg st) (xb st) (.ref dT) kV doc pm an cdv ct ∧ K.lookup f = some ⟨oc, od, .func fd, osl⟩ ∧ W.codeIn K cdv qual = true ∧ K.lookup dT = some o ∧ o.data = .seq ds.toArray n
 kp : W.keepIn K (.ref f) = true
section
variable {P : Program} {w : World} {K : W.Frag} {mg : Str → Option Value} {base : Heap}
theorem xg0.ok {x qual : Str} {st : Stmt} {f : Addr} {fd : FuncData} {ds : List Value} {N ps : List Str} {k : Nat} {sp : Sp} (F : xg0 K x qual st f fd ds) (S : xt N ps (xb st)) (len : ∀ vs H Q E, sp vs H Q E → vs.length = ps.length)
  (hbody : ∀ (cdv : Value) (A : Around) (outer : List Env) (s : Shared) (H : Hp) (vs : List V) (Q : VK) (E : XK), xX k (A.deeper (envOfC qual (xb st) s.heap.objs.size f cdv)) → sp vs H Q E →
   ∃ t, PSs (xaZ CX0 P w K mg base N qual (xb st) f cdv A outer s H E).nox (xg st) t ∧ t { nx := fun _ H' => Q .non H', rt := Q } (start N vs) H) : xA P w K mg base CX0 (k + 1) f fd ps sp := by
 obtain ⟨oc, od, dT, o, n, kV, doc, pm, an, cdv, ct, osl, rfl, lk, hcd, _⟩ := F.ex
 refine xh9 lk hcd S len fun A outer s H vs Q E hr hsp => ?_
 obtain ⟨t, h, q⟩ := hbody cdv A outer s H vs Q E hr hsp
 exact ⟨t, h.nox, q⟩
theorem xg0.binds {x qual : Str} {st : Stmt} {f : Addr} {fd : FuncData} {ps : List Str} {ds es : List Value} (F : xg0 K x qual st f fd ds) (n : Nat) (hn : n + es.length = ps.length)
  (h : ∀ (dT : Addr) (kV doc pm : Value) (an : Option Addr) (cdv ct : Value) (us : List Value), us.length = n →
   ∃ k : Option (Array Value) → Sem (List (Str × Value)), bindArgs (W.fnOf x qual (xj st) (xg st) (xb st) (.ref dT) kV doc pm an cdv ct) ⟨us, []⟩ = seqItems? (.ref dT) >>= k ∧ k (some ds.toArray) = pure (ps.zip (us ++ es))) : Binds K fd ps es := by
 obtain ⟨oc, od, dT, o, n, kV, doc, pm, an, cdv, ct, osl, rfl, lk, hcd, ho, hs⟩ := F.ex
 intro s us X hl
 obtain ⟨k, h1, h2⟩ := h dT kV doc pm an cdv ct us (by rw [List.length_append] at hl; omega)
 exact binds_K X rfl ho hs h1 h2
theorem xn2 {x qual : Str} {st : Stmt} {f dT : Addr} {oc : Value} {od an dod : Option Addr} {osl dsl : Array (Option Value)} {kV doc pm cdv ct dc : Value} {ds : List Value} {n : Nat} (l : K.lookup f = some ⟨oc, od, .func (W.fnOf x qual (xj st) (xg st) (xb st) (.ref dT) kV doc pm an cdv ct), osl⟩)
  (c : W.codeIn K cdv qual = true) (k : W.keepIn K (.ref f) = true) (d : K.lookup dT = some ⟨dc, dod, .seq ds.toArray n, dsl⟩) : xg0 K x qual st f (W.fnOf x qual (xj st) (xg st) (xb st) (.ref dT) kV doc pm an cdv ct) ds :=
 ⟨⟨oc, od, dT, _, n, kV, doc, pm, an, cdv, ct, osl, rfl, l, c, d, rfl⟩, k⟩
end
end L2
namespace L2
open PySem PySem.Spec PyProof.Rows
def Nu (X : Cx) (H : Hp) (b : Addr) : Prop := H b = none ∧ X.s₀.heap.get? b = none ∧ ∀ p ∈ X.pn, p.1 ≠ b
def xql (X : Cx) (H : Hp) (h : Heap) (a : Addr) (cls : Value) (dx : Option Addr) : Prop :=
 ∃ oe vs a0, h.get? a = some oe ∧ oe.cls = cls ∧ oe.dict = dx ∧ oe.data = .fields vs ∧ vs[0]? = some a0 ∧ vs[1]? = some .none ∧ Nu X H a
def xfS (X : Cx) (fl : Value) (H : Hp) (h : Heap) (a : Addr) (cls : Value) (dx : Option Addr) : Prop :=
 ∃ oe vs a0 T oT ts, h.get? a = some oe ∧ oe.cls = cls ∧ oe.dict = dx ∧ oe.data = .fields vs ∧ vs[0]? = some a0 ∧ vs[1]? = some (.ref T) ∧ T ≠ a ∧ h.get? T = some oT ∧ oT.data = .fields ts ∧ ts[3]? = some fl ∧ Nu X H a ∧ Nu X H T
def Fly (X : Cx) (H : Hp) (h : Heap) (a : Addr) (cls : Value) (dx : Option Addr) : Prop :=
 xql X H h a cls dx ∨ xfS X .none H h a cls dx ∨ xfS X (rawInt X.env.locals) H h a cls dx
structure Own (X : Cx) : Prop where
 ex : X.ex = []
 st : X.stack = X.env :: X.outer
 fr : X.env.frame = some X.env.locals
abbrev EEs := St → XK
def XE (X : Cx) (EE : EEs) : Value → Shared → Prop := fun e s' =>
 ∃ a cls dx σ H, e = .ref a ∧ Inv X [] σ H s' ∧ Fly X H s'.heap a cls dx ∧ EE σ cls dx H
section
variable {X : Cx} {pins : List (Addr × Obj)} {σ : St} {H : Hp} {s : Shared}
theorem Inv.nopins (I : Inv X pins σ H s) : Inv X [] σ H s := I.pins_of fun p hp => nomatch hp
theorem Own.mem (o : Own X) {b : Addr} : b ∈ frs X.stack ↔ b = X.env.locals ∨ b ∈ X.fs := by
 rw [o.st]; unfold frs; rw [List.filterMap_cons, o.fr]; exact List.mem_cons
theorem Inv.flown {h' : Heap} (o : Own X) (I : Inv X [] σ H s) (ch : Addr → Prop)
  (keep : ∀ b u, ¬ ch b → b ∉ frs X.stack → s.heap.get? b = some u → h'.get? b = some u)
  (slot : ∀ b u, ¬ ch b → b ∈ frs X.stack → s.heap.get? b = some u → ∃ sl, h'.get? b = some { u with slots := sl })
  (new : ∀ b, ch b → Nu X H b ∧ ∀ u, s.heap.get? b = some u → ∃ vs, u.data = .fields vs) : Inv X [] σ H { s with heap := h' } := by
 have any : ∀ b u, ¬ ch b → s.heap.get? b = some u → ∃ sl, h'.get? b = some { u with slots := sl } := fun b u n e => by
  by_cases hb : b ∈ frs X.stack
  ·exact slot b u n hb e
  ·exact ⟨u.slots, keep b u n hb e⟩
 have old : ∀ b u, X.s₀.heap.get? b = some u → ¬ ch b := fun b u e z => by
  have := (new b z).1.2.1
  rw [e] at this; cases this
 have neL : ∀ b u, X.s₀.heap.get? b = some u → b ≠ X.env.locals := fun b u e => Nat.ne_of_lt (Nat.lt_of_lt_of_le (Heap.lt_size e) I.ok.above)
 have cel : ∀ c v, s.heap.IsCell c v → h'.IsCell c v := fun c v ⟨u, e, d⟩ => by
  obtain ⟨sl, q⟩ := any c u (fun z => by
   obtain ⟨vs, w⟩ := (new c z).2 u e
   rw [d] at w; cases w) e
  exact ⟨_, q, d⟩
 refine ⟨I.ok, I.os, I.bare, ⟨fun b u e n hb hx => ?_, fun b u e n hb hx => ?_, I.base.free, fun b u e hx => ?_, I.base.fix⟩, ?_, fun x c e => ?_, I.free, I.freeC, fun p hp => ?_, fun b u e => ?_, I.len⟩
 ·exact keep b u (old b u e) (fun z => (o.mem.mp z).elim (neL b u e) hb) (I.base.keep b u e n hb hx)
 ·obtain ⟨sl, e1⟩ := I.base.slot b u e n hb hx
  obtain ⟨sl', e2⟩ := slot b _ (old b u e) (o.mem.mpr (.inr hb)) e1
  exact ⟨sl', e2⟩
 ·by_cases hb : b ∈ X.fs
  ·obtain ⟨o', e1⟩ := I.base.there b u e hx
   obtain ⟨sl, e2⟩ := any b _ (old b u e) e1
   exact ⟨_, e2⟩
  ·obtain ⟨o', e1⟩ := I.base.there b u e hx
   obtain ⟨sl, e2⟩ := any b _ (old b u e) e1
   exact ⟨_, e2⟩
 ·obtain ⟨m, ⟨u, es, ep, e, d⟩, l⟩ := I.loc
  obtain ⟨sl, q⟩ := any _ u (fun z => by
   obtain ⟨vs, w⟩ := (new _ z).2 u e
   rw [d.1] at w; cases w) e
  refine ⟨m, ⟨_, es, ep, q, d⟩, fun i x v e1 e2 e3 => ?_⟩
  obtain ⟨y, r, z⟩ := l i x v e1 e2 e3
  exact ⟨y, r, z.imp id fun ⟨k, c, e, z⟩ => ⟨k, c, e, cel c _ z⟩⟩
 ·obtain ⟨v, z⟩ := I.cell x c e
  exact ⟨v, cel c v z⟩
 ·obtain ⟨e, n, ne, nf, d⟩ := I.pin p hp
  have hp' : p ∈ X.pn := by simpa using hp
  exact ⟨keep p.1 p.2 (fun z => (new _ z).1.2.2 p hp' rfl) (fun z => (o.mem.mp z).elim ne nf) e, n, ne, nf, d⟩
 ·refine (I.hok b u e).stay (fun c v hc q => ?_) (fun _ q => q) fun _ _ q _ => q
  have tr : ∃ u, H c = some u := by
   rcases hc with rfl | hc
   ·exact ⟨u, e⟩
   ·exact ⟨_, hc⟩
  obtain ⟨u', tr⟩ := tr
  refine keep c v (fun z => ?_) (fun z => ?_) q
  ·rw [(new c z).1.1] at tr; cases tr
  ·rw [I.stkFree c z] at tr; cases tr
theorem xgl {M : Model} {A' : Around} {E : Value → Shared → Prop} {Q : Unit → Shared → Prop} {a : Addr} {oe : Obj} {vs : Array Value} {a0 head : Value} {had : Bool} (o : Own X) (hfr : A'.frames = some X.stack) (I : Inv X [] σ H s)
  (he : s.heap.get? a = some oe) (hd : oe.data = .fields vs) (h0 : vs[0]? = some a0) (h1 : 1 < vs.size) (hn : Nu X H a)
  (h : ∀ s', Inv X [] σ H s' → xfS X (rawInt X.env.locals) H s'.heap a oe.cls oe.dict → Q () s') :
  wpAny M A' (do let f ← frameOf X.env; let pl ← entryPlaceOf X.env.locals had; let b ← EntryCells.newEntry head f .none (rawInt X.env.locals) .none pl; setField (.ref a) 1 b) Q E s := by
 have hfs : s.heap.FunFrames X.base (X.env :: X.outer) := by have := I.stack; rwa [o.st] at this
 have hmem : ∀ b, b ∈ (X.env :: X.outer).filterMap (·.frame) ↔ b ∈ frs X.stack := fun b => by rw [o.st]; rfl
 have hna : a ∉ frs X.stack := fun z => by
  obtain ⟨_, u, hu, hnf⟩ := hfs.mem ((hmem a).mpr z)
  rw [he] at hu; injection hu with hu; subst hu; exact hnf vs hd
 refine wpAny_bind (wpAny_frameOf_fun (by rw [hfr, o.st]) hfs o.fr fun g1 so => ?_)
 refine wpAny_bind (wpAny_entryPlaceOf fun pl hpl => ?_)
 unfold EntryCells.newEntry newFields
 refine wpAny_bind (wpAny_newObj_type ?_ (hpl.sizeOk5 _ _ _ _ _))
 have g1a : g1.get? a = some oe := (so.2.1 a fun z => hna ((hmem a).mp z)).trans he
 generalize hT : ({ cls := .type "traceback", dict := none, data := .fields ([head, .ref X.env.locals, .none, rawInt X.env.locals, .none] ++ (if pl.isEmpty then List.replicate 6 Value.none else pl)).toArray } : Obj) = ot
 have g2a := Heap.get?_push_of_some (h := g1) ot g1a
 refine wpAny_setField g2a hd h1 ?_
 have neT : g1.objs.size ≠ a := Nat.ne_of_gt (Heap.lt_size g1a)
 have d3 := Obj.data_mapFields hd (·.setIfInBounds 1 (Value.ref g1.objs.size))
 have a3 := Heap.get?_update_self (Obj.mapFields (·.setIfInBounds 1 (Value.ref g1.objs.size))) g2a (Obj.isFreed_of_fields d3)
 have t3 : ((g1.push ot).update a (Obj.mapFields (·.setIfInBounds 1 (Value.ref g1.objs.size)))).get? g1.objs.size = some ot := (Heap.get?_update_other _ _ (Ne.symm neT)).trans (Heap.get?_push_size g1 (by rw [← hT]; rfl))
 have kp : ∀ b u, b ≠ a → g1.get? b = some u → ((g1.push ot).update a (Obj.mapFields (·.setIfInBounds 1 (Value.ref g1.objs.size)))).get? b = some u := fun b u nb e =>
  (Heap.get?_update_other _ _ (Ne.symm nb)).trans (Heap.get?_push_of_some _ e)
 have old : ∀ b u, s.heap.get? b = some u → b ≠ g1.objs.size := fun b u e => Nat.ne_of_lt (by rw [so.1]; exact Heap.lt_size e)
 have nT : Nu X H g1.objs.size := by
  refine ⟨I.hok.fresh (by rw [so.1]; exact Nat.le_refl _), ?_, fun p hp z => old p.1 p.2 (I.pin p (by simpa using hp)).1 z⟩
  exact Heap.get?_none_of_le (by rw [so.1]; exact I.sz)
 have J : Inv X [] σ H { s with heap := (g1.push ot).update a (Obj.mapFields (·.setIfInBounds 1 (Value.ref g1.objs.size))) } := by
  refine I.flown o (fun b => b = a) (fun b u n nf e => kp b u n ((so.2.1 b fun z => nf ((hmem b).mp z)).trans e)) (fun b u n _ e => ?_) (fun b z => ?_)
  ·obtain ⟨sl, e1⟩ := so.2.2 b u e
   exact ⟨sl, kp b _ n e1⟩
  ·subst z
   exact ⟨hn, fun u e => ⟨vs, by rw [he] at e; cases e; exact hd⟩⟩
 refine h _ J ?_
 ·refine ⟨_, _, a0, g1.objs.size, ot, _, a3, Obj.cls_mapFields _ _, ?_, d3, by rw [Array.getElem?_setIfInBounds_ne (by decide)]; exact h0, by simp [h1], neT, t3, by rw [← hT], by simp, hn, nT⟩
  obtain ⟨c, d, dt, sl⟩ := oe
  cases dt <;> rfl
theorem xg1 {M : Model} {A' : Around} {E : Value → Shared → Prop} {Q : Unit → Shared → Prop} {a : Addr} {cls : Value} {dx : Option Addr} (o : Own X) (hfr : A'.frames = some X.stack) (I : Inv X [] σ H s) (F : Fly X H s.heap a cls dx)
  (h : ∀ s', Inv X [] σ H s' → xfS X (rawInt X.env.locals) H s'.heap a cls dx → Q () s') : wpAny M A' (noteFrame (.ref a) X.env) Q E s := by
 unfold noteFrame
 simp only [o.fr]
 rcases F with ⟨oe, vs, a0, he, rfl, rfl, hd, h0, h1, hn⟩ | ⟨oe, vs, a0, T, oT, ts, he, rfl, rfl, hd, h0, h1, nT, hT, hdT, h3, hn, hnT⟩ | F
 ·refine wpAny_bind (wpAny_field he hd h1 ?_)
  rw [if_neg (by decide)]
  exact xgl o hfr I he hd h0 (Array.getElem?_eq_some_iff.mp h1).1 hn h
 ·refine wpAny_bind (wpAny_field he hd h1 ?_)
  rw [if_pos (by simp : (Value.ref T != Value.none) = true)]
  refine wpAny_bind (wpAny_field hT hdT h3 ?_)
  rw [if_neg (by simp [rawInt] : ¬ ((Value.none == rawInt X.env.locals) = true))]
  refine wpAny_bind (wpAny_setField hT hdT (Array.getElem?_eq_some_iff.mp h3).1 ?_)
  have ot : ∀ b, b ≠ T → (s.heap.update T (Obj.mapFields (·.setIfInBounds 3 Value.none))).get? b = s.heap.get? b := fun b nb => Heap.get?_update_other _ _ (Ne.symm nb)
  have I' : Inv X [] σ H { s with heap := s.heap.update T (Obj.mapFields (·.setIfInBounds 3 Value.none)) } := by
   refine I.flown o (fun b => b = T) (fun b u n _ e => (ot b n).trans e) (fun b u n _ e => ⟨u.slots, (ot b n).trans e⟩) (fun b z => ?_)
   subst z
   exact ⟨hnT, fun u e => ⟨ts, by rw [hT] at e; cases e; exact hdT⟩⟩
  exact xgl o hfr I' ((ot a (Ne.symm nT)).trans he) hd h0 (Array.getElem?_eq_some_iff.mp h1).1 hn h
 ·obtain ⟨oe, vs, a0, T, oT, ts, he, hc, hx, hd, h0, h1, nT, hT, hdT, h3, hn, hnT⟩ := id F
  refine wpAny_bind (wpAny_field he hd h1 ?_)
  rw [if_pos (by simp : (Value.ref T != Value.none) = true)]
  refine wpAny_bind (wpAny_field hT hdT h3 ?_)
  rw [if_pos (by simp : (rawInt X.env.locals == rawInt X.env.locals) = true)]
  exact wpAny_pure (h s I F)
theorem xcx {M : Model} {A' : Around} {E : Value → Shared → Prop} {Q : Unit → Shared → Prop} {a : Addr} {cls fl : Value} {dx : Option Addr} {to : Option Addr} (o : Own X) (I : Inv X [] σ H s) (F : xfS X fl H s.heap a cls dx)
  (h : ∀ s', Inv X [] σ H s' → xfS X (to.elim .none fun f => rawInt f) H s'.heap a cls dx → Q () s') : wpAny M A' (setFlight (.ref a) to) Q E s := by
 obtain ⟨oe, vs, a0, T, oT, ts, he, rfl, rfl, hd, h0, h1, nT, hT, hdT, h3, hn, hnT⟩ := F
 unfold setFlight
 refine wpAny_bind (wpAny_field he hd h1 ?_)
 rw [if_pos (by simp : (Value.ref T != Value.none) = true)]
 have z3 := (Array.getElem?_eq_some_iff.mp h3).1
 have ot : ∀ b, b ≠ T → (s.heap.update T (Obj.mapFields (·.setIfInBounds 3 (to.elim Value.none fun f => rawInt f)))).get? b = s.heap.get? b := fun b nb => Heap.get?_update_other _ _ (Ne.symm nb)
 have d3 := Obj.data_mapFields hdT (·.setIfInBounds 3 (to.elim Value.none fun f => rawInt f))
 refine wpAny_setField hT hdT z3 (h _ (I.flown o (fun b => b = T) (fun b u n _ e => (ot b n).trans e) (fun b u n _ e => ⟨u.slots, (ot b n).trans e⟩) fun b z => ?_) ?_)
 ·subst z
  exact ⟨hnT, fun u e => ⟨ts, by rw [hT] at e; cases e; exact hdT⟩⟩
 ·exact ⟨oe, vs, a0, T, _, _, (ot a (Ne.symm nT)).trans he, rfl, rfl, hd, h0, h1, nT, Heap.get?_update_self _ hT (Obj.isFreed_of_fields d3), d3, by simp [z3], hn, hnT⟩
theorem xdF {M : Model} {A' : Around} {E : Value → Shared → Prop} {Q : Unit → Shared → Prop} {a : Addr} {cls : Value} {dx : Option Addr} (o : Own X) (hfr : A'.frames = some X.stack) (I : Inv X [] σ H s) (F : Fly X H s.heap a cls dx)
  (h : ∀ s', Inv X [] σ H s' → xfS X .none H s'.heap a cls dx → Q () s') : wpAny M A' (leaving X.env (.ref a)) Q E s := by
 unfold leaving
 exact wpAny_bind (xg1 o hfr I F fun s1 I1 F1 => xcx (to := none) o I1 F1 h)
theorem PassesOwn.xe {EE : EEs} (o : Own X) : PassesOwn (model X.prog X.w) X.A X.env (XE X EE) := by
 rintro e s' ⟨a, cls, dx, σ, H, rfl, I, F, q⟩
 refine xg1 o I.ok.frames I F fun s1 I1 F1 => ?_
 unfold cameBackBy
 obtain ⟨oe, vs, a0, T, oT, ts, he, hc, hx, hd, h0, h1, _⟩ := id F1
 refine wpAny_bind (wpAny_field he hd h1 ?_)
 rw [if_neg (by simp)]
 refine xcx (to := X.env.frame) o I1 F1 fun s2 I2 F2 => ⟨a, cls, dx, σ, H, rfl, I2, .inr (.inr ?_), q⟩
 rw [o.fr] at F2
 exact F2
end
def CXE (P : Program) (w : World) : CXT := fun outer H s E e s' => ∃ a cls dx H' oe vs a0 T oT ts, e = .ref a ∧ s'.os = s.os ∧ AllBare s'.gens ∧ Un (frs outer) [] H H' s.heap s'.heap ∧ HOk P w H' s'.heap ∧
 s'.heap.get? a = some oe ∧ oe.cls = cls ∧ oe.dict = dx ∧ oe.data = .fields vs ∧ vs[0]? = some a0 ∧ vs[1]? = some (.ref T) ∧ T ≠ a ∧ s'.heap.get? T = some oT ∧ oT.data = .fields ts ∧ ts[3]? = some .none ∧
 H' a = none ∧ s.heap.get? a = none ∧ H' T = none ∧ s.heap.get? T = none ∧ E cls dx H'
theorem xiq {CX : CXT} {P : Program} {w : World} {K : W.Frag} {mg : Str → Option Value} {base : Heap} {N : List Str} {qual : Str} {sc : Scope} {f : Addr} {cd : Value} {A : Around} {outer : List Env} {s : Shared} {H : Hp} {E : XK} :
  Own (xaZ CX P w K mg base N qual sc f cd A outer s H E) := ⟨rfl, rfl, rfl⟩
theorem PSs.wished {X : Cx} {E : Value → Shared → Prop} {st : List Stmt} {t : TS} (h : PSs (X.wish E) st t) (hE : ∀ e s, E e s → X.xe e s) : PSs X st t := fun pins s σ H D I hw =>
 wpAny_mono (h pins s σ H D (I.wish _) hw) (fun _ _ q => q.unwish) hE
abbrev cxX (P : Program) (w : World) (K : W.Frag) (mg : Str → Option Value) (base : Heap) (N : List Str) (qual : Str) (sc : Scope) (f : Addr) (cd : Value) (A : Around) (outer : List Env) (s : Shared) (H : Hp) (E : XK) : Cx :=
 (xaZ (CXE P w) P w K mg base N qual sc f cd A outer s H E).wish (XE (xaZ (CXE P w) P w K mg base N qual sc f cd A outer s H E) fun _ => E)
section
variable {P : Program} {w : World} {K : W.Frag} {mg : Str → Option Value} {base : Heap}
theorem Fun.okX {x qual : Str} {st : Stmt} {f : Addr} {fd : FuncData} {N ps : List Str} {k : Nat} {sp : Sp} (F : Fun K x qual st f fd) (S : xt N ps (xb st)) (len : ∀ vs H Q E, sp vs H Q E → vs.length = ps.length)
  (hbody : ∀ (cdv : Value) (A : Around) (outer : List Env) (s : Shared) (H : Hp) (vs : List V) (Q : VK) (E : XK), xX k (A.deeper (envOfC qual (xb st) s.heap.objs.size f cdv)) → sp vs H Q E →
   ∃ t, PSs (cxX P w K mg base N qual (xb st) f cdv A outer s H E) (xg st) t ∧ t { nx := fun _ H' => Q .non H', rt := Q } (start N vs) H) : xA P w K mg base (CXE P w) (k + 1) f fd ps sp := by
 obtain ⟨oc, od, kV, doc, pm, an, cdv, ct, osl, rfl, lk, hcd⟩ := F.ex
 refine xh9 lk hcd S len fun A outer s H vs Q E hr hsp => ?_
 obtain ⟨t, h, q⟩ := hbody cdv A outer s H vs Q E hr hsp
 refine ⟨t, h.wished fun e s' ⟨a, cls, dx, σ, H', he, I, Fl, z⟩ => ?_, q⟩
 subst he
 refine xdF xiq I.ok.frames I Fl fun s2 I2 F2 => ?_
 obtain ⟨oe, vs, a0, T, oT, ts, he, hc, hx, hd, h0, h1, nT, hT, hdT, h3, hn, hnT⟩ := F2
 exact ⟨a, cls, dx, H', oe, vs, a0, T, oT, ts, rfl, I2.os, I2.bare, I2.base, I2.hok, he, hc, hx, hd, h0, h1, nT, hT, hdT, h3, hn.1, hn.2.1, hnT.1, hnT.2.1, z⟩
end
section
variable {X : Cx} {EE : EEs}
theorem xky {pins : List (Addr × Obj)} {σ : St} {H : Hp} {s s' : Shared} {e : Value} (o : Own X) (I : Inv (X.wish (XE X EE)) pins σ H s) (h : CXE X.prog X.w X.stack H s (EE σ) e s') : XE X EE e s' := by
 obtain ⟨a, cls, dx, H', oe, vs, a0, T, oT, ts, rfl, os, bare, un, hok, he, hc, hx, hd, h0, h1, nT, hT, hdT, h3, n1, n2, n3, n4, q⟩ := h
 have I0 : Inv X pins σ H s := I.unwish
 have I1 : Inv X pins σ H' s' := I0.call' os un hok bare fun b z => absurd z (by simp)
 have nu : ∀ b, H' b = none → s.heap.get? b = none → Nu X H' b := fun b m1 m2 => by
  refine ⟨m1, ?_, fun p hp z => ?_⟩
  ·cases q : X.s₀.heap.get? b with
   | none => rfl
   | some u =>
    obtain ⟨u', e⟩ := I0.base.there b u q (by rw [o.ex]; simp)
    rw [m2] at e; cases e
  ·have := (I0.pin p (List.mem_append_left _ hp)).1
   rw [z, m2] at this; cases this
 exact ⟨a, cls, dx, σ, H', rfl, I1.nopins, .inr (.inl ⟨oe, vs, a0, T, oT, ts, he, hc, hx, hd, h0, h1, nT, hT, hdT, h3, nu a n1 n2, nu T n3 n4⟩), q⟩
variable {k : Nat} {f C : Addr} {fd : FuncData} {ps : List Str} {sp : Sp} {dvs : List V} {ds : List Value} {x m : Str} {p pos apos : Pos} {e ob : Expr} {es : List Expr} {ta : TE} {t : TA}
theorem xjO {pins : List (Addr × Obj)} {σ : St} {H : Hp} {s : Shared} {Q : VK} {us : List Value} {vs : List V} (o : Own X) (F : xA X.prog X.w X.K X.mg X.base (CXE X.prog X.w) k f fd ps sp) (hr : xX k X.A) (hb : Binds X.K fd ps ds) (hd : Vals dvs ds)
  (I : Inv (X.wish (XE X EE)) pins σ H s) (r : Vals vs us) (h : sp (vs ++ dvs) H Q (EE σ)) : wpAny (model X.prog X.w) X.A (call (.ref f) us) (EP (X.wish (XE X EE)) pins σ Q) (XE X EE) s := by
 have r2 : Vals (vs ++ dvs) (us ++ ds) := r.append hd
 have hl : (us ++ ds).length = ps.length := r2.length.symm.trans (F.len _ _ _ _ h)
 refine wpAny_call (codeAny_mono (F.run X.A X.stack s H ⟨us, []⟩ (us ++ ds) (vs ++ dvs) Q (EE σ) hr I.unwish.env0 (hb s us I.unwish.kIn hl) r2 h) fun z s' hq => ?_)
 match z, hq with
 | .error e, hq => exact xky o I hq
 | .ok (.ret u), hq => exact I.after hq
 | .ok .next, hq => exact hq.elim
 | .ok .brk, hq => exact hq.elim
 | .ok .cont, hq => exact hq.elim
def xpb (sp : Sp) (dvs : List V) (EE : EEs) (t : TA) : TE := fun σ H Q => t σ H fun vs H1 => sp (vs ++ dvs) H1 Q (EE σ)
theorem xir (o : Own X) (F : xA X.prog X.w X.K X.mg X.base (CXE X.prog X.w) k f fd ps sp) (hr : xX k X.A) (hg : Gl X x) (hm : X.mg x = some (.ref f)) (hk : W.keepIn X.K (.ref f) = true) (hb : Binds X.K fd ps ds) (hd : Vals dvs ds)
  (ha : PA (X.wish (XE X EE)) (e :: es) t) (hdb : (x == ("__debug__" : Str)) = false := by decide) (he : starEach (e :: es) X.env = (false, eval e X.env) :: starEach es X.env := by rfl) (hpl : (backTo pos (starEach es X.env)).any (·.1) = false := by rfl) :
  PE (X.wish (XE X EE)) (.Call (.Name x p) (e :: es) [] pos) (xpb sp dvs EE t) := by
 intro pins s σ H Q I h
 refine wpAny_Call_Name_kw (xaW I hg hm ?_ hdb)
 refine W.callWith_K (h₀ := X.base) I.ok.mod.kin hk (thn (ha pos pins s σ H _ I h) fun us s1 ⟨vs, H1, I1, r, q⟩ => ⟨I1.kIn, xjO o F hr hb hd I1 r q⟩) he hpl
end
end L2
namespace L2
open PySem PySem.Spec PyProof.Rows
def xis : List Value := [.type "ValueError", .type "Exception", .type "BaseException", .type "object"]
theorem xS.here {P : Program} {w : World} {H : Hp} {h : Heap} {a : Addr} {o : HO} (x : xS P w H h a o) : ∃ u, h.get? a = some u := by
 cases o with
 | lst xs => obtain ⟨_, _, _, _, e⟩ := x; exact ⟨_, e⟩
 | tup xs => obtain ⟨_, _, _, u, e, _⟩ := x; exact ⟨_, e⟩
 | dK kvs => obtain ⟨_, _, _, _, o, _, _, e, _⟩ := x; exact ⟨_, e⟩
 | dT kvs => obtain ⟨_, _, _, _, o, _, _, e, _⟩ := x; exact ⟨_, e⟩
 | set S n => obtain ⟨o, _, _, _, e, _⟩ := x; exact ⟨_, e⟩
 | ins C dx fs => obtain ⟨_, _, _, e, _⟩ := x; exact ⟨_, e⟩
 | own y => exact x
 | xd fs => obtain ⟨_, ⟨_, _, _, e, _⟩, _⟩ := x; exact ⟨_, e⟩
 | rng lo hi => obtain ⟨_, _, _, e⟩ := x; exact ⟨_, e⟩
 | frz ob u => obtain ⟨e, _⟩ := x; exact ⟨_, e⟩
 | tbl qs => obtain ⟨_, e, _⟩ := x; exact ⟨_, e⟩
 | cel v => obtain ⟨_, ⟨_, e, _⟩, _⟩ := x; exact ⟨_, e⟩
 | met f y => exact ⟨_, x⟩
 | ext φ => exact x.2.1
section
variable {X : Cx} {EE : EEs}
theorem xpW {pins : List (Addr × Obj)} {σ : St} {H : Hp} {s : Shared} (o : Own X) (I : Inv X pins σ H s) {b : Addr} (m : s.heap.get? b = none) : Nu X H b := by
 refine ⟨?_, ?_, fun p hp z => ?_⟩
 ·cases q : H b with
  | none => rfl
  | some u =>
   obtain ⟨v, e⟩ := (I.hok b u q).here
   rw [m] at e; cases e
 ·cases q : X.s₀.heap.get? b with
  | none => rfl
  | some u =>
   obtain ⟨u', e⟩ := I.base.there b u q (by rw [o.ex]; simp)
   rw [m] at e; cases e
 ·have := (I.pin p (List.mem_append_left _ hp)).1
  rw [z, m] at this; cases this
abbrev Cx.pnd (X : Cx) (ps : List (Addr × Obj)) : Cx := { X with pn := X.pn ++ ps }
abbrev Cx.held (X : Cx) (a : Addr) (ps : List (Addr × Obj)) : Cx := { X with A := X.A.mark (some (.ref a)), calm := false, xe := fun _ _ => False, pn := X.pn ++ ps }
theorem Cx.Ok.pnd {ps : List (Addr × Obj)} (ok : X.Ok) : (X.pnd ps).Ok :=
 ⟨ok.mod, ok.kind, ok.glob, ok.blt, ok.above, ok.inj, ok.has, ok.cab, ok.hd, ok.frames, ok.stk, ok.exf, ok.bs, ok.bsz, ok.noex, ok.exfs, ok.funs, ok.frf, ok.cab2, ok.hz⟩
theorem Cx.Ok.held {a : Addr} {ps : List (Addr × Obj)} (ok : X.Ok) : (X.held a ps).Ok :=
 ⟨ok.mod, ok.kind, ok.glob, ok.blt, ok.above, ok.inj, ok.has, ok.cab, (fun z => by cases z), ok.frames, ok.stk, ok.exf, ok.bs, ok.bsz, ok.noex, ok.exfs, ok.funs, ok.frf, ok.cab2, ok.hz⟩
theorem Own.pnd {ps : List (Addr × Obj)} (o : Own X) : Own (X.pnd ps) := ⟨o.ex, o.st, o.fr⟩
section
variable {pins ps : List (Addr × Obj)} {σ : St} {H : Hp} {s : Shared}
theorem Inv.pnd (I : Inv X pins σ H s) : Inv (X.pnd pins) [] σ H s :=
 ⟨I.ok.pnd, I.os, I.bare, I.base, I.loc, I.cell, I.free, I.freeC, fun p hp => I.pin p (by simpa using hp), I.hok, I.len⟩
theorem Inv.unpnd {qs : List (Addr × Obj)} (ok : X.Ok) (I : Inv (X.pnd pins) qs σ H s) : Inv X pins σ H s :=
 ⟨ok, I.os, I.bare, I.base, I.loc, I.cell, I.free, I.freeC, fun p hp => I.pin p (List.mem_append_left _ hp), I.hok, I.len⟩
theorem SP.unpnd {qs : List (Addr × Obj)} (ok : X.Ok) {D : Ends} {f : Flow} {s' : Shared} (h : SP (X.pnd pins) qs D f s') : SP X pins D f s' := by
 cases f with
 | next => obtain ⟨σ', H', I, q⟩ := h; exact ⟨σ', H', I.unpnd ok, q⟩
 | brk => obtain ⟨σ', H', I, q⟩ := h; exact ⟨σ', H', I.unpnd ok, q⟩
 | cont => obtain ⟨σ', H', I, q⟩ := h; exact ⟨σ', H', I.unpnd ok, q⟩
 | ret u => obtain ⟨v, σ', H', I, r, q⟩ := h; exact ⟨v, σ', H', I.unpnd ok, r, q⟩
theorem Inv.held {a : Addr} {oe : Obj} (I : Inv (X.pnd pins) [] σ H s) (ok : X.Ok) (he : s.heap.get? a = some oe) (hn : H a = none) {vs : Array Value} (hd : oe.data = .fields vs) : Inv (X.held a (pins ++ [(a, oe)])) [] σ H s := by
 refine ⟨ok.held, I.os, I.bare, I.base, I.loc, I.cell, I.free, I.freeC, fun p hp => ?_, I.hok, I.len⟩
 have hp' : p ∈ X.pn ++ pins ∨ p = (a, oe) := by
  have : p ∈ (X.pn ++ (pins ++ [(a, oe)])) ++ [] := hp
  rw [List.append_nil, ← List.append_assoc] at this
  rcases List.mem_append.mp this with z | z
  ·exact .inl z
  ·exact .inr (List.mem_singleton.mp z)
 rcases hp' with hp' | rfl
 ·exact I.pin p (List.mem_append_left _ hp')
 ·refine ⟨he, hn, fun z => ?_, fun z => ?_, fun v z => ?_⟩
  ·obtain ⟨m, ⟨u, es, ep, e, d⟩, _⟩ := I.loc
   have z' : a = X.env.locals := z
   rw [z'] at he
   rw [show s.heap.get? X.env.locals = some u from e] at he
   cases he
   rw [d.1] at hd; cases hd
  ·obtain ⟨_, u, hu, hnf⟩ := I.funs.mem z
   have hu' : s.heap.get? a = some u := hu
   rw [he] at hu'; cases hu'
   exact hnf vs hd
  ·have z' : oe.data = .cell v := z
   rw [hd] at z'; cases z'
theorem Inv.unheld {a : Addr} {oe : Obj} {qs : List (Addr × Obj)} (ok : X.Ok) (I : Inv (X.held a (pins ++ [(a, oe)])) qs σ H s) : Inv X pins σ H s :=
 ⟨ok, I.os, I.bare, I.base, I.loc, I.cell, I.free, I.freeC, fun p hp => I.pin p (by
  show p ∈ (X.pn ++ (pins ++ [(a, oe)])) ++ qs
  rcases List.mem_append.mp hp with z | z
  ·exact List.mem_append_left _ (List.mem_append_left _ z)
  ·exact List.mem_append_left _ (List.mem_append_right _ (List.mem_append_left _ z))), I.hok, I.len⟩
theorem SP.unheld {a : Addr} {oe : Obj} {qs : List (Addr × Obj)} (ok : X.Ok) {D : Ends} {f : Flow} {s' : Shared} (h : SP (X.held a (pins ++ [(a, oe)])) qs D f s') : SP X pins D f s' := by
 cases f with
 | next => obtain ⟨σ', H', I, q⟩ := h; exact ⟨σ', H', I.unheld ok, q⟩
 | brk => obtain ⟨σ', H', I, q⟩ := h; exact ⟨σ', H', I.unheld ok, q⟩
 | cont => obtain ⟨σ', H', I, q⟩ := h; exact ⟨σ', H', I.unheld ok, q⟩
 | ret u => obtain ⟨v, σ', H', I, r, q⟩ := h; exact ⟨v, σ', H', I.unheld ok, r, q⟩
end
structure xkz (K : W.Frag) (C' : Addr) : Prop where
 base : W.mroIn K C' (.type "BaseException") = some true
theorem xkA {M : Model} {A' : Around} {E : Value → Shared → Prop} {K : W.Frag} {s : Shared} {a C C' : Addr} {oe : Obj} {b : Bool} {Q : Bool → Shared → Prop} (KX : K.In s.heap) (he : s.heap.get? a = some oe) (hcls : oe.cls = .ref C)
  (hk : W.kitCls K (.ref C) (.ref C') = some b) (hb : xkz K C') (hq : Q b s) : wpAny M A' (excMatches (.ref a) (.ref C')) Q E s := by
 obtain ⟨l1, l2, l3⟩ := W.kit_cls (M := M) KX hk
 have l4 := W.looks_mroIn (M := M) KX hb.base
 have kk : ∀ b o, s.heap.get? b = some o → s.heap.get? b = some o := fun _ _ e => e
 unfold excMatches isInstance
 refine wpAny_bind (wpAny_bind (l1 _ _ _ s kk ?_))
 refine wpAny_of_eq tc_notTuple ?_
 simp only [Bool.false_eq_true, if_false]
 refine wpAny_bind (wpAny_pure ?_)
 simp only [List.forIn_cons, List.forIn_nil]
 unfold isExcClass
 refine wpAny_bind (wpAny_bind (wpAny_bind (wpAny_bind (l2 _ _ _ s kk ?_))))
 simp only [if_true]
 refine l4 _ _ _ s kk ?_
 simp only [Bool.not_true, Bool.false_eq_true, if_false]
 refine wpAny_pure (wpAny_pure ?_)
 have lt : wpAny M A' (typeOf (.ref a)) (fun v s' => v = oe.cls ∧ s' = s) E s := by
  unfold typeOf
  exact wpAny_bind (wpAny_loadPart he (wpAny_pure ⟨rfl, rfl⟩))
 refine wpAny_bind (wpAny_mono lt (fun v s' z => ?_) fun _ _ x => x)
 obtain ⟨rfl, rfl⟩ := z
 rw [hcls]
 refine wpAny_bind (wpAny_bind (wpAny_bind (l3 _ _ _ s' kk ?_)))
 cases b with
 | true => exact wpAny_pure (wpAny_pure (wpAny_pure hq))
 | false => exact wpAny_pure (wpAny_pure (wpAny_pure hq))
def xnw (K : W.Frag) (C' : Addr) (ts : Addr → Value → TS) (D : Ends) : EEs := fun σ cls _ H => ∃ C, cls = .ref C ∧ W.kitCls K (.ref C) (.ref C') = some true ∧ ∀ a, H a = none → ts a cls D σ H
def xqm (K : W.Frag) (C' : Addr) (tb : EEs → TS) (ts : Addr → Value → TS) : TS := fun D σ H => tb (xnw K C' ts D) D σ H
theorem xpc {C' : Addr} {y : Str} {np hp pos : Pos} {body suite : List Stmt} {b₀ : Stmt} {tb : EEs → TS} {ts : Addr → Value → TS} (o : Own X) (hb : xkz X.K C') (hg : Gl X y) (hm : X.mg y = some (.ref C'))
  (hbody : ∀ (EE : EEs) (ps : List (Addr × Obj)), PSs ((X.pnd ps).wish (XE (X.pnd ps) EE)) body (tb EE)) (hsuite : ∀ (ps : List (Addr × Obj)) (a : Addr) (cls : Value), PSs (X.held a ps) (b₀ :: suite) (ts a cls))
  (hdb : (y == ("__debug__" : Str)) = false := by decide) : PS X (.Try body [.ExceptHandler (some (.Name y np)) none (b₀ :: suite) hp] [] [] pos) (xqm X.K C' tb ts) := by
 intro pins s σ H D I h
 have ok := I.ok
 refine wpAny_Try_except (wpAny_mono (hbody (xnw X.K C' ts D) pins [] s σ H D (I.pnd.wish _) h) (fun f s1 hq => ?_) fun e s1 hx => ?_)
 ·have hq' : SP X pins D f s1 := (SP.unwish hq).unpnd ok
  cases f with
  | next => exact wpAny_execs_nil hq'
  | brk => exact hq'
  | cont => exact hq'
  | ret u => exact hq'
 ·obtain ⟨a, cls, dx, σ1, H1, rfl, I1, F1, C, rfl, hk, q⟩ := hx
  refine xg1 (X := X.pnd pins) o.pnd ok.frames I1 F1 fun s2 I2 F2 => ?_
  refine xcx (X := X.pnd pins) (to := none) o.pnd I2 F2 fun s3 I3 F3 => ?_
  refine wpAny_handleBy_cons (codeAny_handlers_test ?_) (by intro z; cases z)
  obtain ⟨oe, vs, a0, T, oT, ts', he, hc, hx, hd, h0, h1, nT, hT, hdT, h3, hn, hnT⟩ := id F3
  have J3 := Inv.held I3 ok he hn.1 hd
  refine xaW J3 hg hm ?_ hdb
  refine xkA (K := X.K) I3.kIn he hc hk hb ?_
  refine codeAny_handlers_suite ?_
  refine xcx (X := X.pnd pins) (to := none) o.pnd I3 F3 fun s4 I4 F4 => ?_
  obtain ⟨oe', vs', a0', T', oT', ts'', he', hc', hx', hd', h0', h1', nT', hT', hdT', h3', hn', hnT'⟩ := id F4
  have J4 := Inv.held I4 ok he' hn'.1 hd'
  refine wpAny_mono (hsuite (pins ++ [(a, oe')]) a (.ref C) [] s4 σ1 H1 D J4 (q a hn'.1)) (fun f s5 hq => ?_) fun _ _ z => z.elim
  exact hq.unheld ok
theorem xn3 {h₀ : ExceptHandler} {hs : List ExceptHandler} {pos : Pos} {body : List Stmt} {tb : TS} (hx : X.xe = fun _ _ => False) (hbody : PSs X body tb) : PS X (.Try body (h₀ :: hs) [] [] pos) tb := by
 intro pins s σ H D I h
 refine wpAny_Try_except (wpAny_mono (hbody pins s σ H D I h) (fun f s1 hq => ?_) fun e s1 z => ?_)
 ·cases f with
  | next => exact wpAny_execs_nil hq
  | brk => exact hq
  | cont => exact hq
  | ret u => exact hq
 ·rw [hx] at z; exact z.elim
end
end L2
namespace L2
open PySem PySem.Spec PyProof.Rows PySem.W
structure xqn (K : Frag) (D : Addr) : Prop where
 ga : findIn K (.ref D) "__getattribute__" = some (some (.builtin "BaseException.__getattribute__"))
 gh : findIn K (.ref D) "__getattr__" = some none
 cl : findIn K (.ref D) "__class__" = some (some (.builtin "object.__class__"))
 gt : specialIn K (.builtin "object.__class__") "__get__" = some (some (.builtin "getset_descriptor.__get__"))
 tk : takesIn K (.builtin "object.__class__") = some true
 ob : mroIn K D (.type "object") = some true
 bs : mroIn K D (.type "BaseException") = some true
 is : (clsIn K D).isSome = true
section
variable {prog : Program} {w : World} {A : Around} {E : Value → Shared → Prop} {s : Shared} {K : Frag} {x D : Addr} {ox : Obj} {od : Option Obj}
end
section
variable {X : Cx}
end
end L2
namespace L2
open PySem PySem.Spec PyProof.Rows
section
variable {prog : Program} {w : World} {A : Around} {E : Value → Shared → Prop} {s : Shared}
theorem xpd {j t : Addr} {i : Nat} {its : Array Value} {x : Value} {Q : Value → Shared → Prop} (hj : s.heap.IsTupleIter j t i) (ht : s.heap.IsTuple t its) (hx : its[i]? = some x)
  (q : ∀ h', h'.IsTupleIter j t (i + 1) → Heap.SameBut j s.heap h' → Q x { s with heap := h' }) : wpAny (model prog w) A (Builtin.SmallTypes.nextOf (.ref j)) Q E s := by
 obtain ⟨oj, ej, cj, dj⟩ := id hj
 obtain ⟨ot, et, _, nt, dt⟩ := ht
 unfold Builtin.SmallTypes.nextOf
 refine wpAny_bind (wpAny_callSpecial?_slot (name := Str.ofString "__next__") hj.typeIs F.slot_tuple_iterator_next (wpAny_call_entry F.slot_tuple_iterator_next hj.typeIs F.entry_tuple_iterator_next ?_ (F.args_tuple_iterator_next_1 _)))
 show wpAny _ _ (field (.ref j) 0 >>= _) _ _ s
 refine wpAny_bind (wpAny_field ej dj (x := .ref t) rfl ?_)
 show wpAny _ _ (if (Value.ref t == Value.none) = true then _ else _) _ _ s; rw [if_neg (show ¬ ((Value.ref t == Value.none) = true) from Bool.false_ne_true)]
 show wpAny _ _ (field (.ref j) 1 >>= _) _ _ s
 refine wpAny_bind (wpAny_field ej dj (x := .int i 0) rfl ?_)
 show wpAny _ _ (seqItems? (.ref t) >>= _) _ _ s; refine wpAny_bind (wpAny_seqItems et dt ?_)
 simp only [Int.toNat_natCast, hx]
 refine wpAny_bind (wpAny_setField ej dj (by simp) (wpAny_pure ⟨x, rfl, wpAny_pure (q _ ?_ (Heap.SameBut.update ..))⟩))
 exact ⟨_, Heap.get?_update_self _ ej (Obj.isFreed_of_fields (Obj.data_mapFields dj _)), (Obj.cls_mapFields ..).trans cj, by rw [Obj.data_mapFields dj]; simp [rawInt]⟩
theorem xhz {j t : Addr} {i : Nat} {its : Array Value} {Q : Value → Shared → Prop} (hh : A.handled = none) (hj : s.heap.IsTupleIter j t i) (ht : s.heap.IsTuple t its) (hx : its[i]? = none)
  (q : ∀ h' e, Heap.ExtBut j s.heap h' → (∃ o, h'.get? e = some o ∧ o.cls = .type "StopIteration") → E (.ref e) { s with heap := h' }) : wpAny (model prog w) A (Builtin.SmallTypes.nextOf (.ref j)) Q E s := by
 obtain ⟨oj, ej, cj, dj⟩ := id hj
 obtain ⟨ot, et, _, nt, dt⟩ := ht
 unfold Builtin.SmallTypes.nextOf
 refine wpAny_bind (wpAny_callSpecial?_slot (name := Str.ofString "__next__") hj.typeIs F.slot_tuple_iterator_next (wpAny_call_entry F.slot_tuple_iterator_next hj.typeIs F.entry_tuple_iterator_next ?_ (F.args_tuple_iterator_next_1 _)))
 show wpAny _ _ (field (.ref j) 0 >>= _) _ _ s
 refine wpAny_bind (wpAny_field ej dj (x := .ref t) rfl ?_)
 show wpAny _ _ (if (Value.ref t == Value.none) = true then _ else _) _ _ s; rw [if_neg (show ¬ ((Value.ref t == Value.none) = true) from Bool.false_ne_true)]
 show wpAny _ _ (field (.ref j) 1 >>= _) _ _ s
 refine wpAny_bind (wpAny_field ej dj (x := .int i 0) rfl ?_)
 show wpAny _ _ (seqItems? (.ref t) >>= _) _ _ s; refine wpAny_bind (wpAny_seqItems et dt ?_)
 simp only [Int.toNat_natCast, hx]
 refine wpAny_bind (wpAny_rule (wpAny_bind (wpAny_setField ej dj (by simp) ?_)))
 show wpAny _ _ (newExc (.type "StopIteration") [] >>= _) _ _ _; refine wpAny_bind ?_
 simp only [newExc, newTuple]; refine wpAny_bind (wpAny_newObj_type ?_ (by size_fits))
 refine wpAny_bind (m := firstArgMember _ _) (wpAny_of_eq (a := Value.none) (by first | rfl | (simp only [firstArgMember]; rfl)) ?_); refine wpAny_newObj_type ?_ (by size_fits)
 simp only [raiseNew]
 refine wpAny_bind (wpAny_handled ?_); first | rw [show A.in1.handled = none from hh] | rw [hh]
 refine wpAny_bind (wpAny_pure (wpAny_throw ?_))
 exact q _ _ (((Heap.SameBut.update ..).extBut.push _).push _) ⟨_, Heap.get?_push_size _ rfl, rfl⟩
theorem xlK (hh : A.handled = none) (j t : Addr) (hne : t ≠ j) (its : Array Value) : Draws prog w A j [j, t] its.size (fun i v => its[i]? = some v) (fun i h => h.IsTupleIter j t i ∧ h.IsTuple t its) where
 live := fun _ _ st => let ⟨o, ho, _⟩ := st.1; ⟨o, ho⟩
 frame := fun _ _ _ ⟨⟨o, e, r⟩, o2, e2, r2⟩ hk => ⟨⟨o, hk j (by simp) o e, r⟩, o2, hk t (by simp) o2 e2, r2⟩
 item := fun i s Q E hi st q => by
  refine xpd st.1 st.2 (x := its[i]) (by simp [hi]) fun h' hj' hs' => q _ h' s.toks (by simp [hi]) ⟨hj', ?_⟩ hs'
  obtain ⟨o2, e2, r2⟩ := st.2
  exact ⟨o2, (hs'.2 t hne).trans e2, r2⟩
 done := fun s Q E st q => xhz hh st.1 st.2 (by simp) q
end
set_option maxHeartbeats 8000000 in
theorem xlL (l : Addr) (its : Array Value) (n : Nat) (dct : Option Addr) (sl : Array (Option Value)) :
  Meets (Builtin.«enumerate.__new__» ⟨[.type "enumerate", .ref l], []⟩) (fun _ R s => s.heap.get? l = some { cls := .type "tuple", dict := dct, data := .seq its n, slots := sl } ∧
   R (.ok (.ret (.ref (s.heap.push { cls := .type "tuple_iterator", data := .fields #[.ref l, .int 0 0] }).objs.size)))
    { s with heap := (s.heap.push { cls := .type "tuple_iterator", data := .fields #[.ref l, .int 0 0] }).push { cls := .type "enumerate", data := .fields #[.none, .bool false, .ref s.heap.objs.size, rawInt 0, .none, .none] } }) :=
 .of_wp fun prog w A R s h => by
  obtain ⟨hp, g, d, tk, os⟩ := s; obtain ⟨el, h⟩ := h
  have hsub := sub_enumerate
  have hL : Heap.IsTuple (Shared.heap ⟨hp, g, d, tk, os⟩) l its := ⟨_, el, rfl, n, rfl⟩
  wp_walk using AutoSeq1.wpAny_loadPart' el
  refine wpAny_stack_any fun st => wpAny_pure ?_
  split
  ·rename_i c _ _ _ _ _
   cases (c == Value.type "enumerate") <;> (wp_walk using AutoSeq1.wpAny_loadPart' el, wpAny_pyIter_tuple hL; exact ⟨_, rfl, h⟩)
  ·wp_walk using AutoSeq1.wpAny_loadPart' el, wpAny_pyIter_tuple hL; exact ⟨_, rfl, h⟩
section
variable {prog : Program} {w : World} {A : Around} {E : Value → Shared → Prop} {s : Shared}
theorem xkB {l : Addr} {its : Array Value} {Q : Value → Shared → Prop} (hL : s.heap.IsTuple l its)
  (q : ∀ h', IsEnum h' (s.heap.objs.size + 1) s.heap.objs.size 0 .none → h'.IsTupleIter s.heap.objs.size l 0 → (∀ b o, s.heap.get? b = some o → h'.get? b = some o) → Q (.ref (s.heap.objs.size + 1)) { s with heap := h' }) :
  wpAny (model prog w) A (call (.type "enumerate") [.ref l]) Q E s := by
 obtain ⟨⟨c, dct, dt, sl⟩, el, hc, n, hd⟩ := hL
 cases (show c = .type "tuple" from hc)
 cases (show dt = .seq its n from hd)
 refine callType_new F.called_enumerate (by decide) (F.typeCall_enumerate_1 _) (F.newCall_enumerate_1 _) (fun obj => F.args_object_init_2 obj _) F.entry_enumerate_new (xlL l its n dct sl) ⟨el, ?_⟩
 generalize hO : ({ cls := .type "tuple_iterator", data := .fields #[.ref l, .int 0 0] } : Obj) = oi
 have hz : (s.heap.push oi).objs.size = s.heap.objs.size + 1 := Heap.size_push ..
 have f0 : oi.isFreed = false := by rw [← hO]; rfl
 show _ ∧ _
 rw [hz]
 have he : IsEnum ((s.heap.push oi).push { cls := .type "enumerate", data := .fields #[.none, .bool false, .ref s.heap.objs.size, rawInt 0, .none, .none] }) (s.heap.objs.size + 1) s.heap.objs.size 0 .none := by
  have e := Heap.get?_push_size (s.heap.push oi) (o := { cls := .type "enumerate", data := .fields #[.none, .bool false, .ref s.heap.objs.size, rawInt 0, .none, .none] }) rfl
  rw [hz] at e; exact e
 refine ⟨⟨_, he, rfl⟩, q _ he ⟨oi, Heap.get?_push_of_some _ (Heap.get?_push_size _ f0), by rw [← hO], by rw [← hO]; rfl⟩ fun b o x => Heap.get?_push_of_some _ (Heap.get?_push_of_some _ x)⟩
theorem xn4 {e j t : Addr} {i : Nat} {k : Int} {its : Array Value} {old : Value} {Q : Option Value → Shared → Prop} (hh : A.handled = none) (he : IsEnum s.heap e j k old) (hj : s.heap.IsTupleIter j t i) (ht : s.heap.IsTuple t its) (hx : its[i]? = none)
  (q : ∀ h', Heap.ExtBut j s.heap h' → Q none { s with heap := h' }) : wpAny (model prog w) A (pyNext (.ref e)) Q E s := by
 have hT : s.TypeIs (.ref e) "enumerate" := ⟨_, he, rfl⟩
 unfold pyNext
 refine wpAny_bind (wpAny_attempt (wpAny_callSpecial?_slot (name := Str.ofString "__next__") hT F.slot_enumerate_next (wpAny_call_entry F.slot_enumerate_next hT F.entry_enumerate_next ?_ (F.args_enumerate_next_1 _))))
 show wpAny _ _ (field (.ref e) 2 >>= _) _ _ _; refine wpAny_bind (wpAny_field he rfl (x := .ref j) rfl ?_)
 refine wpAny_bind (xhz hh hj ht hx fun h' x eb ⟨o, ho, hc⟩ => ?_)
 refine wpAny_bind (wpAny_isInstance (T := "StopIteration") (b := true) ⟨o, ho, hc⟩ isSubtype_stop ?_); exact wpAny_pure (q _ eb)
end
def xmH (K : W.Frag) (a : Addr) : It :=
 ⟨fun i H => ∃ xs x, SqT K H a xs ∧ xs[i]? = some x, fun i H v H' => ∃ T x, v = .ref T ∧ H T = none ∧ H' = upd H T (.tup [.int i, x]) ∧ ∀ xs, SqT K H a xs → xs[i]? = some x, fun i H => ∃ xs, SqT K H a xs ∧ xs.length ≤ i⟩
theorem xkC {P : Program} {w : World} {K : W.Frag} {es : List Expr} {k : Nat} {pos : Pos} (a e it : Addr) (hne : e ≠ it) : Turn P w K (.Tuple es k pos) (xmH K a) [e, it] e (fun i h => (∃ old, IsEnum h e it (i : Nat) old) ∧ h.IsTupleIter it a i) where
 mem := by simp
 obj := fun i h st b hb => by
  obtain ⟨⟨old, he⟩, ⟨o, e1, c, d⟩⟩ := st
  rcases List.mem_cons.mp hb with z | z
  ·subst z
   exact ⟨_, he, fun v z => by cases z⟩
  ·rw [List.mem_singleton.mp z]
   exact ⟨o, e1, fun v z => by rw [d] at z; cases z⟩
 keep := fun i h h' st kk => by
  obtain ⟨⟨old, he⟩, ⟨o, e1, r⟩⟩ := st
  exact ⟨⟨old, kk e (by simp) _ he⟩, ⟨o, kk it (by simp) o e1, r⟩⟩
 item := by
  intro X hP hw hK hc i pins s σ H E I hf st hg
  subst hP hw hK
  obtain ⟨xs, x, hq, hx⟩ := hg
  obtain ⟨its, rv, p, hz⟩ := I.tuple hq
  obtain ⟨u, hu, ru⟩ := rv.get hx
  obtain ⟨⟨old, he⟩, hit⟩ := st
  have he' := Heap.lt_size he
  have hi' : it < s.heap.objs.size := by obtain ⟨o, q, _⟩ := hit; exact Heap.lt_size q
  have p' : s.heap.IsTuple a its.toArray := p
  have hai : a ≠ it := fun z => by
   obtain ⟨o, e1, c, d⟩ := hit
   obtain ⟨o2, e2, c2, _⟩ := p'
   rw [z, e1] at e2; cases e2; rw [c] at c2; injection c2 with c2; exact absurd c2 (by decide)
  have hae : e ≠ a := fun z => by
   obtain ⟨o2, e2, c2, _⟩ := p'
   have he2 : s.heap.get? e = _ := he
   rw [z, e2] at he2; cases he2; injection c2 with c2; exact absurd c2 (by decide)
  have hlt : i < its.toArray.size := by simpa using (List.getElem?_eq_some_iff.mp hu).1
  refine wpAny_pyNext_enum_itemD (xlK (A := X.A.in1) (I.ok.hd hc) it a hai its.toArray) he ⟨hit, p'⟩ hlt hne (by simp [hne, hae]) fun x2 h' tk px heo st' hT hsz hk => ?_
  have ex : x2 = u := by
   have : its.toArray[i]? = some u := by simpa using hu
   rw [this] at px; cases px; rfl
  subst ex
  refine ⟨_, rfl, wpAny_letOwnedTupleGo_enum (s := { s with heap := h', toks := tk + 1 }) heo fun h2 he2 hs2 => ?_⟩
  have hT2 : h2.get? s.heap.objs.size = some { cls := .type "tuple", data := .seq #[.int i tk, x2] } := (hs2.2 _ (Nat.ne_of_gt he')).trans hT
  have I2 : Inv X pins σ (upd H s.heap.objs.size (.tup [.int i, x])) { s with heap := h2, toks := tk + 1 } := by
   refine I.turnLaid (ch := [e, it]) (fun b o hb q => ?_) (Nat.le_refl _) ⟨by simp [sizeLine_eq], [.int i tk, x2], .cons ⟨_, rfl⟩ (.cons ru .nil), ⟨_, hT2, rfl, _, rfl⟩⟩ (fun b hb => (hf b hb).1) (fun b hb => ?_) fun b hb => ?_
   ·have b1 : b ≠ e := fun z => hb (by simp [z])
    have b2 : b ≠ it := fun z => hb (by simp [z])
    exact (hs2.2 b b1).trans (hk b o b1 b2 q)
   ·rcases List.mem_cons.mp hb with z | z
    ·rw [z]; exact he'
    ·rw [List.mem_singleton.mp z]; exact hi'
   ·obtain ⟨f0, f1, f2, f3, f4, f5⟩ := hf b hb
    exact ⟨f3, f1, f4, f5⟩
  refine ⟨.ref s.heap.objs.size, _, I2, rfl, ⟨_, x, rfl, I.hok.fresh (Nat.le_refl _), rfl, fun ys hy => by rw [I.tuple_inj hy hq]; exact hx⟩, ⟨⟨x2, by simpa using he2⟩, ?_⟩, fun b hb => ?_⟩
  ·obtain ⟨⟨o, e1, r⟩, _⟩ := st'
   exact ⟨o, (hs2.2 it (Ne.symm hne)).trans e1, r⟩
  have hb' : b ≠ s.heap.objs.size := by
   rcases List.mem_cons.mp hb with z | z
   ·rw [z]; exact Nat.ne_of_lt he'
   ·rw [List.mem_singleton.mp z]; exact Nat.ne_of_lt hi'
  rw [xn hb']
  exact (hf b hb).1
 done := by
  intro X hP hw hK hc i pins s σ H E I hf st hg
  subst hP hw hK
  obtain ⟨xs, hq, hx⟩ := hg
  obtain ⟨its, rv, p, hz⟩ := I.tuple hq
  obtain ⟨⟨old, he⟩, hit⟩ := st
  obtain ⟨f0, f1, f2, f3, f4, f5⟩ := hf it (by simp)
  have hl := rv.length
  exact xn4 (I.ok.hd hc) he hit p (by simp; omega) fun h' eb => ⟨rfl, I.turned (t' := s.toks) (fun b o hb e => eb b o hb e) f0 f1 f3 f4 f5⟩
 self := fun _ _ _ _ _ st h => by
  obtain ⟨⟨old, he⟩, _⟩ := st
  exact wpAny_pyIter_enum he h
section
variable {X : Cx} {es : List Expr} {k : Nat} {tp : Pos}
def xpe (K : W.Frag) (ta : TA) : TI := fun σ H R => ta σ H fun vs H1 => ∃ a, vs = [.ref a] ∧ (∃ xs, SqT K H1 a xs) ∧ R (xmH K a) H1
theorem xmI {l : Expr} {ta : TA} {p pos : Pos} (hg : Gl X "enumerate") (hm : X.mg "enumerate" = none) (ha : PA X [l] ta) (hs : starEach [l] X.env = [(false, eval l X.env)] := by rfl) : PI X (.Tuple es k tp) (.Call (.Name "enumerate" p) [l] [] pos) (xpe X.K ta) := by
 intro pins s σ H R I h
 refine Call_ (vR I hg hm xcd (PyProof.Rows.callWith_type1 (thn (ha pos pins s σ H _ I h) fun us s1 ⟨vs, H1, I1, r1, q1⟩ => ?_) hs rfl))
 obtain ⟨a, e, ⟨xs, hq⟩, q⟩ := q1
 subst e
 obtain ⟨u, rfl, ru⟩ := Vals.one r1
 cases ru
 obtain ⟨its, rv, pl, hz⟩ := I1.tuple hq
 refine xkB (show s1.heap.IsTuple a its.toArray from pl) fun h' he hi hk => wpAny_pyIter_enum (s := { s1 with heap := h' }) he ?_
 refine ⟨s1.heap.objs.size + 1, [s1.heap.objs.size + 1, s1.heap.objs.size], _, _, H1, rfl, I1.kept (t' := s1.toks) hk, xkC a _ _ (Nat.succ_ne_self _), ⟨⟨.none, by simpa using he⟩, hi⟩, fun b hb => ?_, q⟩
 rcases List.mem_cons.mp hb with z | z
 ·rw [z]; exact I1.fpOk (Nat.le_succ _) (I1.hok.fresh (Nat.le_succ _))
 ·rw [List.mem_singleton.mp z]; exact I1.fpOk (Nat.le_refl _) (I1.hok.fresh (Nat.le_refl _))
theorem xjd {K : W.Frag} {l : Addr} {xs : List V} {g : TG} {tb : TS} {D : Ends} {σ : St} {H : Hp} (Pv : Nat → St → Hp → Prop) (h0 : Pv 0 σ H) (hl : ∀ i σ H, i ≤ xs.length → Pv i σ H → SqT K H l xs)
  (hs : ∀ i x σ H T, xs[i]? = some x → Pv i σ H → H T = none → g (.ref T) σ (upd H T (.tup [.int i, x])) fun σ2 H2 => tb { D with nx := Pv (i + 1), ct := Pv (i + 1), bk := D.nx } σ2 H2) (hd : ∀ σ H, Pv xs.length σ H → D.nx σ H) : vE (xmH K l) g tb D σ H := by
 unfold vE
 refine ⟨fun i m σ H => m = xs.length - i ∧ i ≤ xs.length ∧ Pv i σ H, ⟨xs.length, by simp, Nat.zero_le _, h0⟩, ?_⟩
 rintro i m σ H ⟨rfl, hi, p⟩
 have hq := hl i σ H hi p
 by_cases hlt : i < xs.length
 ·have hx : xs[i]? = some xs[i] := List.getElem?_eq_getElem hlt
  refine .inr ⟨⟨xs, xs[i], hq, hx⟩, Pv (i + 1), fun σ' H' p' => ⟨xs.length - (i + 1), by omega, rfl, hlt, p'⟩, fun v H' y => ?_⟩
  obtain ⟨T, x, rfl, hT, rfl, hx'⟩ := y
  have := hx' xs hq
  exact hs i x σ H T this p hT
 ·have e : i = xs.length := by omega
  subst e
  exact .inl ⟨⟨xs, hq, Nat.le_refl _⟩, hd σ H p⟩
theorem xfv {K : W.Frag} {l : Addr} {xs : List V} {g : TG} {tb : TS} {D : Ends} {σ : St} {H : Hp} (Pv : Nat → St → Hp → Prop) (h0 : Pv 0 σ H) (hl : ∀ i σ H, i ≤ xs.length → Pv i σ H → SqL K H l xs)
  (hs : ∀ i x σ H T, xs[i]? = some x → Pv i σ H → H T = none → g (.ref T) σ (upd H T (.tup [.int i, x])) fun σ2 H2 => tb { D with nx := Pv (i + 1), ct := Pv (i + 1), bk := D.nx } σ2 H2) (hd : ∀ σ H, Pv xs.length σ H → D.nx σ H) : vE (Ite K l) g tb D σ H := by
 unfold vE
 refine ⟨fun i m σ H => m = xs.length - i ∧ i ≤ xs.length ∧ Pv i σ H, ⟨xs.length, by simp, Nat.zero_le _, h0⟩, ?_⟩
 rintro i m σ H ⟨rfl, hi, p⟩
 have hq := hl i σ H hi p
 by_cases hlt : i < xs.length
 ·have hx : xs[i]? = some xs[i] := List.getElem?_eq_getElem hlt
  refine .inr ⟨⟨xs, xs[i], hq, hx⟩, Pv (i + 1), fun σ' H' p' => ⟨xs.length - (i + 1), by omega, rfl, hlt, p'⟩, fun v H' y => ?_⟩
  obtain ⟨T, x, rfl, hT, rfl, hx'⟩ := y
  have := hx' xs hq
  exact hs i x σ H T this p hT
 ·have e : i = xs.length := by omega
  subst e
  exact .inl ⟨⟨xs, hq, Nat.le_refl _⟩, hd σ H p⟩
end
end L2
namespace PySem.W
open PySem PySem.Calls PyProof.Rows
section
variable {prog : Program} {w : World} {A : Around} {E : Value → Shared → Prop} {s : Shared} {a : Addr} {vs : List Value} {P : PySem.Fin → Shared → Prop}
theorem xlM {n : Nat} {κ : SortKind} {lt : Nat → Nat → Bool} (ho : s.heap.get? a = some (seqObj "list" vs.toArray n)) (h64 : vs.length < 64) (S : L2.STO lt vs.length)
  (hkind : 2 ≤ vs.length → ∀ s' : Shared, (∀ b o, b ≠ a → s.heap.get? b = some o → s'.heap.get? b = some o) → wpAny (model prog w) A (keyKind' vs.toArray) (fun κ' s'' => κ' = κ ∧ s' = s'') (fun _ _ => False) s')
  (hcmp : ∀ s' : Shared, (∀ b o, b ≠ a → s.heap.get? b = some o → s'.heap.get? b = some o) → ∀ i j (C : Bool → Shared → Prop), i < vs.length → j < vs.length → C (lt i j) s' → wpAny (model prog w) A (keyLt' κ (vs.getD i Value.none) (vs.getD j Value.none)) C (fun _ _ => False) s')
  (fin : ∀ p : Array Nat, L2.Pm vs.length p → L2.Up lt p vs.length → ∀ h' c, (∀ b o, b ≠ a → s.heap.get? b = some o → h'.get? b = some o) → h'.get? a = some (seqObj "list" (List.toArray (p.toList.map fun i => vs.getD i Value.none)) c) → P (.done (.ret .none)) { s with heap := h' }) :
  wpAny (model prog w) A (Builtin.«list.sort» ⟨[.ref a], []⟩) P E s := by
 have ha : a < s.heap.objs.size := Heap.lt_size ho
 have s1 := Heap.SameBut.update s.heap a (Obj.mapSeq fun _ => (#[] : Array Value))
 obtain ⟨e1, ho1⟩ : ∃ e1, (s.heap.update a (Obj.mapSeq fun _ => (#[] : Array Value))).get? a = some (seqObj "list" #[] e1) := ⟨_, get?_update_seq ho fun _ => #[]⟩
 rw [list_sort_plain]
 refine wpAny_bind (listItems_at ho rfl ?_)
 refine wpAny_bind (listUpdate_at ho rfl ?_ (by rw [List.size_toArray, sizeLine_eq]; omega) (Nat.zero_le _))
 refine wpAny_bind (seqEpoch_at ho1 rfl ?_)
 refine wpAny_bind (wpAny_newTuple ?_ (by show vs.length ≤ _; rw [sizeLine_eq]; omega))
 refine wpAny_bind (wpAny_newList ?_ (Nat.zero_le _))
 refine wpAny_holding ?_
 generalize hh : ((s.heap.update a (Obj.mapSeq fun _ => (#[] : Array Value))).push (seqObj "tuple" vs.toArray 0)).push (seqObj "list" #[] 0) = h1
 have keep : ∀ b o, b ≠ a → s.heap.get? b = some o → h1.get? b = some o := fun b o hb q => by rw [← hh]; exact Heap.get?_push_of_some _ (Heap.get?_push_of_some _ ((s1.2 b hb).trans q))
 have na : h1.get? a = some (seqObj "list" #[] e1) := by rw [← hh]; exact Heap.get?_push_of_some _ (Heap.get?_push_of_some _ ho1)
 have tail : ∀ (out : List Value), out.length < 64 → (∀ h' c, (∀ b o, b ≠ a → s.heap.get? b = some o → h'.get? b = some o) → h'.get? a = some (seqObj "list" (List.toArray out) c) → P (.done (.ret .none)) { s with heap := h' }) →
   ∀ c2, (h1.update a (Obj.mapSeq fun _ => List.toArray out)).get? a = some (seqObj "list" (List.toArray out) c2) → P (.done (.ret .none)) { s with heap := h1.update a (Obj.mapSeq fun _ => List.toArray out) } := fun out hz k c2 hc2 => by
  have s2 := Heap.SameBut.update h1 a (Obj.mapSeq fun _ => List.toArray out)
  exact k _ c2 (fun b o hb q => (s2.2 b hb).trans (keep b o hb q)) hc2
 dsimp only
 by_cases h2 : 2 ≤ vs.length
 ·have hn2 : ¬ vs.toArray.size < 2 := by rw [List.size_toArray]; omega
  rw [if_neg hn2, if_neg hn2]
  refine wpAny_bind (wpAny_mono (hkind h2 { s with heap := h1 } keep) (fun κ' s0 hk => ?_) fun _ _ x => x.elim)
  obtain ⟨rfl, rfl⟩ := hk
  have hw : (kas_sort vs.length).kasWp (kas_ask prog w A κ' vs) (fun p s'' => ({ s with heap := h1 } : Shared) = s'' ∧ L2.Pm vs.length p ∧ L2.Up lt p vs.length) { s with heap := h1 } := by
   refine L2.Wp.kas (lt := lt) (n := vs.length) (fun i j C hi hj hc => hcmp { s with heap := h1 } keep i j C hi hj hc) ?_
   exact L2.wp_mono (L2.xnY S h2) fun q hq => ⟨rfl, hq⟩
  refine wpAny_bind (wpAny_mono (kat_run (Q := fun st' s' => ∃ p : Array Nat, arrOf st' = p.map (kas_item (vs.toArray.zip vs.toArray)) ∧ failedOf st' = none ∧ ({ s with heap := h1 } : Shared) = s' ∧ L2.Pm vs.length p ∧ L2.Up lt p vs.length)
   rfl h2 h64 (fun p' st' s' a1 a2 a3 a4 => ⟨p', a2, a3, a4⟩) hw) ?_ fun _ _ x => x)
  rintro ⟨⟨⟩, st'⟩ s' ⟨p, har, hf, rfl, hp, hu⟩
  dsimp only
  have hout := kat_snds rfl har
  have hl : (p.toList.map fun i => vs.getD i Value.none).length = vs.length := by rw [List.length_map, Array.length_toList, hp.size]
  rw [hout]
  obtain ⟨c2, hc2⟩ : ∃ c2, (h1.update a (Obj.mapSeq fun _ => List.toArray (p.toList.map fun i => vs.getD i Value.none))).get? a = some (seqObj "list" (List.toArray (p.toList.map fun i => vs.getD i Value.none)) c2) := ⟨_, get?_update_seq na fun _ => List.toArray (p.toList.map fun i => vs.getD i Value.none)⟩
  refine wpAny_bind (seqEpoch_at na rfl ?_)
  refine wpAny_bind (listUpdate_at na rfl ?_ (Nat.zero_le _) (by rw [List.size_toArray, hl, sizeLine_eq]; omega))
  rw [hf]
  simp only [bne_self_eq_false, Bool.false_eq_true, if_false]
  exact wpAny_pure (tail _ (by rw [hl]; exact h64) (fin p hp hu) c2 hc2)
 ·have hn2 : vs.toArray.size < 2 := by rw [List.size_toArray]; omega
  rw [if_pos hn2, if_pos hn2]
  refine wpAny_bind (wpAny_pure ?_)
  refine wpAny_bind (wpAny_pure ?_)
  dsimp only
  have hsn : (arrOf (SortSt.mk' general' (vs.toArray.zip vs.toArray) #[] 7 none)).map (·.2) = List.toArray vs := by
   show (vs.toArray.zip vs.toArray).map (·.2) = List.toArray vs
   apply Array.toList_inj.mp
   simp [List.map_snd_zip]
  rw [hsn]
  obtain ⟨c2, hc2⟩ : ∃ c2, (h1.update a (Obj.mapSeq fun _ => List.toArray vs)).get? a = some (seqObj "list" (List.toArray vs) c2) := ⟨_, get?_update_seq na fun _ => List.toArray vs⟩
  refine wpAny_bind (seqEpoch_at na rfl ?_)
  refine wpAny_bind (listUpdate_at na rfl ?_ (Nat.zero_le _) (by rw [List.size_toArray, sizeLine_eq]; omega))
  have e : ((List.toArray (List.range vs.length)).toList.map fun i => vs.getD i Value.none) = vs := by
   apply List.ext_getElem?
   intro i
   by_cases hi : i < vs.length
   ·simp [hi]
   ·simp [hi]
  have f2 := fin (List.toArray (List.range vs.length)) ⟨by simp, by simp⟩ (fun i j hij hj => by omega)
  rw [e] at f2
  simp only [bne_self_eq_false, Bool.false_eq_true, if_false]
  exact wpAny_pure (tail _ h64 f2 c2 hc2)
theorem xmJ {l : Addr} {κ : SortKind} {lt : Nat → Nat → Bool} {Q : Value → Shared → Prop} (hl : s.heap.IsList l vs.toArray) (h64 : vs.length < 64) (S : L2.STO lt vs.length)
  (hkind : 2 ≤ vs.length → ∀ s' : Shared, (∀ b o, s.heap.get? b = some o → s'.heap.get? b = some o) → wpAny (model prog w) A.in1.in1 (keyKind' vs.toArray) (fun κ' s'' => κ' = κ ∧ s' = s'') (fun _ _ => False) s')
  (hcmp : ∀ s' : Shared, (∀ b o, s.heap.get? b = some o → s'.heap.get? b = some o) → ∀ i j (C : Bool → Shared → Prop), i < vs.length → j < vs.length → C (lt i j) s' → wpAny (model prog w) A.in1.in1 (keyLt' κ (vs.getD i Value.none) (vs.getD j Value.none)) C (fun _ _ => False) s')
  (fin : ∀ p : Array Nat, L2.Pm vs.length p → L2.Up lt p vs.length → ∀ D h' c, s.heap.objs.size ≤ D → (∀ b o, s.heap.get? b = some o → h'.get? b = some o) → h'.get? D = some (seqObj "list" (List.toArray (p.toList.map fun i => vs.getD i Value.none)) c) → Q (.ref D) { s with heap := h' }) :
  wpAny (model prog w) A (call (.builtin "sorted") [.ref l]) Q E s := by
 refine Calls.call_function_entry kind_sorted plain_sorted entry_sorted (args_sorted1 _) ?_
 unfold Builtin.«sorted»
 refine wpAny_bind (m := checkCount "sorted" 1 1 _) (wpAny_pure ?_)
 refine wpAny_bind (collect_list hl ?_ (by rw [sizeLine_eq]; omega))
 refine wpAny_bind (wpAny_newList ?_ (by rw [sizeLine_eq]; omega))
 have hsz : ((s.heap.push (seqObj "list" #[] 0)).update s.heap.objs.size (Obj.mapSeq (· ++ vs.toArray))).objs.size = s.heap.objs.size + 1 := by
  rw [Heap.size_update, size_push']
 have hoL : (((s.heap.push (seqObj "list" #[] 0)).update s.heap.objs.size (Obj.mapSeq (· ++ vs.toArray))).push (seqObj "list" vs.toArray 0)).get? (s.heap.objs.size + 1) = some (seqObj "list" vs.toArray 0) := by
  rw [← hsz]; exact Heap.get?_push_size _ rfl
 have keep : ∀ b o, s.heap.get? b = some o → (((s.heap.push (seqObj "list" #[] 0)).update s.heap.objs.size (Obj.mapSeq (· ++ vs.toArray))).push (seqObj "list" vs.toArray 0)).get? b = some o := fun b o q => by
  have hlt : b < s.heap.objs.size := Heap.lt_size q
  rw [Heap.get?_push_ne _ _ _ (by rw [hsz]; exact Nat.ne_of_lt (Nat.lt_succ_of_lt hlt)), Heap.get?_update_ne _ _ _ _ (Nat.ne_of_lt hlt), Heap.get?_push_ne _ _ _ (Nat.ne_of_lt hlt)]
  exact q
 have keep2 : ∀ (h' : Heap), (∀ b o, b ≠ s.heap.objs.size + 1 → (((s.heap.push (seqObj "list" #[] 0)).update s.heap.objs.size (Obj.mapSeq (· ++ vs.toArray))).push (seqObj "list" vs.toArray 0)).get? b = some o → h'.get? b = some o) → ∀ b o, s.heap.get? b = some o → h'.get? b = some o := fun h' k b o q =>
  k b o (Nat.ne_of_lt (Nat.lt_succ_of_lt (Heap.lt_size q))) (keep b o q)
 show wpAny _ _ _ _ _ { s with heap := ((s.heap.push (seqObj "list" #[] 0)).update s.heap.objs.size (Obj.mapSeq (· ++ vs.toArray))).push (seqObj "list" vs.toArray 0) }
 rw [hsz]
 refine wpAny_bind (wpAny_holding (wpAny_call_entry slot_list_sort ⟨_, hoL, rfl⟩ entry_list_sort ?body (args_list_sort _)))
 case body =>
  refine xlM (s := { s with heap := ((s.heap.push (seqObj "list" #[] 0)).update s.heap.objs.size (Obj.mapSeq (· ++ vs.toArray))).push (seqObj "list" vs.toArray 0) }) (lt := lt) (κ := κ) hoL h64 S (fun h2 s' k => hkind h2 s' (keep2 _ k)) (fun s' k => hcmp s' (keep2 _ k)) fun p hp hu h' c k hc => ?_
  exact ⟨_, rfl, wpAny_pure ⟨_, rfl, fin p hp hu _ h' c (Nat.le_succ _) (keep2 _ k) hc⟩⟩
theorem xn5 {x y : Addr} {ox oy : Obj} {a1 a2 b1 b2 : Int} {t1 t2 u1 u2 : Tok} {n k : Nat} {Q : Bool → Shared → Prop} (hx : s.heap.get? x = some ox) (dx : ox.data = .seq #[.int a1 t1, .int a2 t2] n) (hy : s.heap.get? y = some oy) (dy : oy.data = .seq #[.int b1 u1, .int b2 u2] k)
  (h : Q (HT.lexLt [a1, a2] [b1, b2]) s) : wpAny (model prog w) A (keyLt' (tuples' true) (.ref x) (.ref y)) Q E s := by
 refine kat_lt hx dx hy dy (kat_cons (wpAny_eqBool_int (kat_go (fun e => kat_yes ?_) fun e => kat_no ?_)))
 ·have e' : a1 = b1 := by simpa using e
  rw [HT.uV, if_pos e'] at h
  refine kat_cons (wpAny_eqBool_int (kat_go (fun e => kat_yes ?_) fun e => kat_no ?_))
  ·have e2 : a2 = b2 := by simpa using e
   rw [HT.uV, if_pos e2] at h
   exact kat_nil h
  ·have e2 : ¬ a2 = b2 := by simpa using e
   rw [HT.uV, if_neg e2] at h
   exact kat_one _ _ (lt_int h)
 ·have e' : ¬ a1 = b1 := by simpa using e
  rw [HT.uV, if_neg e'] at h
  have z := kat_lt_int (prog := prog) (w := w) (A := A) (E := fun _ _ => False) (t := t1) (u := u1) h
  rw [keyLt'_oneType] at z
  exact z
end
end PySem.W
namespace L2
open PySem PySem.Spec PyProof.Rows PySem.W
theorem xjP : ∀ xs : List Int, HT.lexLt xs xs = false
 | [] => rfl
 | x :: r => by rw [HT.uV, if_pos rfl]; exact xjP r
theorem xmK {ps : List (Int × Int)} (h : ps.Nodup) : STO (fun i j => HT.lexLt [(ps.getD i (0, 0)).1, (ps.getD i (0, 0)).2] [(ps.getD j (0, 0)).1, (ps.getD j (0, 0)).2]) ps.length := by
 have lt_iff : ∀ a b c d : Int, HT.lexLt [a, b] [c, d] = true ↔ a < c ∨ (a = c ∧ b < d) := fun a b c d => by
  rw [HT.uV]
  by_cases e : a = c
  ·rw [if_pos e, HT.uV]
   by_cases e2 : b = d
   ·rw [if_pos e2, HT.xhL]; simp; omega
   ·rw [if_neg e2, decide_eq_true_iff]; omega
  ·rw [if_neg e, decide_eq_true_iff]; omega
 refine ⟨fun i _ => xjP _, fun i j k _ _ _ h1 h2 => ?_, fun i j hi hj ne => ?_⟩
 ·rw [lt_iff] at h1 h2 ⊢; omega
 ·rw [lt_iff, lt_iff]
  have hne : ps.getD i (0, 0) ≠ ps.getD j (0, 0) := by
   have e1 : ps.getD i (0, 0) = ps[i] := by simp [hi]
   have e2 : ps.getD j (0, 0) = ps[j] := by simp [hj]
   rw [e1, e2]
   intro z
   have hpw := List.pairwise_iff_getElem.mp h
   rcases Nat.lt_or_gt_of_ne ne with y | y
   ·exact hpw i j hi hj y z
   ·exact hpw j i hj hi y z.symm
  have : (ps.getD i (0, 0)).1 ≠ (ps.getD j (0, 0)).1 ∨ (ps.getD i (0, 0)).2 ≠ (ps.getD j (0, 0)).2 := by
   by_cases z : (ps.getD i (0, 0)).1 = (ps.getD j (0, 0)).1
   ·right; exact fun y => hne (Prod.ext z y)
   ·exact .inl z
  omega
def xen (H : Hp) (t : Addr) (q : Int × Int) : Prop := H t = some (.tup [.int q.1, .int q.2])
def xpf (K : W.Frag) : List V → Hp → VK → Prop := fun xs H Q => ∃ (p : Addr) (ts : List Addr) (ps : List (Int × Int)), xs = [.ref p] ∧ SqL K H p (ts.map V.ref) ∧ Paired (xen H) ts ps ∧ ps.Nodup ∧ ts.length < 64 ∧
 ∀ (l : Addr) (us : List Addr), us.Perm ts → H l = none → Q (.ref l) (upd H l (.lst (us.map V.ref)))
section
variable {X : Cx}
theorem xfw {α β : Type} {F : α → β → Prop} {x : α} {y : β} : ∀ {l₁ : List α} {l₂ : List β} {i : Nat}, Paired F l₁ l₂ → i < l₁.length → F (l₁.getD i x) (l₂.getD i y)
 | _, _, _, .nil, h => by simp at h
 | _, _, 0, .cons r _, _ => by simpa using r
 | _, _, i + 1, .cons _ t, h => by
  have := xfw (x := x) (y := y) (i := i) t (by simpa using h)
  simpa using this
theorem xgm {h : Heap} : ∀ (ts : List Addr), (∀ t ∈ ts, ∃ o xs n i tk, h.get? t = some o ∧ o.cls = .type "tuple" ∧ o.data = .seq xs n ∧ xs[0]? = some (.int i tk)) → ∃ fs, KatTups h (ts.map Value.ref) fs ∧ fs.length = ts.length ∧ ∀ v ∈ fs, ∃ i tk, v = .int i tk
 | [], _ => ⟨[], .nil, rfl, fun _ z => by cases z⟩
 | t :: r, hh => by
  obtain ⟨fs, k1, k2, k3⟩ := xgm r fun u hu => hh u (List.mem_cons_of_mem _ hu)
  obtain ⟨o, xs, n, i, tk, a1, a2, a3, a4⟩ := hh t List.mem_cons_self
  refine ⟨.int i tk :: fs, .cons a1 a2 a3 a4 k1, by simp [k2], fun v hv => ?_⟩
  rcases List.mem_cons.mp hv with z | z
  ·exact ⟨i, tk, z⟩
  ·exact k3 v z
theorem xit : zp X (.builtin "sorted") (xpf X.K) := by
 intro pins s σ H xs us Q I r h
 obtain ⟨p, ts, ps, rfl, hq, hpr, hnd, h64, q⟩ := h
 obtain ⟨u, rfl, rx⟩ := vals1 r
 cases rx
 obtain ⟨its, r', pl, hz⟩ := I.list hq
 have hlen := r'.length
 rw [List.length_map] at hlen
 have hpl : ts.length = ps.length := hpr.length
 have hit : its = ts.map Value.ref := by
  refine List.ext_getElem? fun i => ?_
  by_cases hi : i < ts.length
  ·have hx : (ts.map V.ref)[i]? = some (.ref ts[i]) := by rw [List.getElem?_map, List.getElem?_eq_getElem hi]; rfl
   obtain ⟨u, h1, h2⟩ := Vals.get r' hx
   cases h2
   rw [h1, List.getElem?_map, List.getElem?_eq_getElem hi]; rfl
  ·rw [List.getElem?_eq_none (by omega), List.getElem?_eq_none (by rw [List.length_map]; omega)]
 have obj : ∀ i, i < ts.length → ∃ o t1 t2 n, s.heap.get? (ts.getD i 0) = some o ∧ o.cls = .type "tuple" ∧ o.data = .seq #[.int (ps.getD i (0, 0)).1 t1, .int (ps.getD i (0, 0)).2 t2] n := fun i hi => by
  have hp : xen H (ts.getD i 0) (ps.getD i (0, 0)) := xfw (x := 0) (y := (0, 0)) hpr hi
  obtain ⟨_, its', r2, o, ho, hc, n, hd⟩ := I.hok _ _ hp
  cases r2 with | cons q1 r2 => cases r2 with | cons q2 r2 =>
  cases r2
  obtain ⟨t1, rfl⟩ := q1
  obtain ⟨t2, rfl⟩ := q2
  exact ⟨o, t1, t2, n, ho, hc, hd⟩
 have S := xmK hnd
 have hv : ∀ i, i < ts.length → its.getD i Value.none = .ref (ts.getD i 0) := fun i hi => by
  rw [hit]; simp [hi]
 refine xmJ (vs := its) (κ := tuples' true) pl.isList (by omega) (by rw [← hlen, hpl]; exact S) (fun h2 s' keep => ?_) (fun s' keep i j C hi hj hC => ?_) fun pm hp hu D h' c hD keep hDc => ?_
 ·obtain ⟨fs, k1, k2, k3⟩ := xgm (h := s'.heap) ts fun t ht => by
   obtain ⟨i, hi⟩ := List.mem_iff_getElem?.mp ht
   have hlt := (List.getElem?_eq_some_iff.mp hi).1
   obtain ⟨o, t1, t2, n, a1, a2, a3⟩ := obj i hlt
   have e : ts.getD i 0 = t := by simp [hi]
   rw [e] at a1
   exact ⟨o, _, n, _, t1, keep _ _ a1, a2, a3, rfl⟩
  rw [hit]
  refine kat_kind (T := .type "int") k1 (by omega) (fun v hv' => ?_) (by rfl) ⟨by rfl, rfl⟩
  obtain ⟨i, tk, rfl⟩ := k3 v hv'
  exact .now
 ·obtain ⟨o1, t1, t2, n1, a1, a2, a3⟩ := obj i (by omega)
  obtain ⟨o2, u1, u2, n2, b1, b2, b3⟩ := obj j (by omega)
  rw [hv i (by omega), hv j (by omega)]
  exact xn5 (keep _ _ a1) a3 (keep _ _ b1) b3 hC
 ·have hn : its.length = ts.length := by omega
  rw [hn] at hp
  have hlp : pm.toList.length = ts.length := by rw [Array.length_toList]; exact hp.size
  have hperm : (pm.toList.map fun i => ts.getD i 0).Perm ts := by
   have e : ((List.range ts.length).map fun i => ts.getD i 0) = ts := by
    apply List.ext_getElem?
    intro i
    by_cases hi : i < ts.length
    ·simp [hi]
    ·simp [hi]
   have := hp.perm.map (fun i => ts.getD i 0)
   rwa [e] at this
  have hvals : Vals ((pm.toList.map fun i => ts.getD i 0).map V.ref) (pm.toList.map fun i => its.getD i Value.none) := by
   refine xcT (by simp) fun j x u e1 e2 => ?_
   rw [List.map_map, List.getElem?_map] at e1
   rw [List.getElem?_map] at e2
   cases hq2 : pm.toList[j]? with
   | none => rw [hq2] at e1; cases e1
   | some m =>
    rw [hq2] at e1 e2
    cases e1
    cases e2
    have hm : m < ts.length := List.mem_range.mp (hp.perm.mem_iff.mp (List.mem_of_getElem? hq2))
    show RelV (.ref (ts.getD m 0)) (its.getD m Value.none)
    rw [hv m hm]
    rfl
  exact ⟨.ref D, _, I.laid (a := D) (o := .lst ((pm.toList.map fun i => ts.getD i 0).map V.ref)) (t' := s.toks) (fun b o eo => keep b o eo) hD ⟨by rw [List.length_map, List.length_map, hlp, sizeLine_eq]; omega, _, c, hvals, hDc⟩, rfl, q _ _ hperm (I.hok.fresh hD)⟩
end
end L2
namespace L2
open PySem PySem.Spec PyProof.Rows
theorem xje {K : W.Frag} {l : Addr} {xs : List V} {te : TE} {caps : L2.St} {Q : VK} {H2 : Hp} (f : V → V) (hl : SqL K H2 l xs) (hn : xs.length < sizeLine)
  (hs : ∀ x ∈ xs, ∃ T v1 v2, x = .ref T ∧ SqT K H2 T [v1, v2] ∧ ∀ H3, xc H2 H3 → ∀ R : VK, (∀ H6, xc H3 H6 → R (f x) H6) → te (some v1 :: some v2 :: caps) H3 R)
  (hd : ∀ D H', H2 D = none → xc H2 H' → H' D = some (.lst (xs.map f)) → Q (.ref D) H') : xc5 K (Itl K l) caps xgT te Q H2 := by
 unfold xc5
 intro D hD
 refine ⟨fun i m acc H3 => m = xs.length - i ∧ i ≤ xs.length ∧ acc = (xs.take i).map f ∧ H3 D = some (.lst acc) ∧ xc H2 H3, ⟨xs.length, by simp, Nat.zero_le _, rfl, xo, xc.new hD⟩, ?_⟩
 rintro i m acc H3 ⟨rfl, hi, rfl, hD3, s3⟩
 refine ⟨hD3, ?_⟩
 have q := s3.seq hl
 by_cases hlt : i < xs.length
 ·have hx : xs[i]? = some xs[i] := List.getElem?_eq_getElem hlt
  have et : xs.take (i + 1) = xs.take i ++ [xs[i]] := by rw [List.take_succ, hx]; rfl
  refine .inr ⟨⟨xs, xs[i], q, hx⟩, by rw [List.length_map, List.length_take]; omega, fun v H4 y => ?_⟩
  obtain ⟨e, y⟩ := y
  have ev := y xs q
  rw [hx] at ev
  cases ev
  subst e
  obtain ⟨T, v1, v2, h1, h2, h3⟩ := hs _ (List.getElem_mem hlt)
  refine ⟨T, v1, v2, h1, s3.seqT h2, fun _ => ?_, fun z => by cases z⟩
  refine h3 _ s3 _ fun H6 s6 => ⟨s6.at hD3, xs.length - (i + 1), by omega, rfl, hlt, ?_, xo, (s3.trans s6).put hD⟩
  rw [et, List.map_append]; rfl
 ·have e : i = xs.length := by omega
  subst e
  rw [List.take_length] at hD3 ⊢
  exact .inl ⟨⟨xs, q, Nat.le_refl _⟩, hd D H3 hD s3 hD3⟩
end L2
namespace L2
open PySem PySem.Spec PyProof.Rows
def xkD (K : W.Frag) (C f : Addr) : Bool := match K.lookup C with
 | some ⟨.type "type", _, .cls cd, sl⟩ => (match cd.mro, sl.toList with
  | .ref C' :: bm, [_, _, _, _, some (.builtin n), _] => C' == C && n == "ValueError.__new__" && !cd.hasDel && W.tailIn K xis bm && W.nsOkIn K cd.ns && W.nsIn K cd.ns "__init__" == some (some (.ref f))
  | _, _ => false)
 | _ => false
def xcy : List Value → List Value
 | .ref _ :: r => xcy r
 | l => l
structure xeo (K : W.Frag) (C f : Addr) : Prop where
 xi : xkD K C f = true
 fn : W.isFn K (.ref f) = true
 hd : W.hasDictIn K C = true
 mr : (W.clsIn K C).any (fun cd => xcy cd.mro == xis) = true
 ob : W.mroIn K C (.type "object") = some true
 sa : W.findIn K (.ref C) "__setattr__" = some (some (.builtin "object.__setattr__"))
theorem xep (self : Value) (what : Str) : ∀ l : List Value, refuseLoop self what l = refuseLoop self what (xcy l)
 | [] => rfl
 | v :: r => by
  cases v with
  | ref C => rw [refuseLoop_ref]; exact xep self what r
  | _ => rfl
section
variable {prog : Program} {w : World} {A : Around} {E : Value → Shared → Prop} {s : Shared} {K : W.Frag} {x C f : Addr} {ox : Obj} {name : Str} {v : Value}
theorem xn6 {od : Option Obj} {tk : Tok} {R : Result → Shared → Prop} (X : K.In s.heap) (I : W.InstAt s.heap x ox C od) (F : xeo K C f) (n : xR K C name)
  (h : ∀ b, wpAny (model prog w) A.in1 (Builtin.ObjectAttr.storeInOwnDict (.ref x) (.ref C) (.str name tk) name v b) (fun fin s' => match fin with | .done f => R (.ok f) s' | .again c' => c'.quiet = true ∧ codeAny (model prog w) A c' R s') (fun e s' => R (.error e) s') s) :
  codeAny (model prog w) A (.call (.builtin "object.__setattr__") ⟨[.ref x, .str name tk, v], []⟩) R s := by
 have SF := PySem.F.store_object
 obtain ⟨cd, hc, hm0⟩ := W.any_some F.mr
 have sub : W.Looks (model prog w) s.heap (isInstance (.ref x) (.type "object")) true := I.type.andThen (W.looks_mroIn X F.ob)
 refine codeAny_call_builtin SF.slot.plain SF.entry (@W.check_slot (model prog w) _ _ s "object.__setattr__" "object" "__setattr__" (.ref x) [.str name tk, v] [] _ SF.kind SF.split sub (SF.args (.ref x) (.str name tk) v) ?_)
 have hm : W.Looks (model prog w) s.heap (mroOf (.ref C)) cd.mro := (W.looks_clsIn X hc).andThen .now
 have L3 : W.Looks (model prog w) s.heap (Builtin.ObjectAttr.storeTaker? none) none := .now
 rw [W.osa_eq, refuse_eq]
 refine wpAny_bind (wpAny_bind (I.type.here (wpAny_bind (hm.here ?_))))
 rw [xep, beq_iff_eq.mp hm0, show refuseLoop (Value.ref x) "__setattr__" xis = pure () from PySem.F.store_ValueError.passes _]
 refine wpAny_pure (wpAny_bind (I.type.here (wpAny_bind ((W.looks_findIn X n).here (wpAny_bind (L3.here ?_))))))
 exact h _
theorem xn7 {Q : Unit → Shared → Prop} (X : K.In s.heap) (I : W.InstAt s.heap x ox C none) (hdx : ox.dict = none) {vs : Array Value} (hdat : ox.data = .fields vs) (F : xeo K C f) (n : xR K C name)
  (h : ∀ h' t', h'.Ns1 s.heap.objs.size (fun y => if y = name then some v else none) → h'.get? x = some { ox with dict := some s.heap.objs.size } → (∀ b o, b ≠ x → s.heap.get? b = some o → h'.get? b = some o) → Q () { s with heap := h', toks := t' }) :
  wpAny (model prog w) A (setAttr (.ref x) name v) Q E s := by
 refine W.set_plain X I F.sa (xn6 (s := { s with toks := s.toks + 1 }) X I F n fun b => ?_)
 obtain ⟨cd, hc, hd'⟩ := W.any_some F.hd
 have hx := I.at_
 obtain ⟨c0, d0, dt0, sl0⟩ := ox
 cases hdx
 cases hdat
 cases I.cls
 refine wpAny_bind (wpAny_pure (wpAny_bind (wpAny_bind (wpAny_loadPart hx (wpAny_bind (W.Looks.here (s := { s with toks := s.toks + 1 }) (W.looks_clsIn X hc) ?_))))))
 rw [hd']
 have hx₁ : (s.heap.push { cls := .type "dict", data := .dict #[] }).get? x = some ⟨.ref C, none, .fields vs, sl0⟩ := Heap.get?_push_of_some _ hx
 have hxs : x ≠ s.heap.objs.size := Nat.ne_of_lt (Heap.lt_size hx)
 refine wpAny_bind (wpAny_alloc' ?_)
 refine wpAny_bind (wpAny_update' hx₁ ?_)
 refine wpAny_pure ?_
 have hgd : ((s.heap.push { cls := .type "dict", data := .dict #[] }).update x fun o => { cls := o.cls, dict := some s.heap.objs.size, data := o.data, slots := o.slots }).get? s.heap.objs.size
   = some { cls := .type "dict", data := .dict #[] } :=
  (Heap.get?_update_ne _ _ _ _ hxs.symm).trans (Heap.get?_push_at rfl rfl)
 have hnd : ((s.heap.push { cls := .type "dict", data := .dict #[] }).update x fun o => { cls := o.cls, dict := some s.heap.objs.size, data := o.data, slots := o.slots }).Ns s.heap.objs.size (fun _ => none) :=
  ⟨_, #[], _, hgd, rfl, fun e he => absurd he (by simp), fun _ => rfl⟩
 show wpAny _ _ (Builtin.ObjectAttr.storeInDict s.heap.objs.size (.str name _) name v) _ _ _
 unfold Builtin.ObjectAttr.storeInDict Builtin.ObjectAttr.newKeyGuard
 refine wpAny_bind (wpAny_pure (wpAny_bind (wpAny_nsSet1 (Heap.Ns1.of_empty hnd) fun h' hn' hs => ?_)))
 obtain ⟨oD, esD, epD, hoD, hdD, hcD⟩ := hn'.count (Within.cons name v Within.nil)
 refine wpAny_bind (wpAny_lookBehind hoD (by rw [hdD]; exact pastItsLine_dict (Nat.le_trans hcD (by rw [List.length_cons, List.length_nil, sizeLine_eq]; omega))) ?_)
 refine wpAny_pure (h h' _ hn' ((hs.2 x hxs).trans (Heap.get?_update_self _ hx₁ rfl)) fun b ob hbx hb => ?_)
 exact (hs.2 b (Nat.ne_of_lt (Heap.lt_size hb))).trans ((Heap.get?_update_ne _ _ _ _ hbx).trans (Heap.get?_push_of_some _ hb))
end
def HO.exc (a C : Addr) (dx : Option Addr) : HO := .ext fun h => ∃ o t, h.get? a = some o ∧ o.cls = .ref C ∧ o.dict = dx ∧ o.data = .fields #[.ref t, .none, .none, .none, .bool false, .none]
def rem (H : Hp) (a : Addr) : Hp := fun b => if b = a then none else H b
section
variable {X : Cx} {pins : List (Addr × Obj)} {σ : St} {H : Hp} {s : Shared} {a C f : Addr} {fl : Str} {y : V} {u : Value} {A : Around} {E : Value → Shared → Prop}
theorem xhA {dx : Option Addr} {h1 h2 : Heap} (q : ∃ o t, h1.get? a = some o ∧ o.cls = .ref C ∧ o.dict = dx ∧ o.data = .fields #[.ref t, .none, .none, .none, .bool false, .none]) (k : ∀ o, h1.get? a = some o → h2.get? a = some o) :
  ∃ o t, h2.get? a = some o ∧ o.cls = .ref C ∧ o.dict = dx ∧ o.data = .fields #[.ref t, .none, .none, .none, .bool false, .none] := by
 obtain ⟨o, t, e, r⟩ := q
 exact ⟨o, t, k o e, r⟩
theorem xlN {Q : Unit → Shared → Prop} (I : Inv X pins σ H s) (e : H a = some (HO.exc a C none)) (F : xeo X.K C f) (n : xR X.K C fl) (ry : RelV y u)
  (h : ∀ d s', H d = none → d ≠ a → Inv X pins σ (upd (upd H d (.xd [(fl, y)])) a (HO.exc a C (some d))) s' → Q () s') : wpAny (model X.prog X.w) A (setAttr (.ref a) fl u) Q E s := by
 obtain ⟨⟨o, t, ea, hc, hd, hdat⟩, _⟩ := I.hok a _ e
 have J : W.InstAt s.heap a o C none := ⟨ea, hc, by obtain ⟨c1, d1, dt, sl⟩ := o; cases hdat; rfl, by rw [hd]; trivial⟩
 refine xn7 I.kIn J hd hdat F n fun h' t' hn hx kp => ?_
 have hd0 : H s.heap.objs.size = none := I.hok.fresh (Nat.le_refl _)
 have nda : s.heap.objs.size ≠ a := fun z => by rw [z, e] at hd0; cases hd0
 have nA : ∀ b, H b = none → b ≠ a := fun b n z => by rw [z, e] at n; cases n
 have oth : ∀ b, b ≠ a → b ≠ s.heap.objs.size → upd (upd H s.heap.objs.size (.xd [(fl, y)])) a (HO.exc a C (some s.heap.objs.size)) b = H b := fun b h1 h2 => by rw [xn h1, xn h2]
 have own : ∀ b u, H b = some u → u ≠ HO.exc a C none → upd (upd H s.heap.objs.size (.xd [(fl, y)])) a (HO.exc a C (some s.heap.objs.size)) b = some u := fun b u q nu => by
  rw [oth b (fun z => by rw [z, e] at q; exact nu (Option.some.inj q).symm) (xB q hd0)]; exact q
 refine h s.heap.objs.size _ hd0 nda (I.un ⟨fun b o q n _ _ => kp b o (nA b n) q, fun b o q n _ _ => ⟨o.slots, kp b o (nA b n) q⟩, fun b o q n _ => ?_, fun b o q _ => ?_, fun b u q f => own b u q (by rintro rfl; exact f)⟩ fun b u q => ?_)
 ·rw [oth b (nA b n) (Nat.ne_of_lt (Heap.lt_size q))]; exact n
 ·by_cases hb : b = a
  ·subst hb; exact ⟨_, hx⟩
  ·exact ⟨o, kp b o hb q⟩
 ·by_cases hb : b = a
  ·subst hb
   rw [xo] at q; cases q
   exact ⟨⟨_, t, hx, hc, rfl, hdat⟩, ⟨_, hx⟩, fun h1 h2 => xhA⟩
  ·rw [xn hb] at q
   by_cases hb2 : b = s.heap.objs.size
   ·subst hb2
    rw [xo] at q; cases q
    refine ⟨_, hn, fun g => ?_⟩
    show xab (List.lookup g [(fl, y)]) (if g = fl then some u else none)
    rw [List.lookup_cons]
    by_cases q : g = fl
    ·subst q; simp; exact ry
    ·rw [beq_false_of_ne q, if_neg q]; exact True.intro
   ·rw [xn hb2] at q
    refine (I.hok b u q).stay (fun c v hc q' => kp c v ?_ q') (fun c q' => own _ _ q' (fun z => by cases z)) fun c u' q' hf => own _ _ q' (by rintro rfl; exact hf)
    rcases hc with rfl | hc
    ·exact hb
    ·intro z; rw [z, e] at hc; cases hc
theorem Inv.forget (I : Inv X pins σ H s) {φ : Heap → Prop} (e : H a = some (.ext φ)) : Inv X pins σ (rem H a) s := by
 have non : ∀ b, H b = none → rem H a b = none := fun b n => by unfold rem; split <;> first | rfl | exact n
 have kp : ∀ b u, H b = some u → (∀ φ, u ≠ .ext φ) → rem H a b = some u := fun b u q n => by
  unfold rem; rw [if_neg]
  ·exact q
  ·intro z; rw [z, e] at q; exact n φ (Option.some.inj q).symm
 refine ⟨I.ok, I.os, I.bare, ⟨I.base.keep, I.base.slot, fun b o q n x => non b (I.base.free b o q n x), I.base.there, fun b u q f => kp b u (I.base.fix b u q f) (by rintro φ rfl; exact f)⟩, I.loc, I.cell, non _ I.free, fun x c q => ?_, fun p hp => ?_, fun b u q => ?_, I.len⟩
 ·rcases I.freeC x c q with z | ⟨z1, o, z2, z3⟩
  ·exact .inl (non c z)
  ·exact .inr ⟨z1, o, kp c _ z2 (fun φ z => by cases z), z3⟩
 ·obtain ⟨e1, n, r⟩ := I.pin p hp
  exact ⟨e1, non _ n, r⟩
 ·have q' : H b = some u := by
   unfold rem at q
   split at q
   ·cases q
   ·exact q
  exact (I.hok b u q').stay (fun _ _ _ z => z) (fun c z => kp c _ z (fun φ z => by cases z)) fun c u' z hf => kp c _ z (by rintro φ rfl; exact hf)
end
def xpX (K : W.Frag) (ta tv : TE) (f : Str) : TS := fun D σ H => tv σ H fun y H1 => ta σ H1 fun x H2 => ∃ a C g, x = .ref a ∧ H2 a = some (HO.exc a C none) ∧ xeo K C g ∧ xR K C f ∧
 ∀ d, H2 d = none → d ≠ a → D.nx σ (upd (upd H2 d (.xd [(f, y)])) a (HO.exc a C (some d)))
theorem xn8 {X : Cx} {o value : Expr} {f : Str} {pos pos' : Pos} {ta tv : TE} (ha : PE X o ta) (hv : PE X value tv) (hs : swapsWith value (some (.Attribute o f pos')) pos.line X.env = pure false) : PS X (.Assign [.Attribute o f pos'] value pos) (xpX X.K ta tv f) := by
 intro pins s σ H D I h
 refine plainObj_wpAny_Assign_Attribute (thn (hv pins s σ H _ I h) fun u s1 ⟨y, H1, I1, ry, q⟩ => thn (ha pins s1 σ H1 _ I1 q) fun ov s2 ⟨x, H2, I2, rx, a, C, g, ex, ea, F, n, q2⟩ => ?_) hs
 subst ex
 obtain rfl : ov = Value.ref a := rx
 exact xlN I2 ea F n ry fun d s3 n1 n2 I3 => ⟨σ, _, I3, q2 d n1 n2⟩
def xiu (C : Addr) (f : Str) : Sp := fun vs H Q _ => ∃ a v, vs = [.ref a, v] ∧ H a = some (HO.exc a C none) ∧ ∀ d, H d = none → d ≠ a → Q .non (upd (upd H d (.xd [(f, v)])) a (HO.exc a C (some d)))
section
variable {prog : Program} {w : World} {A : Around} {E : Value → Shared → Prop} {h : Heap} {g : Array GenState} {d : Drawn} {t : Nat} {os : OsState}
variable {nm q : Str} {C N : Addr} {bs bm bmB : List Value} {hdct : Bool} {sn : List Str} {sub : List Value} {ab : Bool} {col : Option Bool} {dd : Option Addr} {k0 k1 k2 k3 k5 : Option Value} {B newId initId : String}
theorem xhN (F : ExcBaseFacts B newId initId bmB) (T : OwnTail h bmB bm) {mN : Str → Option Value} {rest : List Value} {fI : Addr} {oI : Obj} {Q : Fin → Shared → Prop}
  (hC : h.get? C = some (excClassObj nm q C N bs bm hdct sn sub ab col dd k0 k1 k2 k3 k5 newId)) (hn : h.Ns N mN) (hi : mN "__init__" = some (.ref fI))
  (hfI : h.get? fI = some oI) (hfc : oI.cls = .type "function")
  (hq : ∀ h' e, Heap.MadeExcOf h h' e (.ref C) rest → h.objs.size ≤ e →
   wpAny (model prog w) A (call (.ref fI) (.ref e :: rest)) (fun r s' => r = .none ∧ Q (.done (.ret (.ref e))) s') E ⟨h', g, d, t, os⟩) (hrest : rest.length ≤ sizeLine := by size_fits) :
  wpAny (model prog w) A (Builtin.«type.__call__» ⟨.ref C :: rest, []⟩) Q E ⟨h, g, d, t, os⟩ := by
 repeat (first | with_reducible refine wpAny_loadPart_at hC ?_ | with_reducible refine wpAny_madeBy_exc hC ?_ | wp_step)
 refine codeAny_call_builtin_code (Code.quiet_builtin _ F.quiet) (wpAny_check_new_subT F T hC ?_)
 refine codeAny_exc_new_subT F T hC ?_ hrest
 show wpAny _ _ _ _ _ _
 have hC₁ := Heap.get?_push_of_some { cls := .ref C, data := .fields #[.ref h.objs.size, .none, .none, .none, .bool false, .none] }
  (Heap.get?_push_of_some { cls := .type "tuple", data := .seq rest.toArray } hC)
 have hfI₁ := Heap.get?_push_of_some { cls := .ref C, data := .fields #[.ref h.objs.size, .none, .none, .none, .bool false, .none] }
  (Heap.get?_push_of_some { cls := .type "tuple", data := .seq rest.toArray } hfI)
 have hn₁ : ((h.push { cls := .type "tuple", data := .seq rest.toArray }).push { cls := .ref C, data := .fields #[.ref h.objs.size, .none, .none, .none, .bool false, .none] }).Ns N mN :=
  let ⟨o, es, ep, e, r⟩ := hn; ⟨o, es, ep, Heap.get?_push_of_some _ (Heap.get?_push_of_some _ e), r⟩
 have hget : ((h.push { cls := .type "tuple", data := .seq rest.toArray }).push
   { cls := .ref C, data := .fields #[.ref h.objs.size, .none, .none, .none, .bool false, .none] }).get? (h.objs.size + 1) = some
   { cls := .ref C, data := .fields #[.ref h.objs.size, .none, .none, .none, .bool false, .none] } := by heap_get
 have hcC : (Value.ref C :: bm).contains (.ref C) = true := by simp
 have T₁ := T.keeps (h' := (h.push { cls := .type "tuple", data := .seq rest.toArray }).push { cls := .ref C, data := .fields #[.ref h.objs.size, .none, .none, .none, .bool false, .none] })
  fun b o e => Heap.get?_push_of_some _ (Heap.get?_push_of_some _ e)
 unfold isInstance
 repeat (first | with_reducible refine wpAny_loadPart_at hget ?_ | (with_reducible refine wpAny_isSubtype_exc hC₁ ?_; rw [hcC]) | wp_step)
 show wpAny _ _ (typeLookup (.ref C) _) _ _ _
 refine wpAny_typeLookup_tail hC₁ hn₁ T₁ F.mroIs F.init.lookup ?_
 rw [hi]
 refine wpAny_holding (wpAny_bind ?_)
 unfold bindSpecial
 refine wpAny_bind (wpAny_typeOf (T := "function") ⟨_, hfI₁, hfc⟩ ?_)
 rw [if_pos (by decide)]
 refine wpAny_pure (wpAny_bind (wpAny_mono (hq _ (h.objs.size + 1) ⟨fun b o hb => Heap.get?_push_of_some _ (Heap.get?_push_of_some _ hb), Heap.get?_none_of_le (Nat.le_succ _), h.objs.size, hget, Heap.get?_none_of_le (Nat.le_refl _), ?_⟩ (Nat.le_succ _)) (fun r s' hr => ?_) fun _ _ x => x))
 ·exact Heap.get?_push_of_some _ (Heap.get?_push_at rfl rfl)
 ·obtain ⟨rfl, hQ⟩ := hr
  wp_walk
  exact hQ
theorem xmL (F : ExcBaseFacts B newId initId bmB) (T : OwnTail h bmB bm) {mN : Str → Option Value} {rest : List Value} {fI : Addr} {oI : Obj} {Q : Value → Shared → Prop}
  (hC : h.get? C = some (excClassObj nm q C N bs bm hdct sn sub ab col dd k0 k1 k2 k3 k5 newId)) (hn : h.Ns N mN) (hi : mN "__init__" = some (.ref fI))
  (hfI : h.get? fI = some oI) (hfc : oI.cls = .type "function")
  (hq : ∀ h' e, Heap.MadeExcOf h h' e (.ref C) rest → h.objs.size ≤ e →
   wpAny (model prog w) (A.under (.builtin "type.__call__" ⟨.ref C :: rest, []⟩)) (call (.ref fI) (.ref e :: rest)) (fun r s' => r = .none ∧ Q (.ref e) s') E ⟨h', g, d, t, os⟩) (hrest : rest.length ≤ sizeLine := by size_fits) :
  wpAny (model prog w) A (call (.ref C) rest) Q E ⟨h, g, d, t, os⟩ := by
 have f1 := tc_lookup
 have f2 := tc_bind (.ref C)
 have hT : (⟨h, g, d, t, os⟩ : Shared).TypeIs (.ref C) "type" := ⟨_, hC, rfl⟩
 refine wpAny_call (codeAny_of_tree ?_)
 show wpAny _ _ (callAny (.ref C) _) _ _ _
 repeat (any_goals (first | assumption | with_reducible refine wpAny_loadPart_at hC ?_ | wp_step))
 refine ⟨rfl, ?_⟩
 refine codeAny_call_builtin_at (Code.quiet_builtin _ (by decide +kernel)) entry_typeCall (wpAny_check_type_call_sub hC (xhN (hrest := hrest) F T hC hn hi hfI hfc fun h' e hm hl => ?_))
 exact hq h' e hm hl
end
section
variable {M : Model} {A : Around} {E : Value → Shared → Prop} {env : Env}
variable {nm q : Str} {C N : Addr} {bs bm : List Value} {hdct : Bool} {sn : List Str} {sub : List Value} {ab : Bool} {col : Option Bool} {dd : Option Addr} {k0 k1 k2 k3 k5 : Option Value} {newId : String}
theorem xgn {s : Shared} {x : Sem Value} {Q : Flow → Shared → Prop} (hbase : bm.contains (.type "BaseException") = true) (hh : A.handled = none)
  (h : wpAny M A x (fun v s₁ => ∃ e t od sl, v = .ref e ∧ s₁.heap.get? C = some (excClassObj nm q C N bs bm hdct sn sub ab col dd k0 k1 k2 k3 k5 newId) ∧
   s₁.heap.get? e = some { cls := .ref C, dict := od, data := .fields #[.ref t, .none, .none, .none, .bool false, .none], slots := sl } ∧ E (.ref e) s₁) E s) :
  wpAny M A (raiseStmt env (some x) none) Q E s := by
 have hcB : (Value.ref C :: bm).contains (.type "BaseException") = true := by rw [List.contains_cons, hbase, Bool.or_true]
 unfold raiseStmt
 refine wpAny_bind (wpAny_mono h (fun v s₁ h₁ => ?_) fun _ _ x => x)
 obtain ⟨e, t, od, sl, rfl, hC, he, hE⟩ := h₁
 obtain ⟨hp, g, d, tk, os⟩ := s₁
 repeat (first | with_reducible refine wpAny_loadPart_at he ?_ | with_reducible refine wpAny_loadPart_at hC ?_ | (with_reducible refine wpAny_isSubtype_exc hC ?_; rw [hcB]) | wp_step)
 exact wpAny_raiseNew_none hh hE
end
section
variable {prog : Program} {w : World} {A : Around} {E : Value → Shared → Prop} {s : Shared} {env : Env}
variable {nm q : Str} {C N : Addr} {bs bm : List Value} {hdct : Bool} {sn : List Str} {sub : List Value} {ab : Bool} {col : Option Bool} {dd : Option Addr} {k0 k1 k2 k3 k5 : Option Value} {newId : String}
theorem xkE {x : Str} {np cpos pos : Pos} {args : List Expr} {Q : Flow → Shared → Prop}
  (hbase : bm.contains (.type "BaseException") = true) (hh : A.handled = none) (hplain : (backTo cpos (starEach args env)).any (·.1) = false)
  (h : wpAny (model prog w) A (eval (.Name x np) env) (fun f s₁ => f = .ref C ∧ wpAny (model prog w) A (evalArgs (.ref C) true (backTo cpos (starEach args env)) [])
   (fun a s₂ => a.kw = [] ∧ s₂.heap.get? C = some (excClassObj nm q C N bs bm hdct sn sub ab col dd k0 k1 k2 k3 k5 newId) ∧
    wpAny (model prog w) A (call (.ref C) a.pos) (fun v s₃ => ∃ e t od sl, v = .ref e ∧ s₃.heap.get? C = some (excClassObj nm q C N bs bm hdct sn sub ab col dd k0 k1 k2 k3 k5 newId) ∧
     s₃.heap.get? e = some { cls := .ref C, dict := od, data := .fields #[.ref t, .none, .none, .none, .bool false, .none], slots := sl } ∧ E (.ref e) s₃) E s₂) E s₁) E s) :
  wpAny (model prog w) A (exec (.Raise (some (.Call (.Name x np) args [] cpos)) none pos) env) Q E s := by
 rw [arm_exec_Raise]
 first
  | refine wpAny_bind (wpAny_standAt (xgn (C := C) (nm := nm) (q := q) (N := N) (bs := bs) (bm := bm) (hdct := hdct) (sn := sn) (sub := sub) (ab := ab) (col := col) (dd := dd) (k0 := k0) (k1 := k1) (k2 := k2) (k3 := k3) (k5 := k5) (newId := newId) hbase hh (wpAny_bind (wpAny_mono (wpAny_Call_ofName (wpAny_mono h (fun f s₁ h₁ => ?_) fun _ _ x => x)) (fun v s₃ h₃ => wpAny_bind (wpAny_standAt (wpAny_pure h₃))) fun _ _ x => x))))
  | (simp only [evalOpt, Option.map]; refine wpAny_bind (wpAny_standAt (xgn (C := C) (nm := nm) (q := q) (N := N) (bs := bs) (bm := bm) (hdct := hdct) (sn := sn) (sub := sub) (ab := ab) (col := col) (dd := dd) (k0 := k0) (k1 := k1) (k2 := k2) (k3 := k3) (k5 := k5) (newId := newId) hbase hh (wpAny_bind (wpAny_mono (wpAny_Call_ofName (wpAny_mono h (fun f s₁ h₁ => ?_) fun _ _ x => x)) (fun v s₃ h₃ => wpAny_bind (wpAny_standAt (wpAny_pure h₃))) fun _ _ x => x)))))
 obtain ⟨rfl, h₁⟩ := h₁
 unfold callWith
 refine wpAny_bind (wpAny_holding (wpAny_mono h₁ (fun a s₂ h₂ => wpAny_bind (wpAny_standAt ?_)) fun _ _ x => x))
 obtain ⟨apos, akw⟩ := a
 obtain ⟨hkw, hC, h₂⟩ := h₂
 obtain rfl : akw = [] := hkw
 obtain ⟨hp, g, d, tk, os⟩ := s₂
 simp only [hplain]
 refine wpAny_bind (wpAny_keeperOf_exc hC ?_)
 refine wpAny_bind (wpAny_mono h₂ (fun v s₃ h₃ => wpAny_bind (wpAny_holding (wpAny_point (wpAny_pure h₃)))) fun _ _ x => x)
end
theorem xkF {K : W.Frag} {h : Heap} {N : Addr} {mg : Str → Option Value} {n : Str} {v : Value} (X : K.In h) (G : h.Ns N mg) (e : W.nsIn K N n = some (some v)) : mg n = some v := by
 obtain ⟨o, es, ep, ho, hd, _, hf⟩ := G
 unfold W.nsIn at e
 split at e
 ·rename_i c d es' n' sl q
  have := X _ _ q
  rw [ho] at this
  cases this
  cases hd
  split at e
  ·rename_i en he
   cases e
   rw [← hf]
   unfold nsFind findBy
   rw [← Array.find?_toList, he]
   rfl
  ·split at e <;> cases e
 ·cases e
theorem xeo.obj {K : W.Frag} {C f : Addr} {h : Heap} (F : xeo K C f) (X : K.In h) : ∃ bm N nm qn bs hdct sn sub ab col dd k0 k1 k2 k3 k5,
  h.get? C = some (excClassObj nm qn C N bs bm hdct sn sub ab col dd k0 k1 k2 k3 k5 "ValueError.__new__") ∧ h.Ns N (h.nsMap N) ∧ h.nsMap N "__init__" = some (.ref f) ∧ OwnTail h xis bm := by
 have q := F.xi
 unfold xkD at q
 split at q
 ·rename_i dd cd sl ho
  split at q
  ·rename_i C' bm k0 k1 k2 k3 n k5 hm hs
   simp only [Bool.and_eq_true, beq_iff_eq, Bool.not_eq_true'] at q
   obtain ⟨⟨⟨⟨⟨rfl, rfl⟩, hdel⟩, ht⟩, hok⟩, hni⟩ := q
   obtain ⟨nm, bs, mro, ns, qn, hd, sn, sub, ab, col, del⟩ := cd
   obtain ⟨l⟩ := sl
   dsimp only at hm hdel hok hni hs
   subst hm hdel hs
   have N1 : h.Ns ns (h.nsMap ns) := .of_isNs (W.isNs_of_in X hok)
   exact ⟨bm, ns, nm, qn, bs, hd, sn, sub, ab, col, dd, k0, k1, k2, k3, k5, X _ _ ho, N1, xkF X N1 hni, W.tail_of_in X ht⟩
  ·cases q
 ·cases q
section
variable {X : Cx} {EE : EEs}
def xn9 (C : Addr) (f : Str) (EE : EEs) (t : TA) : TS := fun _ σ H => t σ H fun vs H1 => ∃ v, vs = [v] ∧ ∀ d, H1 d = none → EE σ (.ref C) (some d) (upd H1 d (.xd [(f, v)]))
theorem xlO {C g : Addr} {fd : FuncData} {ps : List Str} {fl x : Str} {k : Nat} {np cpos pos : Pos} {e : Expr} {t : TA} (o : Own X) (hc : X.calm = true) (q : xeo X.K C g) (F : xA X.prog X.w X.K X.mg X.base CX0 k g fd ps (xiu C fl)) (hr : xX (k + 1) X.A) (hb : Binds X.K fd ps [])
  (hg : Gl X x) (hm : X.mg x = some (.ref C)) (ha : PA (X.wish (XE X EE)) [e] t)
  (hdb : (x == ("__debug__" : Str)) = false := by decide) (he : starEach [e] X.env = (false, eval e X.env) :: starEach [] X.env := by rfl) (hpl : (backTo cpos (starEach [e] X.env)).any (·.1) = false := by rfl) :
  PS (X.wish (XE X EE)) (.Raise (some (.Call (.Name x np) [e] [] cpos)) none pos) (xn9 C fl EE t) := by
 intro pins s σ H D I h
 obtain ⟨bm, N, nm, qn, bs, hdct, sn, sub, ab, col, dd, k0, k1, k2, k3, k5, hC, hN, hni, TL⟩ := q.obj I.ok.mod.kin
 refine xkE (C := C) (N := N) (bm := bm) (nm := nm) (q := qn) (bs := bs) (hdct := hdct) (sn := sn) (sub := sub) (ab := ab) (col := col) (dd := dd) (k0 := k0) (k1 := k1) (k2 := k2) (k3 := k3) (k5 := k5) (newId := "ValueError.__new__") (TL.hasType PySem.F.excBase_ValueError.hasBase) (I.ok.hd hc) hpl (xaW I hg hm ⟨rfl, ?_⟩ hdb)
 have ha' := ha cpos pins s σ H _ I h
 rw [he] at ha'
 show wpAny (model X.prog X.w) X.A (evalArgs (.ref C) true (backTo cpos (starEach [e] X.env)) []) _ _ s
 rw [he]
 refine PySem.evalArgs_kw (keywords := []) rfl ?_
 refine thn ha' fun us s1 ⟨vs, H1, I1, r, v, hv, y⟩ => ?_
 subst hv
 have hl : us.length = 1 := r.length.symm
 refine wpAny_pure ⟨rfl, I1.bk _ _ hC, ?_⟩
 obtain ⟨hh, gg, dr, tt, oss⟩ := s1
 have hfn : W.typeIn X.K (.ref g) = some (.type "function") := beq_iff_eq.mp q.fn
 obtain ⟨og, hog, hgc⟩ := Option.map_eq_some_iff.mp (show (X.K.lookup g).map (·.cls) = _ from hfn)
 refine xmL PySem.F.excBase_ValueError (TL.keeps I1.bk) (I1.bk _ _ hC) (hN.keeps I1.bk) hni (I1.kIn _ _ hog) hgc (fun h' a mk hsz => ?_) (by show us.length ≤ sizeLine; rw [hl]; decide)
 obtain ⟨t0, ea, _, _⟩ := mk.there
 have nu := xpW o I1.unwish mk.new
 have I2 := I1.laid (a := a) (o := HO.exc a C none) (t' := tt) mk.keeps hsz ⟨⟨_, t0, ea, rfl, rfl, rfl⟩, ⟨_, ea⟩, fun h1 h2 => xhA⟩
 have hl2 : (Value.ref a :: us ++ []).length = ps.length := by
  have := F.len [.ref a, v] (upd H1 a (HO.exc a C none)) (fun _ _ => True) E0 ⟨a, v, rfl, xo, fun _ _ _ => trivial⟩
  rw [← this]; simp [hl]
 refine wpAny_call (codeAny_mono (F.run _ X.stack _ _ ⟨Value.ref a :: us, []⟩ (Value.ref a :: us) [.ref a, v] (fun vv H3 => vv = .non ∧ ∃ d, H1 d = none ∧ d ≠ a ∧ H3 = upd (upd (upd H1 a (HO.exc a C none)) d (.xd [(fl, v)])) a (HO.exc a C (some d))) E0 (hr.make C us [])
  (I2.env0.make C us []) (by have := hb _ (Value.ref a :: us) I2.kIn hl2; rwa [List.append_nil] at this) (.cons rfl r) ⟨a, v, rfl, xo, fun d n1 n2 => ⟨rfl, d, by rwa [xn n2] at n1, n2, rfl⟩⟩) fun rr s' hq' => ?_)
 cases rr with
 | error e => exact False.elim hq'
 | ok fl' =>
  cases fl' with
  | ret u =>
   obtain ⟨vv, H', I3, rv, rfl, d, n1, n2, rfl⟩ := I2.after hq'
   obtain rfl : u = Value.none := rv
   obtain ⟨⟨oe, t1, ea1, oc, od, odat⟩, _⟩ := I3.hok a _ xo
   have hrem : rem (upd (upd (upd H1 a (HO.exc a C none)) d (.xd [(fl, v)])) a (HO.exc a C (some d))) a = upd H1 d (.xd [(fl, v)]) := by
    funext b
    unfold rem
    by_cases hb : b = a
    ·rw [if_pos hb, hb, xn (Ne.symm n2)]; exact nu.1.symm
    ·rw [if_neg hb, xn hb]
     by_cases hd : b = d
     ·rw [hd, xo, xo]
     ·rw [xn hd, xn hd, xn hb]
   have I4 := I3.unwish.forget (a := a) xo
   rw [hrem] at I4
   refine ⟨rfl, a, t1, some d, oe.slots, rfl, I3.bk _ _ hC, ?_, a, .ref C, some d, σ, _, rfl, I4.nopins, .inl ⟨oe, _, .ref t1, ea1, oc, od, odat, rfl, rfl, ?_⟩, y d n1⟩
   ·obtain ⟨c1, d1, dt1, sl1⟩ := oe
    cases oc; cases od; cases odat
    exact ea1
   ·exact ⟨by rw [xn (Ne.symm n2)]; exact nu.1, nu.2⟩
  | next => exact False.elim hq'
  | brk => exact False.elim hq'
  | cont => exact False.elim hq'
end
end L2
namespace L2
open PySem PySem.Spec PyProof.Rows PySem.W
section
variable {prog : Program} {w : World} {A : Around} {E : Value → Shared → Prop} {s : Shared} {K : Frag} {x D : Addr} {ox : Obj} {od : Obj}
end
section
variable {X : Cx}
end
section
variable {X : Cx}
end
section
variable {P : Program} {w : World} {K : W.Frag} {mg : Str → Option Value} {base : Heap}
theorem Fun.okXC {x qual : Str} {st : Stmt} {f c : Addr} {fd : FuncData} {N ps : List Str} {k : Nat} {sp : Sp} (F : Fun K x qual st f fd) (hc : fd.code = .ref c) (S : xt N ps (xb st)) (len : ∀ vs H Q E, sp vs H Q E → vs.length = ps.length)
  (hbody : ∀ (A : Around) (outer : List Env) (s : Shared) (H : Hp) (vs : List V) (Q : VK) (E : XK), xX k (A.deeper (envOfC qual (xb st) s.heap.objs.size f (.ref c))) → sp vs H Q E →
   ∃ t, PSs (cxX P w K mg base N qual (xb st) f (.ref c) A outer s H E) (xg st) t ∧ t { nx := fun _ H' => Q .non H', rt := Q } (start N vs) H) : xA P w K mg base (CXE P w) (k + 1) f fd ps sp := by
 obtain ⟨oc, od, kV, doc, pm, an, cdv, ct, osl, rfl, lk, hcd⟩ := F.ex
 obtain rfl : cdv = .ref c := hc
 refine xh9 lk hcd S len fun A outer s H vs Q E hr hsp => ?_
 obtain ⟨t, h, q⟩ := hbody A outer s H vs Q E hr hsp
 refine ⟨t, h.wished fun e s' ⟨a, cls, dx, σ, H', he, I, Fl, z⟩ => ?_, q⟩
 subst he
 refine xdF xiq I.ok.frames I Fl fun s2 I2 F2 => ?_
 obtain ⟨oe, vs, a0, T, oT, ts, he, hc, hx, hd, h0, h1, nT, hT, hdT, h3, hn, hnT⟩ := F2
 exact ⟨a, cls, dx, H', oe, vs, a0, T, oT, ts, rfl, I2.os, I2.bare, I2.base, I2.hok, he, hc, hx, hd, h0, h1, nT, hT, hdT, h3, hn.1, hn.2.1, hnT.1, hnT.2.1, z⟩
end
section
variable {X : Cx} {EE : EEs} {k : Nat} {f C : Addr} {fd : FuncData} {ps : List Str} {sp : Sp} {dvs : List V} {ds : List Value} {x m : Str} {p pos apos : Pos} {e o : Expr} {es : List Expr} {ta : TE} {t : TA}
def xpg (C : Addr) (m : Str) (sp : Sp) (dvs : List V) (EE : EEs) (ta : TE) (t : TA) : TE := fun σ H Q => ta σ H fun x H1 => ∃ a dx fs, x = .ref a ∧ H1 a = some (.ins C dx fs) ∧ fs.lookup m = none ∧
 t σ H1 fun vs H2 => sp (x :: (vs ++ dvs)) H2 Q (EE σ)
theorem xce {pl : Sem Bool} (ow : Own X) (he : PE (X.wish (XE X EE)) o ta) (c : Cls X.K C) (hm : Meth X.K C m f) (F : xA X.prog X.w X.K X.mg X.base (CXE X.prog X.w) k f fd ps sp) (hr : xX k X.A) (hb : Binds X.K fd ps ds) (hd : Vals dvs ds) (ha : PA (X.wish (XE X EE)) (e :: es) t)
  (hst : starEach (e :: es) X.env = (false, eval e X.env) :: starEach es X.env := by rfl) (hpl : (backTo pos (starEach es X.env)).any (·.1) = false := by rfl)
  (ht : eval (.Call (.Attribute o m apos) (e :: es) [] pos) X.env = (do
   let ov ← eval o X.env
   standAt apos.atName
   let (f, first) ← holding [ov] (getMethod ov m pl)
   callWith pos f first (backTo pos (starEach (e :: es) X.env)) (backToKw pos (keywordEach [] X.env))) := by rfl) :
  PE (X.wish (XE X EE)) (.Call (.Attribute o m apos) (e :: es) [] pos) (xpg C m sp dvs EE ta t) := by
 intro pins s σ H Q I h
 refine W.methodCall_KW (pl := pl) (thn (he pins s σ H _ I h) fun u s1 ⟨x, H1, I1, rx, a, dx, fs, ex, ea, l, q⟩ => ?_) ht
 subst ex
 obtain rfl : u = Value.ref a := rx
 refine xdr I1 ea c hm l ?_
 refine W.callWith_K (first := [.ref a]) (h₀ := X.base) I.ok.mod.kin hm.kp (thn (ha pos pins s1 σ H1 _ I1 q) fun us s2 ⟨vs, H2, I2, r, q2⟩ => ⟨I2.kIn, ?_⟩) hst hpl
 exact xjO (us := .ref a :: us) (vs := .ref a :: vs) ow F hr hb hd I2 (.cons rfl r) q2
end
def FnV (P : Program) (w : World) (K : W.Frag) (mg : Str → Option Value) (base : Heap) (k : Nat) (H : Hp) (f : Addr) (vs : List V) (Q : VK) : Prop :=
 ∃ nm qual params body scope ps sp fv, xbO P w K mg base CX0 k nm qual params body scope ps sp ∧ yJ H f nm qual params body scope fv ∧ sp fv vs H Q E0
section
variable {X : Cx} {k : Nat} {x : Str} {p pos : Pos} {e : Expr} {es : List Expr} {t : TA}
def xph (X : Cx) (k : Nat) (i : Nat) (t : TA) : TE := fun σ H Q => ∃ f, σ[i]? = some (some (.ref f)) ∧ (∃ nm qual params body scope fv, yJ H f nm qual params body scope fv) ∧ t σ H fun vs H1 => FnV X.prog X.w X.K X.mg X.base k H1 f vs Q
theorem xmM (i : Nat) (hr : xX k X.A) (ha : PA X (e :: es) t) (hN : X.N[i]? = some x := by rfl) (hv : Vis X.env.scope x := by first | exact Or.inl rfl | exact Or.inr (Or.inl rfl) | exact Or.inr (Or.inr rfl)) (hd : (x == ("__debug__" : Str)) = false := by decide)
  (hcd : (x == ("__classdict__" : Str)) = false := by decide) (he : starEach (e :: es) X.env = (false, eval e X.env) :: starEach es X.env := by rfl) (hpl : (backTo pos (starEach es X.env)).any (·.1) = false := by rfl) :
  PE X (.Call (.Name x p) (e :: es) [] pos) (xph X k i t) := by
 intro pins s σ H Q I h
 obtain ⟨f, e1, ⟨_, _, _, _, _, _, hc0⟩, h⟩ := h
 refine wpAny_Call_Name_kw (thn (xif (pos := p) hN hv hd hcd pins s σ H (fun v H1 => v = .ref f ∧ H1 = H) I ⟨_, e1, rfl, rfl⟩) fun u s1 ⟨v, H1, I1, r, q1, q2⟩ => ?_)
 subst q1; subst q2
 cases (show u = Value.ref f from r)
 refine W.callWith_F (hc0.fn I1) (thn (ha pos pins s1 σ H1 _ I1 h) fun us s2 ⟨vs, H2, I2, r2, q⟩ => ?_) he hpl
 obtain ⟨nm, qual, params, body, scope, ps, sp, fv, F, hc, q⟩ := q
 exact ⟨hc.fn I2, xjJ F hr xr I2 hc r2 q⟩
end
end L2
namespace PySem
open Sem (wp)
open AutoSeq1 (wpAny_loadPart')
abbrev kwS (k : Int) (t : Tok) : List (Str × Value) := [(Str.ofString "start", .int k t)]
theorem xoa (a : Value) (k : Int) (t : Tok) : checkTypeCall "enumerate" ⟨[a], kwS k t⟩ = pure () := by kernel_rfl
theorem xpi (a : Value) (k : Int) (t : Tok) : checkBuiltinCall "enumerate.__new__" ⟨[.type "enumerate", a], kwS k t⟩ = pure () := by kernel_rfl
theorem xob (x a : Value) (k : Int) (t : Tok) : argsOk "object.__init__" ⟨[x, a], kwS k t⟩ := by
 unfold argsOk
 rw [signature?_of (id := "object.__init__") (n := "__tini__".toList) (o := "tcejbo".toList) (by kernel_rfl) F.owner_object]
 kernel_rfl
theorem xoc (l : Addr) (items : Array Value) (n : Nat) (dct : Option Addr) (sl : Array (Option Value)) (k : Int) (t : Tok) (hf : Builtin.SmallTypes.fitsIndex k = true) :
  Meets (Builtin.«enumerate.__new__» ⟨[.type "enumerate", .ref l], kwS k t⟩) (fun _ R s => s.heap.get? l = some ⟨.type "list", dct, .seq items n, sl⟩ ∧
   R (.ok (.ret (.ref (s.heap.objs.size + 1))))
    { s with heap := (s.heap.push { cls := .type "list_iterator", data := .fields #[.ref l, .int 0 0] }).push { cls := .type "enumerate", data := .fields #[.none, .bool false, .ref s.heap.objs.size, rawInt k, .none, .none] } }) := by
 refine .of_wp fun prog w A R s h => ?_
 obtain ⟨hl, h⟩ := h
 obtain ⟨hp, g, d, tk, os⟩ := s
 have hz : (hp.push { cls := .type "list_iterator", data := .fields #[.ref l, .int 0 0] }).objs.size = hp.objs.size + 1 := Heap.size_push ..
 have hsub := sub_enumerate
 have hL : Heap.IsList (Shared.heap ⟨hp, g, d, tk, os⟩) l items := ⟨_, hl, rfl, n, rfl⟩
 wp_walk using wpAny_loadPart' hl
 refine wpAny_stack_any fun st => wpAny_pure ?_
 split
 ·rename_i c _ _ _ _ _
  cases (c == Value.type "enumerate") <;>
   (wp_walk using wpAny_loadPart' hl, wpAny_pyIter_list hL; exact ⟨_, rfl, by rw [hz]; exact h⟩)
 ·wp_walk using wpAny_loadPart' hl, wpAny_pyIter_list hL
  exact ⟨_, rfl, by rw [hz]; exact h⟩
theorem xlP {T newId : String} {x y : Value} {kw : List (Str × Value)} (hl : typeLookup (.type T) "__init__" = pure (some (.builtin "object.__init__"))) (hm : Bind.madeBy (.type T) = pure (some newId)) (hne : (some newId != some "object.__new__") = true) :
  Meets (Builtin.«object.__init__» ⟨[x, y], kw⟩) (fun _ R s => s.TypeIs x T ∧ R (.ok (.ret .none)) s) :=
 .of_wp fun prog w A R s h => by
  obtain ⟨hT, h⟩ := h
  repeat (any_goals (first | assumption | wp_step))
  exact ⟨_, rfl, h⟩
section
variable {prog : Program} {w : World} {A : Around} {E : Value → Shared → Prop} {s : Shared}
theorem xkG {l : Addr} {items : Array Value} {k : Int} {t : Tok} {Q : Value → Shared → Prop} (hL : s.heap.IsList l items) (hf : Builtin.SmallTypes.fitsIndex k = true)
  (h : ∀ h', IsEnum h' (s.heap.objs.size + 1) s.heap.objs.size k .none → h'.IsListIter s.heap.objs.size l 0 → (∀ b o, s.heap.get? b = some o → h'.get? b = some o) → Q (.ref (s.heap.objs.size + 1)) { s with heap := h' }) :
  wpAny (model prog w) A (call (.type "enumerate") [.ref l] (kwS k t)) Q E s := by
 obtain ⟨⟨c0, dct, dt, sl⟩, hl, hc, n, hd⟩ := hL
 obtain rfl : c0 = .type "list" := hc
 obtain rfl : dt = .seq items n := hd
 have ft := F.called_enumerate
 obtain ⟨c, tl, hmro⟩ := ft.mro
 have hct := xoa (.ref l) k t
 have hmade := ft.made
 have hsub := ft.sub
 have h1 := ft.notType
 have h2 := ft.canCreate
 have hz : (s.heap.push { cls := .type "list_iterator", data := .fields #[.ref l, .int 0 0] }).objs.size = s.heap.objs.size + 1 := Heap.size_push ..
 have he : IsEnum ((s.heap.push { cls := .type "list_iterator", data := .fields #[.ref l, .int 0 0] }).push { cls := .type "enumerate", data := .fields #[.none, .bool false, .ref s.heap.objs.size, rawInt k, .none, .none] }) (s.heap.objs.size + 1) s.heap.objs.size k .none := by
  rw [← hz]; exact Heap.get?_push_size _ rfl
 have fin := h _ he ⟨_, Heap.get?_push_of_some _ (Heap.get?_push_size _ rfl), rfl, rfl⟩ fun b o x => Heap.get?_push_of_some _ (Heap.get?_push_of_some _ x)
 refine wpAny_call (codeAny_of_tree (wpAny_pure ⟨Code.quiet_builtin _ (by decide +kernel), codeAny_builtin F.entry_type_call ?_⟩))
 rw [Around.under_plain (weight_type_call_type "enumerate" [.ref l] (kwS k t)) (units_type_call_type "enumerate" [.ref l] (kwS k t))]
 repeat (any_goals (first | assumption | wp_step))
 refine codeAny_mono (codeAny_call_builtin ft.plain F.entry_enumerate_new (wpAny_of_eq (xpi (.ref l) k t) (xoc l items n dct sl k t hf prog w A.in1 (wants (fun obj s₁ => s₁.TypeIs obj "enumerate" ∧ Q obj s₁) E) s ⟨hl, ⟨_, he, rfl⟩, fin⟩))) fun r s₁ hr => ?_
 rcases r with e | fl
 ·exact hr
 cases fl with
 | ret obj =>
  obtain ⟨hT, hq⟩ := (show s₁.TypeIs obj "enumerate" ∧ Q obj s₁ from hr)
  have hli := ft.init.lookup
  have hbi := ft.init.bind obj
  repeat (any_goals (first | assumption | wp_step))
  refine codeAny_mono (codeAny_call_builtin ft.init.plain F.entry_object_init (ft.init.check _ _ _ _ _ _ _ _ hT (xob obj (.ref l) k t) (xlP (T := "enumerate") (kw := kwS k t) ft.init.lookup ft.made (by decide) prog w A.in1 (wants (fun r s₂ => r = .none ∧ Q obj s₂) E) s₁ ⟨hT, rfl, hq⟩))) fun r₂ s₂ h3 => ?_
  rcases r₂ with e | f2
  ·exact h3
  cases f2 with
  | ret r =>
   obtain ⟨rfl, h4⟩ := (show r = .none ∧ Q obj s₂ from h3)
   repeat (any_goals (first | assumption | wp_step))
  | _ => exact h3.elim
 | _ => exact hr.elim
end
end PySem
namespace L2
open PySem PySem.Spec PyProof.Rows
theorem xjf {prog : Program} {w : World} {A : Around} {it : Addr} {fp : List Addr} {n : Nat} {Pv : Nat → Value → Prop} {St : Nat → Heap → Prop} (D : Draws prog w A it fp n Pv St) (m : Nat) :
  Draws prog w A it fp (m + n) (fun i v => m ≤ i ∧ Pv (i - m) v) (fun i h => m ≤ i ∧ St (i - m) h) where
 live := fun _ _ st => D.live _ _ st.2
 frame := fun _ _ _ st hk => ⟨st.1, D.frame _ _ _ st.2 hk⟩
 item := fun i s Q E hi st hQ => D.item (i - m) s Q E (by omega) st.2 fun x h' tk hp hs hb => hQ x h' tk ⟨st.1, hp⟩ ⟨by omega, by rw [show i + 1 - m = i - m + 1 by omega]; exact hs⟩ hb
 done := fun s Q E st hE => D.done s Q E (by have := st.2; rwa [show m + n - m = n by omega] at this) hE
section
variable {M : Model} {A : Around} {E : Value → Shared → Prop} {s : Shared}
theorem xjg {pos : Pos} {T : String} {args : List (Bool × Sem Value)} {kws : List (Option Str × Sem Value)} {Q : Value → Shared → Prop} (hp : args.any (·.1) = false) (hk : kws.any (·.1.isNone) = false)
  (h : wpAny M A (evalArgs (.type T) true args kws) (fun a s₁ => wpAny M A (call (.type T) a.pos a.kw) Q E s₁) E s) : wpAny M A (callWith pos (.type T) [] args kws) Q E s := by
 unfold callWith
 refine wpAny_bind (wpAny_holding ?_)
 refine wpAny_mono h (fun a s₁ h₁ => ?_) fun _ _ x => x
 refine wpAny_bind (wpAny_standAt ?_)
 simp only [hp, hk, Bool.or_false]
 refine wpAny_bind (wpAny_pure (wpAny_bind ?_))
 refine wpAny_mono h₁ (fun r s₂ hr => ?_) fun _ _ x => x
 exact wpAny_bind (wpAny_holding (wpAny_point (wpAny_pure hr)))
end
def xmN (K : W.Frag) (a : Addr) (m : Nat) : It :=
 ⟨fun i H => ∃ xs x, SqL K H a xs ∧ xs[i]? = some x, fun i H v H' => ∃ T x, v = .ref T ∧ H T = none ∧ H' = upd H T (.tup [.int ((m + i : Nat) : Int), x]) ∧ ∀ xs, SqL K H a xs → xs[i]? = some x, fun i H => ∃ xs, SqL K H a xs ∧ xs.length ≤ i⟩
theorem xkH {P : Program} {w : World} {K : W.Frag} {es : List Expr} {k : Nat} {pos : Pos} (a e it : Addr) (m : Nat) (hne : e ≠ it) : Turn P w K (.Tuple es k pos) (xmN K a m) [e, it] e (fun i h => (∃ old, IsEnum h e it ((m + i : Nat) : Int) old) ∧ h.IsListIter it a i) where
 mem := by simp
 obj := fun i h st b hb => by
  obtain ⟨⟨old, he⟩, ⟨o, e1, c, d⟩⟩ := st
  rcases List.mem_cons.mp hb with z | z
  ·subst z
   exact ⟨_, he, fun v z => by cases z⟩
  ·rw [List.mem_singleton.mp z]
   exact ⟨o, e1, fun v z => by rw [d] at z; cases z⟩
 keep := fun i h h' st kk => by
  obtain ⟨⟨old, he⟩, hit⟩ := st
  exact ⟨⟨old, kk e (by simp) _ he⟩, hit.at fun o x => kk it (by simp) o x⟩
 item := by
  intro X hP hw hK hc i pins s σ H E I hf st hg
  subst hP hw hK
  obtain ⟨xs, x, hq, hx⟩ := hg
  obtain ⟨its, rv, p, hz⟩ := I.list hq
  obtain ⟨u, hu, ru⟩ := rv.get hx
  obtain ⟨⟨old, he⟩, hit⟩ := st
  have he' := Heap.lt_size he
  have hi' : it < s.heap.objs.size := by obtain ⟨o, q, _⟩ := hit; exact Heap.lt_size q
  have hil : i < its.length := by
   have := (List.getElem?_eq_some_iff.mp hu).1
   exact this
  have pl := p.isList
  have hai : a ≠ it := fun z => by
   obtain ⟨o1, q1, c1, _⟩ := pl
   obtain ⟨o2, q2, c2, _⟩ := hit
   rw [z, q2] at q1; cases q1
   rw [c2] at c1; simp at c1
  have hae : e ≠ a := fun z => by
   obtain ⟨o1, q1, c1, _⟩ := pl
   rw [← z, he] at q1; cases q1; simp at c1
  have D := xjf (Draws.list (prog := X.prog) (w := X.w) (A := X.A.in1) (I.ok.hd hc) it a hai its.toArray) m
  refine wpAny_pyNext_enum_itemD D he ⟨by omega, by rw [show m + i - m = i by omega]; exact ⟨hit, pl⟩⟩ (by simp; omega) hne (by simp [hne, hae]) fun y h' tk hy heo hst hT hsz hk => ?_
  have ey : y = u := by
   have h1 := hy.2
   rw [show m + i - m = i by omega] at h1
   have h2 : its.toArray[i]? = some u := by simpa using hu
   rw [h2] at h1
   exact (Option.some.inj h1).symm
  subst ey
  have hit' := hst.2.1
  rw [show m + i + 1 - m = i + 1 by omega] at hit'
  refine ⟨_, rfl, wpAny_letOwnedTupleGo_enum (s := { s with heap := h', toks := tk + 1 }) heo fun h2 he2 hs2 => ?_⟩
  have hT2 : h2.get? s.heap.objs.size = some { cls := .type "tuple", data := .seq #[.int ((m + i : Nat) : Int) tk, y] } := (hs2.2 _ (Nat.ne_of_gt he')).trans hT
  have I2 : Inv X pins σ (upd H s.heap.objs.size (.tup [.int ((m + i : Nat) : Int), x])) { s with heap := h2, toks := tk + 1 } := by
   refine I.turnLaid (ch := [e, it]) (fun b o hb q => ?_) (Nat.le_refl _) ⟨by simp [sizeLine_eq], [.int ((m + i : Nat) : Int) tk, y], .cons ⟨_, rfl⟩ (.cons ru .nil), ⟨_, hT2, rfl, _, rfl⟩⟩ (fun b hb => (hf b hb).1) (fun b hb => ?_) fun b hb => ?_
   ·have b1 : b ≠ e := fun z => hb (by simp [z])
    have b2 : b ≠ it := fun z => hb (by simp [z])
    exact (hs2.2 b b1).trans (hk b o b1 b2 q)
   ·rcases List.mem_cons.mp hb with z | z
    ·rw [z]; exact he'
    ·rw [List.mem_singleton.mp z]; exact hi'
   ·obtain ⟨f0, f1, f2, f3, f4, f5⟩ := hf b hb
    exact ⟨f3, f1, f4, f5⟩
  refine ⟨.ref s.heap.objs.size, _, I2, rfl, ⟨_, x, rfl, I.hok.fresh (Nat.le_refl _), rfl, fun ys hy => by rw [I.list_inj hy hq]; exact hx⟩, ⟨⟨y, by rw [show ((m + (i + 1) : Nat) : Int) = ((m + i : Nat) : Int) + 1 by omega]; exact he2⟩, hit'.extBut hs2.extBut (Ne.symm hne)⟩, fun b hb => ?_⟩
  have hb' : b ≠ s.heap.objs.size := by
   rcases List.mem_cons.mp hb with z | z
   ·rw [z]; exact Nat.ne_of_lt he'
   ·rw [List.mem_singleton.mp z]; exact Nat.ne_of_lt hi'
  rw [xn hb']
  exact (hf b hb).1
 done := by
  intro X hP hw hK hc i pins s σ H E I hf st hg
  subst hP hw hK
  obtain ⟨xs, hq, hx⟩ := hg
  obtain ⟨its, rv, p, hz⟩ := I.list hq
  obtain ⟨⟨old, he⟩, hit⟩ := st
  obtain ⟨f0, f1, f2, f3, f4, f5⟩ := hf it (by simp)
  have hl := rv.length
  have pl := p.isList
  have D : Draws X.prog X.w X.A.in1 it [it, a] 0 (fun _ _ => False) (fun _ h => h.IsListIter it a i ∧ h.IsList a its.toArray) := {
   live := fun _ _ st => let ⟨o, ho, _⟩ := st.1; ⟨o, ho⟩
   frame := fun _ _ _ st hk => ⟨st.1.at fun o e => hk it (by simp) o e, st.2.at fun o e => hk a (by simp) o e⟩
   item := fun j s Q E hj => absurd hj (Nat.not_lt_zero _)
   done := fun s Q E st hE => wpAny_nextOf_list_end (I.ok.hd hc) st.1 st.2 (by simp; omega) hE }
  exact wpAny_pyNext_enum_endD D he ⟨hit, pl⟩ fun h' eb => ⟨rfl, I.turned (t' := s.toks) (fun b o hb e => eb b o hb e) f0 f1 f3 f4 f5⟩
 self := fun _ _ _ _ _ st h => by
  obtain ⟨⟨old, he⟩, _⟩ := st
  exact wpAny_pyIter_enum he h
section
variable {X : Cx} {es : List Expr} {k : Nat} {tp : Pos}
def xpj (K : W.Frag) (ta : TA) (tf : TE) : TI := fun σ H R => ta σ H fun vs H1 => tf σ H1 fun y H2 => ∃ (a : Addr) (m : Nat), vs = [.ref a] ∧ y = .int m ∧ (m : Int) < 2 ^ 62 ∧ (∃ xs, SqL K H2 a xs) ∧ R (xmN K a m) H2
theorem xmO {l fe : Expr} {ta : TA} {tf : TE} {p pos kp : Pos} (hg : Gl X "enumerate") (hm : X.mg "enumerate" = none) (ha : PA X [l] ta) (hf : PE X fe tf)
  (he : backTo pos (starEach [l] X.env) = (false, eval l X.env) :: backTo pos (starEach [] X.env) := by rfl) : PI X (.Tuple es k tp) (.Call (.Name "enumerate" p) [l] [⟨some "start", fe, kp⟩] pos) (xpj X.K ta tf) := by
 intro pins s σ H R I h
 refine wpAny_Call_Name_kw (vR I hg hm xcd ?_)
 refine xjg (by rw [he]; rfl) rfl ?_
 rw [he]
 refine evalArgs_kwB rfl ?_
 rw [← he]
 refine thn (ha pos pins s σ H _ I h) fun us s1 h1 => ?_
 obtain ⟨vs, H1, I1, r1, q1⟩ := h1
 refine kws_cons (thn (hf pins s1 σ H1 _ I1 q1) fun fu s2 h2 => kws_nil ?_)
 obtain ⟨y, H2, I2, r2, a, m, rfl, rfl, hm2, ⟨xs, hq⟩, q⟩ := h2
 obtain ⟨u, rfl, ru⟩ := Vals.one r1
 cases ru
 obtain ⟨tz, rfl⟩ := r2
 obtain ⟨its, rv, pl, hz⟩ := I2.list hq
 show wpAny _ _ (call (.type "enumerate") [.ref a] (kwS m tz)) _ _ s2
 refine xkG pl.isList (by simp [Builtin.SmallTypes.fitsIndex]; omega) fun h' he hi hk => wpAny_pyIter_enum (s := { s2 with heap := h' }) he ?_
 refine ⟨s2.heap.objs.size + 1, [s2.heap.objs.size + 1, s2.heap.objs.size], _, _, H2, rfl, I2.kept (t' := s2.toks) hk, xkH a _ _ m (Nat.succ_ne_self _), ⟨⟨.none, by simpa using he⟩, hi⟩, fun b hb => ?_, q⟩
 rcases List.mem_cons.mp hb with z | z
 ·rw [z]; exact I2.fpOk (Nat.le_succ _) (I2.hok.fresh (Nat.le_succ _))
 ·rw [List.mem_singleton.mp z]; exact I2.fpOk (Nat.le_refl _) (I2.hok.fresh (Nat.le_refl _))
end
theorem xjh {K : W.Frag} {l : Addr} {n : Nat} {xs : List V} {g : TG} {tb : TS} {D : Ends} {σ : St} {H : Hp} (Pv : Nat → St → Hp → Prop) (h0 : Pv 0 σ H) (hl : ∀ i σ H, i ≤ xs.length → Pv i σ H → SqL K H l xs)
  (hs : ∀ i x σ H T, xs[i]? = some x → Pv i σ H → H T = none → g (.ref T) σ (upd H T (.tup [.int ((n + i : Nat) : Int), x])) fun σ2 H2 => tb { D with nx := Pv (i + 1), ct := Pv (i + 1), bk := D.nx } σ2 H2) (hd : ∀ σ H, Pv xs.length σ H → D.nx σ H) : vE (xmN K l n) g tb D σ H := by
 unfold vE
 refine ⟨fun i m σ H => m = xs.length - i ∧ i ≤ xs.length ∧ Pv i σ H, ⟨xs.length, by simp, Nat.zero_le _, h0⟩, ?_⟩
 rintro i m σ H ⟨rfl, hi, p⟩
 have hq := hl i σ H hi p
 by_cases hlt : i < xs.length
 ·have hx : xs[i]? = some xs[i] := List.getElem?_eq_getElem hlt
  refine .inr ⟨⟨xs, xs[i], hq, hx⟩, Pv (i + 1), fun σ' H' p' => ⟨xs.length - (i + 1), by omega, rfl, hlt, p'⟩, fun v H' y => ?_⟩
  obtain ⟨T, x, rfl, hT, rfl, hx'⟩ := y
  exact hs i x σ H T (hx' xs hq) p hT
 ·obtain rfl : i = xs.length := by omega
  exact .inl ⟨⟨xs, hq, Nat.le_refl _⟩, hd σ H p⟩
end L2
namespace L2
open PySem PySem.Spec PyProof.Rows
abbrev xqo (cap : List Str) (P : Program) (w : World) (K : W.Frag) (mg : Str → Option Value) (base : Heap) (N : List Str) (qual : Str) (sc : Scope) (f : Addr) (cd : Value) (A : Around) (outer : List Env) (s : Shared) (H : Hp) (E : XK) : Cx :=
 (xcv cap (CXE P w) P w K mg base N qual sc f cd A outer s H E).wish (XE (xcv cap (CXE P w) P w K mg base N qual sc f cd A outer s H E) fun _ => E)
theorem Fun.okXK {P : Program} {w : World} {K : W.Frag} {mg : Str → Option Value} {base : Heap} {x qual : Str} {st : Stmt} {f c : Addr} {fd : FuncData} {N ps : List Str} {k : Nat} {sp : Sp} (cap : List Str) (F : Fun K x qual st f fd) (hc : fd.code = .ref c) (S : xt N ps (xb st)) (len : ∀ vs H Q E, sp vs H Q E → vs.length = ps.length)
  (hbody : ∀ (A : Around) (outer : List Env) (s : Shared) (H : Hp) (vs : List V) (Q : VK) (E : XK), xX k (A.deeper (envOfC qual (xb st) s.heap.objs.size f (.ref c))) → sp vs H Q E →
   ∃ t, PSs (xqo cap P w K mg base N qual (xb st) f (.ref c) A outer s H E) (xg st) t ∧ t { nx := fun _ H' => Q .non H', rt := Q } (start N vs) H) : xA P w K mg base (CXE P w) (k + 1) f fd ps sp := by
 obtain ⟨oc, od, kV, doc, pm, an, cdv, ct, osl, rfl, lk, hcd⟩ := F.ex
 obtain rfl : cdv = .ref c := hc
 refine ⟨len, fun A outer s H args us vs Q E hr e0 hb r hsp => ?_⟩
 have hl := len _ _ _ _ hsp
 have KX : K.In s.heap := e0.mod.kin.keeps fun b o e => (e0.bs b o e).1
 have lim : s.heap.NoLimit := e0.mod.nolimit.keeps fun b o e => (e0.bs b o e).1
 have hkind : ∀ y ∈ ps.zip us, (xb st).names.lookup y.1 = some .local ∨ ((xb st).names.lookup y.1 = some .cell ∧ ((cellsFrom (s.heap.objs.size + 1) (xb st).names []).lookup y.1).isSome = true) := fun ⟨n, v⟩ hy => by
  rcases S.par n (List.of_mem_zip hy).1 with q | q
  ·exact .inl q
  ·exact .inr ⟨q, W.cellsFrom_some _ _ _ (.inl q)⟩
 refine codeAny_call_function hr.depth (KX _ _ lk) rfl S.co S.gen rfl (W.codeRec_of KX hcd) (hb _ _ _ _ ?_)
 refine wpAny_newFunctionEnv_cells S.kind hkind fun env he s1 x => ?_
 subst he
 refine ⟨lim.keeps x.toInCall.keep, codeAny_func ?_⟩
 obtain ⟨t, ht0, hq⟩ := hbody A outer s H vs Q E (hr.deeper _) hsp
 have ht : PSs (xcv cap (CXE P w) P w K mg base N qual (xb st) f (.ref c) A outer s H E) (xg st) t := ht0.wished fun e s' ⟨a, cls, dx, σ, H', he, I, Fl, z⟩ => by
  subst he
  refine xdF ⟨rfl, rfl, rfl⟩ I.ok.frames I Fl fun s2 I2 F2 => ?_
  obtain ⟨oe, vs, a0, T, oT, ts, he, hc, hx, hd, h0, h1, nT, hT, hdT, h3, hn, hnT⟩ := F2
  exact ⟨a, cls, dx, H', oe, vs, a0, T, oT, ts, rfl, I2.os, I2.bare, I2.base, I2.hok, he, hc, hx, hd, h0, h1, nT, hT, hdT, h3, hn.1, hn.2.1, hnT.1, hnT.2.1, z⟩
 have I : Inv (xaZ (CXE P w) P w K mg base N qual (xb st) f (.ref c) A outer s H E) [] (start N vs) H s1 := xef S hr.hd e0 hl r x
 have I' : Inv (xcv cap (CXE P w) P w K mg base N qual (xb st) f (.ref c) A outer s H E) [] (start N vs) H s1 := I.capd (fun _ => rfl) (xkv cap)
 refine wpAny_mono (ht [] s1 (start N vs) H _ I' hq) (fun fl s' hs => ?_) fun e s' hs => hs
 have fin : ∀ {σ' : St} {H' : Hp} {v : V} {u : Value}, Inv (xcv cap (CXE P w) P w K mg base N qual (xb st) f (.ref c) A outer s H E) [] σ' H' s' → RelV v u → Q v H' → CE outer P w H s Q u s' :=
  fun {σ' H' v u} J rv q => ⟨v, H', J.os, J.bare, J.base, J.hok, rv, q⟩
 cases fl with
 | ret u =>
  obtain ⟨v, σ', H', J, rv, q⟩ := hs
  exact fin J rv q
 | next =>
  obtain ⟨σ', H', J, q⟩ := hs
  exact fin (v := V.non) (u := Value.none) J rfl q
 | brk =>
  obtain ⟨_, _, _, q⟩ := hs
  exact False.elim q
 | cont =>
  obtain ⟨_, _, _, q⟩ := hs
  exact False.elim q
end L2
namespace K90
open PySem PySem.Spec PyProof.Rows L2
def top (i : Nat) : Stmt := PySem.Challenge.pw_oneroom_k90_whole_falls.main.body.getD i (.Pass ⟨0, 0, 0, 0⟩)
abbrev yz : Stmt := inClass (top 4) 0
abbrev zI : Stmt := inClass (top 7) 0
abbrev yK : Stmt := inClass (top 7) 1
abbrev yA : Stmt := inClass (top 7) 2
abbrev za : Stmt := inClass (top 8) 0
abbrev yL : Stmt := inClass (top 8) 1
abbrev yM : Stmt := inClass (top 8) 2
abbrev yB : Stmt := inClass (top 8) 3
abbrev yC : Stmt := inClass (top 8) 4
abbrev xV : Stmt := inClass (top 8) 5
abbrev yf : Stmt := inClass (top 8) 6
abbrev zP : Stmt := inClass (top 8) 8
abbrev zJ : Stmt := inClass (top 9) 0
abbrev zb : Stmt := inClass (top 9) 1
abbrev yN : Stmt := inClass (top 9) 2
abbrev yO : Stmt := inClass (top 9) 3
abbrev yp : Stmt := inClass (top 9) 4
abbrev uh : Stmt := inClass (top 9) 6
abbrev uY : Stmt := top 10
abbrev yP : Stmt := top 11
abbrev zc : Stmt := top 12
abbrev zd : Stmt := top 13
abbrev ui : Stmt := top 14
abbrev yg : Stmt := top 15
abbrev zK : Stmt := top 16
abbrev ze : Stmt := top 18
abbrev jq : Stmt := top 19
abbrev xZ : Stmt := top 20
abbrev yh : Stmt := top 21
abbrev yi : Stmt := top 22
abbrev zf : Stmt := top 23
abbrev jr : Stmt := top 26
abbrev yq : Stmt := top 27
abbrev zg : Stmt := top 28
abbrev xW : Stmt := top 29
abbrev ya : Stmt := top 30
abbrev yj : Stmt := top 31
abbrev uj : Stmt := top 32
abbrev zh : Stmt := top 33
abbrev zL : Stmt := inClass (top 35) 0
abbrev yb : Stmt := inClass (top 35) 1
abbrev xO : Stmt := inClass (top 35) 2
abbrev uN : Stmt := inClass (top 36) 0
abbrev yQ : Stmt := inClass (top 36) 1
abbrev yl : Stmt := inClass (top 36) 2
abbrev yR : Stmt := inClass (top 36) 3
abbrev yD : Stmt := inClass (top 36) 4
abbrev yS : Stmt := inClass (top 36) 6
abbrev xK : Stmt := inClass (top 36) 8
abbrev xP : Stmt := inClass (top 36) 9
abbrev uk : Stmt := top 38
abbrev jt : Stmt := top 39
abbrev xaw : Stmt := top 40
abbrev ju : Stmt := top 41
abbrev um : Stmt := top 42
abbrev jv : Stmt := top 43
abbrev jw : Stmt := top 44
abbrev jx : Stmt := top 45
abbrev uo : Stmt := top 46
abbrev xax : Stmt := top 47
abbrev xa6 : Stmt := top 48
abbrev q0S : Addr := 339
abbrev uq : Addr := 335
def jK : List (Pos × Str) := [(⟨152, 45, 152, 70⟩, "do_piece.<locals>.<lambda>")]
abbrev q0t : Addr := 457
abbrev zB : Addr := 453
def jy : List (Pos × Str) := [(⟨247, 50, 247, 69⟩, "Store.write.<locals>.<lambda>")]
abbrev q0g : Addr := 504
abbrev yt : Addr := 500
def ur : List (Pos × Str) := [(⟨269, 52, 269, 70⟩, "Store.note_down.<locals>.<lambda>")]
abbrev q2b : Addr := 580
abbrev xe4 : Addr := 578
def xiv : List (Pos × Str) := [(⟨365, 52, 365, 147⟩, "law.<locals>.<lambda>")]
set_option genInjectivity false in
set_option genSizeOf false in
set_option genSizeOfSpec false in
structure Adr where
 q0A : Addr
 jR : FuncData
 q0Y : Addr
 xbP : FuncData
 q0m : Addr
 xay : FuncData
 q0h : Addr
 jS : FuncData
 q0W : Addr
 xa7 : FuncData
 q0B : Addr
 xaz : FuncData
 q0C : Addr
 xaA : FuncData
 q0u : Addr
 jT : FuncData
 q0v : Addr
 jU : FuncData
 q0i : Addr
 uC : FuncData
 q0n : Addr
 vG : FuncData
 q1s : Addr
 xcV : FuncData
 q0Z : Addr
 xbQ : FuncData
 q0R : Addr
 xa8 : FuncData
 q0D : Addr
 xaB : FuncData
 q0E : Addr
 xaC : FuncData
 q0o : Addr
 jz : FuncData
 q1D : Addr
 xdG : FuncData
 q1E : Addr
 xdH : FuncData
 q00 : Addr
 xaD : FuncData
 q05 : Addr
 xa9 : FuncData
 q06 : Addr
 xba : FuncData
 q1m : Addr
 xcz : FuncData
 q0L : Addr
 vH : FuncData
 q1f : Addr
 xbR : FuncData
 q07 : Addr
 xbb : FuncData
 q1Q : Addr
 xe5 : FuncData
 q0y : Addr
 uZ : FuncData
 q0M : Addr
 vI : FuncData
 q0N : Addr
 vJ : FuncData
 q1g : Addr
 xaE : FuncData
 q1R : Addr
 xe6 : FuncData
 q0T : Addr
 jA : FuncData
 q08 : Addr
 xbc : FuncData
 q0r : Addr
 uD : FuncData
 q0z : Addr
 va : FuncData
 q0O : Addr
 vK : FuncData
 q1n : Addr
 xcA : FuncData
 q09 : Addr
 xbd : FuncData
 q01 : Addr
 xbS : FuncData
 q0l : Addr
 vb : FuncData
 q0f : Addr
 zM : FuncData
 q0P : Addr
 vY : FuncData
 q0F : Addr
 xaF : FuncData
 q0w : Addr
 vi : FuncData
 q0G : Addr
 xaG : FuncData
 q0x : Addr
 jV : FuncData
 q0H : Addr
 xaH : FuncData
 q0e : Addr
 zi : FuncData
 q0j : Addr
 zD : FuncData
 q1o : Addr
 xcB : FuncData
 q1S : Addr
 xe7 : FuncData
 q2r : Addr
 xgo : FuncData
 q1T : Addr
 xe8 : FuncData
 q1p : Addr
 xcC : FuncData
 q1U : Addr
 xe9 : FuncData
 q1V : Addr
 xfa : FuncData
 q1W : Addr
 xfb : FuncData
 q1q : Addr
 xcD : FuncData
 q2s : Addr
 xgp : FuncData
 q34 : Addr
 xgq : FuncData
 q1a : Addr
 q0a : Addr
 q0c : Addr
 q0q : Addr
 q0b : Addr
 q0d : Addr
 q1X : Addr
 q5Z : Tok
structure Txt (K : W.Frag) (mg : Str → Option Value) (a : Adr) : Prop where
 vj : Fun K "__init__" "Fallen.__init__" yz a.q0A a.jR
 jW : Binds K a.jR ["self", "count"] []
 xaI : Fun K "__init__" "Row.__init__" zI a.q0Y a.xbP
 xaJ : Binds K a.xbP ["self", "to"] []
 vZ : Fun K "covers" "Row.covers" yK a.q0m a.xay
 ja : Binds K a.xay ["self"] []
 vm : Fun K "covered" "Row.covered" yA a.q0h a.jS
 ym : Binds K a.jS ["self"] []
 jL : Fun K "__init__" "Take.__init__" za a.q0W a.xa7
 xbe : Binds K a.xa7 ["self", "to", "start", "count"] []
 jb : Fun K "stays" "Take.stays" yL a.q0B a.xaz
 uO : Binds K a.xaz ["self"] []
 jc : Fun K "reads" "Take.reads" yM a.q0C a.xaA
 xaK : Binds K a.xaA ["self"] []
 vn : Fun K "writes" "Take.writes" yB a.q0u a.jT
 jX : Binds K a.jT ["self"] []
 vo : Fun K "pieces" "Take.pieces" yC a.q0v a.jU
 jY : Binds K a.jU ["self"] []
 zE : Fun K "source_for" "Take.source_for" xV a.q0i a.uC
 zF : Binds K a.uC ["self", "cell"] []
 uu : Fun K "sign_for" "Take.sign_for" yf a.q0n a.vG
 vL : Binds K a.vG ["self", "cell", "read"] []
 xbf : Fun K "told" "Take.told" zP a.q1s a.xcV
 xcW : Binds K a.xcV ["self"] []
 xaL : Fun K "__init__" "Put.__init__" zJ a.q0Z a.xbQ
 xbT : Binds K a.xbQ ["self", "to", "signs"] []
 jM : Fun K "reads" "Put.reads" zb a.q0R a.xa8
 xbg : Binds K a.xa8 ["self"] []
 jd : Fun K "writes" "Put.writes" yN a.q0D a.xaB
 xaM : Binds K a.xaB ["self"] []
 je : Fun K "pieces" "Put.pieces" yO a.q0E a.xaC
 xaN : Binds K a.xaC ["self"] []
 uP : Fun K "sign_for" "Put.sign_for" yp a.q0o a.jz
 jB : Binds K a.jz ["self", "cell", "read"] []
 xbU : Fun K "told" "Put.told" uh a.q1D a.xdG
 xdI : Binds K a.xdG ["self"] []
 zV : Fun K "row_of" "row_of" uY a.q1E a.xdH
 vc : Binds K a.xdH ["told"] []
 xad : mg "row_of" = some (.ref a.q1E)
 uQ : Fun K "tells_take" "tells_take" yP a.q00 a.xaD
 xaO : Binds K a.xaD ["told"] []
 xeq : mg "tells_take" = some (.ref a.q00)
 vw : Fun K "tells_put" "tells_put" zc a.q05 a.xa9
 xbh : Binds K a.xa9 ["told"] []
 xfx : mg "tells_put" = some (.ref a.q05)
 vx : Fun K "are_signs" "are_signs" zd a.q06 a.xba
 xbi : Binds K a.xba ["signs"] []
 xfy : mg "are_signs" = some (.ref a.q06)
 xak : Fun K "is_sign" "is_sign" ui a.q1m a.xcz
 xcE : Binds K a.xcz ["value"] []
 xhB : mg "is_sign" = some (.ref a.q1m)
 xY : Fun K "is_whole_from" "is_whole_from" yg a.q0L a.vH
 yu : Binds K a.vH ["least", "value"] []
 zr : mg "is_whole_from" = some (.ref a.q0L)
 vd : Fun K "is_whole" "is_whole" zK a.q1f a.xbR
 xaP : Binds K a.xbR ["value"] []
 xdJ : mg "is_whole" = some (.ref a.q1f)
 uz : Fun K "pieces_of" "pieces_of" ze a.q07 a.xbb
 jN : Binds K a.xbb ["paper"] []
 xcX : mg "pieces_of" = some (.ref a.q07)
 xb0 : Fun K "go_on" "go_on" jq a.q1Q a.xe5
 xfc : Binds K a.xe5 ["store", "paper"] []
 xjQ : mg "go_on" = some (.ref a.q1Q)
 yW : Fun K "refuse_lengths" "refuse_lengths" xZ a.q0y a.uZ
 ve : Binds K a.uZ ["size", "paper"] []
 xcf : mg "refuse_lengths" = some (.ref a.q0y)
 zt : Fun K "refuse_beyond" "refuse_beyond" yh a.q0M a.vI
 vM : Binds K a.vI ["size", "pieces"] []
 xcF : mg "refuse_beyond" = some (.ref a.q0M)
 zu : Fun K "places_needed" "places_needed" yi a.q0N a.vJ
 vN : Binds K a.vJ ["row", "cells"] []
 xcG : mg "places_needed" = some (.ref a.q0N)
 jC : Fun K "do_piece" "do_piece" zf a.q1g a.xaE
 xbV : Binds K a.xaE ["store", "row", "cells"] []
 xgr : mg "do_piece" = some (.ref a.q1g)
 q1t : xbC K q0S uq
 xfz : a.xaE.code = .ref q0S
 xb1 : Fun K "judge" "judge" jr a.q1R a.xe6
 xfd : Binds K a.xe6 ["paper"] []
 xjR : mg "judge" = some (.ref a.q1R)
 zR : Fun K "fits_in_size" "fits_in_size" yq a.q0T a.jA
 jD : Binds K a.jA ["paper"] []
 xc7 : mg "fits_in_size" = some (.ref a.q0T)
 uA : Fun K "is_length" "is_length" zg a.q08 a.xbc
 jO : Binds K a.xbc ["value"] []
 xcY : mg "is_length" = some (.ref a.q08)
 yU : Fun K "first_wrong_row" "first_wrong_row" xW a.q0r a.uD
 uE : Binds K a.uD ["paper"] []
 xbH : mg "first_wrong_row" = some (.ref a.q0r)
 yX : Fun K "is_fitting_row" "is_fitting_row" ya a.q0z a.va
 vf : Binds K a.va ["told", "old", "new"] []
 xcg : mg "is_fitting_row" = some (.ref a.q0z)
 zv : Fun K "covered_twice" "covered_twice" yj a.q0O a.vK
 vO : Binds K a.vK ["rows"] []
 xcH : mg "covered_twice" = some (.ref a.q0O)
 xal : Fun K "lacking" "lacking" uj a.q1n a.xcA
 xcI : Binds K a.xcA ["rows", "new"] []
 xhC : mg "lacking" = some (.ref a.q1n)
 vy : Fun K "read_late" "read_late" zh a.q09 a.xbd
 xbj : Binds K a.xbd ["rows"] []
 xfA : mg "read_late" = some (.ref a.q09)
 xaQ : Fun K "__init__" "Pen.__init__" zL a.q01 a.xbS
 xbW : Binds K a.xbS ["self", "fall"] []
 zW : Fun K "write_into" "Pen.write_into" yb a.q0l a.vb
 zX : Binds K a.vb ["self", "kept", "at", "value", "torn"] []
 yT : Fun K "answer_of_fall" "Pen.answer_of_fall" xO a.q0f a.zM
 zN : Binds K a.zM ["self", "count"] []
 uR : xg0 K "__init__" "Store.__init__" uN a.q0P a.vY [.none]
 xbD : Binds K a.vY ["self", "cells", "fall"] [.none]
 xaR : Binds K a.vY ["self", "cells", "fall"] []
 jf : Fun K "read" "Store.read" yQ a.q0F a.xaF
 xaS : Binds K a.xaF ["self", "at"] []
 vp : Fun K "write" "Store.write" yl a.q0w a.vi
 jZ : Binds K a.vi ["self", "at", "sign"] []
 q1h : xbC K q0t zB
 xc8 : a.vi.code = .ref q0t
 jg : Fun K "mark" "Store.mark" yR a.q0G a.xaG
 xaT : Binds K a.xaG ["self", "number"] []
 vq : Fun K "noted" "Store.noted" yD a.q0x a.jV
 vt : Binds K a.jV ["self"] []
 jh : Fun K "told" "Store.told" yS a.q0H a.xaH
 ji : Binds K a.xaH ["self"] []
 yw : Fun K "refuse_lacking" "Store.refuse_lacking" xK a.q0e a.zi
 yx : Binds K a.zi ["self", "at"] []
 zG : Fun K "note_down" "Store.note_down" xP a.q0j a.zD
 uF : Binds K a.zD ["self", "at", "number"] []
 q0X : xbC K q0g yt
 xbu : a.zD.code = .ref q0g
 yG : Fun K "_law_cell_at" "_law_cell_at" uk a.q1o a.xcB
 zm : Binds K a.xcB ["_law_script", "_law_k"] []
 uv : mg "_law_cell_at" = some (.ref a.q1o)
 zw : Fun K "_law_mixed" "_law_mixed" jt a.q1S a.xe7
 uf : Binds K a.xe7 ["_law_cell", "_law_k"] []
 vz : mg "_law_mixed" = some (.ref a.q1S)
 xc9 : Fun K "_law_cuts" "_law_cuts" xaw a.q2r a.xgo
 xgs : Binds K a.xgo ["_law_size", "_law_cell"] []
 xlQ : mg "_law_cuts" = some (.ref a.q2r)
 xb2 : Fun K "_law_tiles" "_law_tiles" ju a.q1T a.xe8
 xfe : Binds K a.xe8 ["_law_old", "_law_new", "_law_cell"] []
 xjS : mg "_law_tiles" = some (.ref a.q1T)
 xam : Fun K "_law_ordered" "_law_ordered" um a.q1p a.xcC
 xcJ : Binds K a.xcC ["_law_rows", "_law_cell"] []
 xhD : mg "_law_ordered" = some (.ref a.q1p)
 xb3 : Fun K "_law_paper" "_law_paper" jv a.q1U a.xe9
 xff : Binds K a.xe9 ["_law_script"] []
 xjT : mg "_law_paper" = some (.ref a.q1U)
 xb4 : Fun K "_law_meant" "_law_meant" jw a.q1V a.xfa
 xfg : Binds K a.xfa ["_law_paper_here", "_law_elder_here"] []
 xjU : mg "_law_meant" = some (.ref a.q1V)
 xb5 : Fun K "_law_elder" "_law_elder" jx a.q1W a.xfb
 xfh : Binds K a.xfb ["_law_cell", "_law_size"] []
 xjV : mg "_law_elder" = some (.ref a.q1W)
 xan : Fun K "_law_fall_at" "_law_fall_at" uo a.q1q a.xcD
 xcK : Binds K a.xcD ["_law_script", "_law_due", "_law_elder_here", "_law_falls", "_law_count"] []
 xhE : mg "_law_fall_at" = some (.ref a.q1q)
 xda : Fun K "_law_ends" "_law_ends" xax a.q2s a.xgp
 xgt : Binds K a.xgp ["_law_store", "_law_paper_here"] []
 xlR : mg "_law_ends" = some (.ref a.q2s)
 xgu : Fun K "law" "law" xa6 a.q34 a.xgq
 xkI : Binds K a.xgq ["_law_script"] []
 q5f : xbC K q2b xe4
 xlS : a.xgq.code = .ref q2b
 xkJ : mg "Row" = some (.ref a.q1a)
 xpY : Cls K a.q1a
 q1J : xR K a.q1a "count"
 q3l : xR K a.q1a "to"
 xgv : mg "Take" = some (.ref a.q0a)
 xI : Cls K a.q0a
 q0p : xR K a.q0a "count"
 q0k : xR K a.q0a "source"
 q0s : xR K a.q0a "to"
 q36 : Mk K a.q0a a.q0W
 xnx : mg "Put" = some (.ref a.q0c)
 zx : Cls K a.q0c
 q0Q : xR K a.q0c "count"
 q1c : xR K a.q0c "signs"
 q1d : xR K a.q0c "to"
 q5g : Mk K a.q0c a.q0Z
 xny : mg "Pen" = some (.ref a.q0q)
 xbk : Cls K a.q0q
 q02 : xR K a.q0q "asked"
 q1u : xR K a.q0q "fall"
 q5h : Mk K a.q0q a.q01
 xjW : mg "Store" = some (.ref a.q0b)
 xU : Cls K a.q0b
 q0J : xR K a.q0b "cells"
 q0U : xR K a.q0b "notes"
 q03 : xR K a.q0b "pen"
 q2T : Mk K a.q0b a.q0P
 xfT : mg "Fallen" = some (.ref a.q0d)
 xod : mg "NoRow" = some (.ref a.q1X)
 xer : xeo K a.q0d a.q0A
 xlT : W.hasDictIn K a.q0d = true
 q1e : xR K a.q0d "count"
 q04 : W.kitCls K (.ref a.q0d) (.ref a.q0d) = some true
 q1r : W.kitCls K (.ref a.q0d) (.ref a.q1X) = some false
 xlU : xqn K a.q0d
 q2q : xkz K a.q0d
 q37 : xkz K a.q1X
 xiw : ∀ {H : Hp} {o dx : Addr} {fs : List (Str × V)}, H o = some (.ins a.q0c dx fs) → uy K H (.ref o) (.ref a.q0c)
 xg2 : ∀ {H : Hp} {o dx : Addr} {fs : List (Str × V)}, H o = some (.ins a.q0a dx fs) → uy K H (.ref o) (.ref a.q0a)
 q1v : W.kitOne K (.ref a.q0c) (.ref a.q0a) = some false
 q1i : W.kitOne K (.ref a.q0a) (.ref a.q0a) = some true
 xix : mg "MOST" = some (.int 300 a.q5Z)
 xao : Meth K a.q0q "answer_of_fall" a.q0f
 jH : Meth K a.q0q "write_into" a.q0l
 uS : Meth K a.q0c "covered" a.q0h
 xdS : Meth K a.q0c "covers" a.q0m
 xdT : Meth K a.q0c "pieces" a.q0E
 xes : Meth K a.q0c "reads" a.q0R
 xcL : Meth K a.q0c "sign_for" a.q0o
 xdU : Meth K a.q0c "writes" a.q0D
 xdV : Meth K a.q0b "mark" a.q0G
 xbv : Meth K a.q0b "note_down" a.q0j
 xa5 : Meth K a.q0b "noted" a.q0x
 xdW : Meth K a.q0b "read" a.q0F
 ub : Meth K a.q0b "refuse_lacking" a.q0e
 xbE : Meth K a.q0b "told" a.q0H
 xdb : Meth K a.q0b "write" a.q0w
 vP : Meth K a.q0a "covered" a.q0h
 xdc : Meth K a.q0a "covers" a.q0m
 xdd : Meth K a.q0a "pieces" a.q0v
 xdX : Meth K a.q0a "reads" a.q0C
 xch : Meth K a.q0a "sign_for" a.q0n
 jj : Meth K a.q0a "source_for" a.q0i
 xaa : Meth K a.q0a "stays" a.q0B
 xde : Meth K a.q0a "writes" a.q0u
 xcZ : xo1 K a.q1a "__init__" a.q0Y
 q6u : mg "abs" = none
 q6v : mg "all" = none
 q5i : mg "bool" = none
 q1b : mg "enumerate" = none
 q5k : mg "int" = none
 q0I : mg "isinstance" = none
 q0V : mg "len" = none
 q1I : mg "list" = none
 q3k : mg "max" = none
 q5l : mg "min" = none
 q0K : mg "range" = none
 q2U : mg "sorted" = none
 q1z : mg "tuple" = none
theorem xdf : xt ["self", "count"] ["self", "count"] (xb yz) := ⟨rfl, rfl, rfl, by decide +kernel, rfl, by decide +kernel, by decide +kernel⟩
theorem xfB : xt ["self", "to"] ["self", "to"] (xb zI) := ⟨rfl, rfl, rfl, by decide +kernel, rfl, by decide +kernel, by decide +kernel⟩
theorem xdY : xt ["self"] ["self"] (xb yK) := ⟨rfl, rfl, rfl, by decide +kernel, rfl, by decide +kernel, by decide +kernel⟩
theorem xdg : xt ["self"] ["self"] (xb yA) := ⟨rfl, rfl, rfl, by decide +kernel, rfl, by decide +kernel, by decide +kernel⟩
theorem xet : xt ["self", "to", "start", "count"] ["self", "to", "start", "count"] (xb za) := ⟨rfl, rfl, rfl, by decide +kernel, rfl, by decide +kernel, by decide +kernel⟩
theorem xdZ : xt ["self"] ["self"] (xb yL) := ⟨rfl, rfl, rfl, by decide +kernel, rfl, by decide +kernel, by decide +kernel⟩
theorem xd0 : xt ["self"] ["self"] (xb yM) := ⟨rfl, rfl, rfl, by decide +kernel, rfl, by decide +kernel, by decide +kernel⟩
theorem xdh : xt ["self"] ["self"] (xb yB) := ⟨rfl, rfl, rfl, by decide +kernel, rfl, by decide +kernel, by decide +kernel⟩
theorem xdi : xt ["self", "first", "end", "step"] ["self"] (xb yC) := ⟨rfl, rfl, rfl, by decide +kernel, rfl, by decide +kernel, by decide +kernel⟩
theorem xbw : xt ["self", "cell"] ["self", "cell"] (xb xV) := ⟨rfl, rfl, rfl, by decide +kernel, rfl, by decide +kernel, by decide +kernel⟩
theorem xci : xt ["self", "cell", "read"] ["self", "cell", "read"] (xb yf) := ⟨rfl, rfl, rfl, by decide +kernel, rfl, by decide +kernel, by decide +kernel⟩
theorem xfC : xt ["self", "to", "signs"] ["self", "to", "signs"] (xb zJ) := ⟨rfl, rfl, rfl, by decide +kernel, rfl, by decide +kernel, by decide +kernel⟩
theorem xeu : xt ["self"] ["self"] (xb zb) := ⟨rfl, rfl, rfl, by decide +kernel, rfl, by decide +kernel, by decide +kernel⟩
theorem xd1 : xt ["self"] ["self"] (xb yN) := ⟨rfl, rfl, rfl, by decide +kernel, rfl, by decide +kernel, by decide +kernel⟩
theorem xd2 : xt ["self"] ["self"] (xb yO) := ⟨rfl, rfl, rfl, by decide +kernel, rfl, by decide +kernel, by decide +kernel⟩
theorem xcM : xt ["self", "cell", "read"] ["self", "cell", "read"] (xb yp) := ⟨rfl, rfl, rfl, by decide +kernel, rfl, by decide +kernel, by decide +kernel⟩
theorem xhF : xt ["told"] ["told"] (xb uY) := ⟨rfl, rfl, rfl, by decide +kernel, rfl, by decide +kernel, by decide +kernel⟩
theorem xd3 : xt ["told"] ["told"] (xb yP) := ⟨rfl, rfl, rfl, by decide +kernel, rfl, by decide +kernel, by decide +kernel⟩
theorem xev : xt ["told"] ["told"] (xb zc) := ⟨rfl, rfl, rfl, by decide +kernel, rfl, by decide +kernel, by decide +kernel⟩
theorem xew : xt ["signs"] ["signs"] (xb zd) := ⟨rfl, rfl, rfl, by decide +kernel, rfl, by decide +kernel, by decide +kernel⟩
theorem xgw : xt ["value"] ["value"] (xb ui) := ⟨rfl, rfl, rfl, by decide +kernel, rfl, by decide +kernel, by decide +kernel⟩
theorem xcj : xt ["least", "value"] ["least", "value"] (xb yg) := ⟨rfl, rfl, rfl, by decide +kernel, rfl, by decide +kernel, by decide +kernel⟩
theorem xfD : xt ["value"] ["value"] (xb zK) := ⟨rfl, rfl, rfl, by decide +kernel, rfl, by decide +kernel, by decide +kernel⟩
theorem xex : xt ["paper", "pieces", "told"] ["paper"] (xb ze) := ⟨rfl, rfl, rfl, by decide +kernel, rfl, by decide +kernel, by decide +kernel⟩
theorem xiy : xt ["store", "paper", "size", "pieces", "first", "left", "number", "piece"] ["store", "paper"] (xb jq) := ⟨rfl, rfl, rfl, by decide +kernel, rfl, by decide +kernel, by decide +kernel⟩
theorem xbI : xt ["size", "paper", "greater"] ["size", "paper"] (xb xZ) := ⟨rfl, rfl, rfl, by decide +kernel, rfl, by decide +kernel, by decide +kernel⟩
theorem xck : xt ["size", "pieces", "told", "cells", "at"] ["size", "pieces"] (xb yh) := ⟨rfl, rfl, rfl, by decide +kernel, rfl, by decide +kernel, by decide +kernel⟩
theorem xcl : xt ["row", "cells", "places", "cell"] ["row", "cells"] (xb yi) := ⟨rfl, rfl, rfl, by decide +kernel, rfl, by decide +kernel, by decide +kernel⟩
theorem xfE : xt ["store", "row", "cells", "cell"] ["store", "row", "cells"] (xb zf) := ⟨rfl, rfl, rfl, by decide +kernel, rfl, by decide +kernel, by decide +kernel⟩
theorem xiz : xt ["paper", "wrong", "rows", "fault"] ["paper"] (xb jr) := ⟨rfl, rfl, rfl, by decide +kernel, rfl, by decide +kernel, by decide +kernel⟩
theorem xcN : xt ["paper"] ["paper"] (xb yq) := ⟨rfl, rfl, rfl, by decide +kernel, rfl, by decide +kernel, by decide +kernel⟩
theorem xey : xt ["value"] ["value"] (xb zg) := ⟨rfl, rfl, rfl, by decide +kernel, rfl, by decide +kernel, by decide +kernel⟩
theorem xbx : xt ["paper", "number", "told"] ["paper"] (xb xW) := ⟨rfl, rfl, rfl, by decide +kernel, rfl, by decide +kernel, by decide +kernel⟩
theorem xbJ : xt ["told", "old", "new", "row"] ["told", "old", "new"] (xb ya) := ⟨rfl, rfl, rfl, by decide +kernel, rfl, by decide +kernel, by decide +kernel⟩
theorem xcm : xt ["rows", "covered", "number", "row", "cell"] ["rows"] (xb yj) := ⟨rfl, rfl, rfl, by decide +kernel, rfl, by decide +kernel, by decide +kernel⟩
theorem xgx : xt ["rows", "new", "covered", "row", "cell"] ["rows", "new"] (xb uj) := ⟨rfl, rfl, rfl, by decide +kernel, rfl, by decide +kernel, by decide +kernel⟩
theorem xez : xt ["rows", "written", "number", "row", "cell"] ["rows"] (xb zh) := ⟨rfl, rfl, rfl, by decide +kernel, rfl, by decide +kernel, by decide +kernel⟩
theorem xfF : xt ["self", "fall"] ["self", "fall"] (xb zL) := ⟨rfl, rfl, rfl, by decide +kernel, rfl, by decide +kernel, by decide +kernel⟩
theorem xbK : xt ["self", "kept", "at", "value", "torn", "count", "answer"] ["self", "kept", "at", "value", "torn"] (xb yb) := ⟨rfl, rfl, rfl, by decide +kernel, rfl, by decide +kernel, by decide +kernel⟩
theorem xap : xt ["self", "count", "fall"] ["self", "count"] (xb xO) := ⟨rfl, rfl, rfl, by decide +kernel, rfl, by decide +kernel, by decide +kernel⟩
theorem xd4 : xt ["self", "cells", "fall"] ["self", "cells", "fall"] (xb uN) := ⟨rfl, rfl, rfl, by decide +kernel, rfl, by decide +kernel, by decide +kernel⟩
theorem xd5 : xt ["self", "at"] ["self", "at"] (xb yQ) := ⟨rfl, rfl, rfl, by decide +kernel, rfl, by decide +kernel, by decide +kernel⟩
theorem xdj : xt ["self", "at", "sign"] ["self", "at", "sign"] (xb yl) := ⟨rfl, rfl, rfl, by decide +kernel, rfl, by decide +kernel, by decide +kernel⟩
theorem xd6 : xt ["self", "number"] ["self", "number"] (xb yR) := ⟨rfl, rfl, rfl, by decide +kernel, rfl, by decide +kernel, by decide +kernel⟩
theorem xdk : xt ["self"] ["self"] (xb yD) := ⟨rfl, rfl, rfl, by decide +kernel, rfl, by decide +kernel, by decide +kernel⟩
theorem xd7 : xt ["self"] ["self"] (xb yS) := ⟨rfl, rfl, rfl, by decide +kernel, rfl, by decide +kernel, by decide +kernel⟩
theorem jF : xt ["self", "at"] ["self", "at"] (xb xK) := ⟨rfl, rfl, rfl, by decide +kernel, rfl, by decide +kernel, by decide +kernel⟩
theorem xby : xt ["self", "at", "number"] ["self", "at", "number"] (xb xP) := ⟨rfl, rfl, rfl, by decide +kernel, rfl, by decide +kernel, by decide +kernel⟩
theorem xgy : xt ["_law_script", "_law_k"] ["_law_script", "_law_k"] (xb uk) := ⟨rfl, rfl, rfl, by decide +kernel, rfl, by decide +kernel, by decide +kernel⟩
theorem xiA : xt ["_law_cell", "_law_k", "_law_number"] ["_law_cell", "_law_k"] (xb jt) := ⟨rfl, rfl, rfl, by decide +kernel, rfl, by decide +kernel, by decide +kernel⟩
theorem xjX : xt ["_law_size", "_law_cell", "_law_cuts_here"] ["_law_size", "_law_cell"] (xb xaw) := ⟨rfl, rfl, rfl, by decide +kernel, rfl, by decide +kernel, by decide +kernel⟩
theorem xiB : xt ["_law_old", "_law_new", "_law_cell", "_law_cuts_here", "_law_shift", "_law_rows", "_law_k", "_law_draw", "_law_to", "_law_count", "_law_start"] ["_law_old", "_law_new", "_law_cell"] (xb ju) := ⟨rfl, rfl, rfl, by decide +kernel, rfl, by decide +kernel, by decide +kernel⟩
theorem xgz : xt ["_law_rows", "_law_cell", "_law_takes", "_law_puts", "_law_way", "_law_keyed"] ["_law_rows", "_law_cell"] (xb um) := ⟨rfl, rfl, rfl, by decide +kernel, rfl, by decide +kernel, by decide +kernel⟩
theorem xiC : xt ["_law_script", "_law_old", "_law_new", "_law_rows"] ["_law_script"] (xb jv) := ⟨rfl, rfl, rfl, by decide +kernel, rfl, by decide +kernel, by decide +kernel⟩
theorem xiD : xt ["_law_paper_here", "_law_elder_here", "_law_cells", "_law_row", "_law_j"] ["_law_paper_here", "_law_elder_here"] (xb jw) := ⟨rfl, rfl, rfl, by decide +kernel, rfl, by decide +kernel, by decide +kernel⟩
theorem xiE : xt ["_law_cell", "_law_size"] ["_law_cell", "_law_size"] (xb jx) := ⟨rfl, rfl, rfl, by decide +kernel, rfl, by decide +kernel, by decide +kernel⟩
theorem xgA : xt ["_law_script", "_law_due", "_law_elder_here", "_law_falls", "_law_count", "_law_draw", "_law_some"] ["_law_script", "_law_due", "_law_elder_here", "_law_falls", "_law_count"] (xb uo) := ⟨rfl, rfl, rfl, by decide +kernel, rfl, by decide +kernel, by decide +kernel⟩
theorem xjY : xt ["_law_store", "_law_paper_here", "_law_again", "_law_good"] ["_law_store", "_law_paper_here"] (xb xax) := ⟨rfl, rfl, rfl, by decide +kernel, rfl, by decide +kernel, by decide +kernel⟩
theorem xlV : xt ["_law_script", "_law_paper_here", "_law_fault", "_law_elder_here", "_law_due", "_law_size", "_law_rest", "_law_falls", "_law_store", "_law_cells", "_law_notes", "_law_asked"] ["_law_script"] (xb xa6) := ⟨rfl, rfl, rfl, by decide +kernel, rfl, by decide +kernel, by decide +kernel⟩
def xcO (to st c : Int) : List (Str × V) := [("to", .int to), ("count", .int c), ("source", .int st)]
def xfi (to : Int) (t : Addr) (n : Int) : List (Str × V) := [("to", .int to), ("count", .int n), ("signs", .ref t)]
def yy (lo : Int) (n : Nat) : List Int := (List.range n).map fun (i : Nat) => lo + (i : Int)
theorem xfj (lo : Int) (n : Nat) : xej lo n = (yy lo n).map V.int := by simp [xej, yy, Function.comp_def]
theorem yn (lo : Int) (n : Nat) : (yy lo n).length = n := by simp [yy]
theorem zC {x lo : Int} {n : Nat} : x ∈ yy lo n ↔ lo ≤ x ∧ x < lo + n := by
 unfold yy
 rw [List.mem_map]
 constructor
 ·rintro ⟨i, hi, rfl⟩
  have := List.mem_range.mp hi
  omega
 ·rintro ⟨h1, h2⟩
  exact ⟨(x - lo).toNat, List.mem_range.mpr (by omega), by omega⟩
inductive xm where
 | take (to st c : Int)
 | put (to : Int) (sg : List Int)
def xm.isTake : xm → Bool
 | .take .. => true
 | .put .. => false
def TupAt (K : W.Frag) (H : Hp) (t : Addr) : xm → Prop
 | .take to st c => H t = some (.tup [.str "take", .int to, .int st, .int c])
 | .put to sg => ∃ u, H t = some (.tup [.str "put", .int to, .ref u]) ∧ H u = some (.tup (sg.map V.int))
theorem TupAt.same {K : W.Frag} {H H' : Hp} {t : Addr} {r : xm} (h : TupAt K H t r) (s : xc H H') : TupAt K H' t r := by
 cases r with
 | take to st c => exact s.at h
 | put to sg => obtain ⟨u, h1, h2⟩ := h; exact ⟨u, s.at h1, s.at h2⟩
def zO (K : W.Frag) (a : Adr) (H : Hp) (o : Addr) : xm → Prop
 | .take to st c => ∃ dx, H o = some (.ins a.q0a dx (xcO to st c))
 | .put to sg => ∃ dx u, H o = some (.ins a.q0c dx (xfi to u sg.length)) ∧ H u = some (.tup (sg.map V.int))
theorem zO.same {K : W.Frag} {a : Adr} {H H' : Hp} {o : Addr} {r : xm} (h : zO K a H o r) (s : xc H H') : zO K a H' o r := by
 cases r with
 | take to st c => obtain ⟨dx, h⟩ := h; exact ⟨dx, s.at h⟩
 | put to sg => obtain ⟨dx, u, h1, h2⟩ := h; exact ⟨dx, u, s.at h1, s.at h2⟩
theorem zO.mv {K : W.Frag} {a : Adr} {H H' H6 : Hp} {o : Addr} {r : xm} (h : zO K a H' o r) (k : ∀ p o, (H p = none ∨ ∀ ys, o ≠ HO.lst ys) → H' p = some o → H6 p = some o) : zO K a H6 o r := by
 cases r with
 | take to st c => obtain ⟨dx, h⟩ := h; exact ⟨dx, k _ _ (.inr fun ys z => by cases z) h⟩
 | put to sg => obtain ⟨dx, u, h1, h2⟩ := h; exact ⟨dx, u, k _ _ (.inr fun ys z => by cases z) h1, k _ _ (.inr fun ys z => by cases z) h2⟩
def xm.ok : xm → Prop
 | .take to st c => 0 ≤ to ∧ 0 ≤ st ∧ 1 ≤ c
 | .put to sg => 0 ≤ to ∧ sg ≠ [] ∧ sg.length ≤ 100000 ∧ ∀ x ∈ sg, (x.natAbs : Int) < 10 ^ 60
def xiF (K : W.Frag) (a : Adr) (H : Hp) (l : Addr) (rs : List xm) : Prop := ∃ ts : List Addr, SqL K H l (ts.map V.ref) ∧ Paired (zO K a H) ts rs
theorem xlW {K : W.Frag} {H : Hp} {t p C dx : Addr} {xs : List V} {fs : List (Str × V)} {o : HO} (h : SqT K H t xs) (hp : H p = some (.ins C dx fs)) : SqT K (upd H p o) t xs := by
 rcases h with (h | ⟨ob, h⟩) | h
 ·exact .inl (.inl (by rw [xn (xar h hp (by intro z; cases z))]; exact h))
 ·exact .inl (.inr ⟨ob, by rw [xn (xar h hp (by intro z; cases z))]; exact h⟩)
 ·exact .inr h
def xji (K : W.Frag) : Sp := fun vs H Q _ => ∃ (p C dx : Addr) (to : Int), vs = [.ref p, .int to] ∧ H p = some (.ins C dx []) ∧ Cls K C ∧ xR K C "to" ∧ xR K C "count" ∧ Q .non (upd H p (.ins C dx [("to", .int to), ("count", .int 0)]))
def xiG (a : Adr) : Sp := fun vs H Q _ => ∃ (p dx : Addr) (to st c : Int), vs = [.ref p, .int to, .int st, .int c] ∧ H p = some (.ins a.q0a dx []) ∧ Q .non (upd H p (.ins a.q0a dx (xcO to st c)))
def xjj (K : W.Frag) (a : Adr) : Sp := fun vs H Q _ => ∃ (p dx t : Addr) (to : Int) (xs : List V), vs = [.ref p, .int to, .ref t] ∧ H p = some (.ins a.q0c dx []) ∧ SqT K H t xs ∧ Q .non (upd H p (.ins a.q0c dx (xfi to t xs.length)))
def xfU (H : Hp) (Q : VK) (ns : List Int) : Prop := ∀ (l : Addr) (H' : Hp), xc H H' → H l = none → H' l = some (.lst (ns.map V.int)) → Q (.ref l) H'
def xmP (a : Adr) : Sp := fun vs H Q _ => ∃ (p dx : Addr) (to st c : Int), vs = [.ref p] ∧ H p = some (.ins a.q0a dx (xcO to st c)) ∧ Q (.bl (decide (st = to))) H
def xjk : Sp := fun vs H Q _ => ∃ i : Int, vs = [.int i] ∧ Q (.bl true) H
def xfV : Sp := fun vs H Q _ => ∃ l i : Int, vs = [.int l, .int i] ∧ Q (.bl (decide (l ≤ i))) H
def xkK : Sp := fun vs H Q _ => ∃ i : Int, vs = [.int i] ∧ (i.natAbs : Int) < 10 ^ 60 ∧ Q (.bl true) H
def xiH (K : W.Frag) : Sp := fun vs H Q _ => ∃ (u : Addr) (sg : List Int), vs = [.ref u] ∧ H u = some (.tup (sg.map V.int)) ∧ sg ≠ [] ∧ sg.length ≤ 100000 ∧ (∀ x ∈ sg, (x.natAbs : Int) < 10 ^ 60) ∧ ∀ H', xc H H' → Q (.bl true) H'
def xhO (K : W.Frag) : Sp := fun vs H Q _ => ∃ (t : Addr) (r : xm), vs = [.ref t] ∧ TupAt K H t r ∧ r.ok ∧ Q (.bl r.isTake) H
def xiI (K : W.Frag) : Sp := fun vs H Q _ => ∃ (t : Addr) (to : Int) (sg : List Int), vs = [.ref t] ∧ TupAt K H t (.put to sg) ∧ xm.ok (.put to sg) ∧ ∀ H', xc H H' → Q (.bl true) H'
def xbz (K : W.Frag) (a : Adr) : Sp := fun vs H Q _ => ∃ (t : Addr) (r : xm), vs = [.ref t] ∧ TupAt K H t r ∧ r.ok ∧ ∀ (o : Addr) (H' : Hp), xc H H' → H o = none → zO K a H' o r → Q (.ref o) H'
def mixed (c k : Int) : Int := if c % 2 = 1 then c / 2 ^ (1 + 20 * (k % 120)).toNat % 2 ^ (20 : Int).toNat else
 let n := (c / 2 % 2147483647 + 7919 * k + 1) * 48271 % 2147483647
 n * (n / 1009 + 69621) % 2147483647
def cellAt (ns : List Int) (k : Int) : Int := if k < ns.length then ns.getD k.toNat 0 else 0
def xdK (K : W.Frag) : Sp := fun vs H Q _ => ∃ (p C dx : Addr) (fs : List (Str × V)) (to c : Int), vs = [.ref p] ∧ H p = some (.ins C dx fs) ∧ Cls K C ∧ xR K C "to" ∧ xR K C "count" ∧ fs.lookup ("to" : Str) = some (.int to) ∧ fs.lookup ("count" : Str) = some (.int c) ∧ c.toNat ≤ 2 ^ 24 ∧ xfU H Q (yy to c.toNat)
def xkL (K : W.Frag) : Sp := fun vs H Q _ => ∃ (l : Addr) (ns : List Int) (k : Int), vs = [.ref l, .int k] ∧ SqL K H l (ns.map V.int) ∧ 0 ≤ k ∧ Q (.int (cellAt ns k)) H
def xmQ : Sp := fun vs H Q _ => ∃ c k : Int, vs = [.int c, .int k] ∧ Q (.int (mixed c k)) H
def cN (d k : Nat) : Nat := (k + d - 1) / d
def chs (u : Nat → Nat → List Int) (d k : Nat) : List (List Int) := (List.range (cN d k)).map (u k)
theorem xjZ {d : Nat} (hd : 0 < d) : cN d 0 = 0 := by unfold cN; exact Nat.div_eq_of_lt (by omega)
theorem xfk {d : Nat} (hd : 0 < d) (k : Nat) : cN d (k + 1) = k / d + 1 := by
 unfold cN
 rw [show k + 1 + d - 1 = k + d by omega, Nat.add_div_right _ hd]
def uch (to : Int) (d k j : Nat) : List Int := yy (to + ((j * d : Nat) : Int)) (min d (k - j * d))
def dch (e : Int) (d k j : Nat) : List Int := yy (e - ((min ((j + 1) * d) k : Nat) : Int)) (min d (k - j * d))
def yr (to st c : Int) : List (List Int) :=
 if st = to then [] else if to < st then chs (uch to (st - to).toNat) (st - to).toNat c.toNat else chs (dch (to + c) (to - st).toNat) (to - st).toNat c.toNat
theorem xfl (u : Nat → Nat → List Int) (d k : Nat) (hd : 0 < d) : (chs u d k).length ≤ k := by
 unfold chs
 rw [List.length_map, List.length_range]
 cases k with
 | zero => rw [xjZ hd]; exact Nat.le_refl _
 | succ k => rw [xfk hd]; have := Nat.div_le_self k d; omega
theorem xlX {x : Int} (h0 : x ≠ 0) (h : x.natAbs < 2 ^ 200) : xlx x := by
 refine ⟨h0, ?_⟩
 have : x.natAbs.log2 < 200 := (Nat.log2_lt (by omega)).mpr h
 omega
theorem xoe (to c : Int) (d : Nat) (hc : 1 ≤ c) (hd : 0 < d) : yo to (to + c) (d : Int) = cN d c.toNat := by
 unfold yo Builtin.Range.rangeSize
 rw [if_pos (by omega), if_pos (by omega)]
 obtain ⟨n, rfl⟩ : ∃ n : Nat, c = (n : Int) + 1 := ⟨(c - 1).toNat, by omega⟩
 rw [show ((n : Int) + 1).toNat = n + 1 by omega, xfk hd, show to + ((n : Int) + 1) - to - 1 = (n : Int) by omega, ← Int.natCast_ediv]
 generalize n / d = q
 omega
theorem xlY (to c : Int) (d : Nat) (hc : 1 ≤ c) (hd : 0 < d) : yo (to + c) to (-(d : Int)) = cN d c.toNat := by
 unfold yo Builtin.Range.rangeSize
 rw [if_neg (by omega), if_pos (by omega)]
 obtain ⟨n, rfl⟩ : ∃ n : Nat, c = (n : Int) + 1 := ⟨(c - 1).toNat, by omega⟩
 rw [show ((n : Int) + 1).toNat = n + 1 by omega, xfk hd, show to + ((n : Int) + 1) - to - 1 = (n : Int) by omega, Int.neg_neg, ← Int.natCast_ediv]
 generalize n / d = q
 omega
theorem xmR {d i k : Nat} (hd : 0 < d) (h : i < cN d k) : i * d ≤ k := by
 cases k with
 | zero => rw [xjZ hd] at h; omega
 | succ k =>
  rw [xfk hd] at h
  have h1 : i ≤ k / d := by omega
  have := Nat.le_trans (Nat.mul_le_mul_right d h1) (Nat.div_mul_le_self k d)
  omega
def xg3 : Stmt → Expr
 | .Expr v _ => v
 | _ => .Constant .none 0 ⟨0, 0, 0, 0⟩
def Kp (S : List Addr) (H H' : Hp) : Prop := ∀ b u, H b = some u → b ∉ S → H' b = some u
theorem Kp.of {S : List Addr} {H H' : Hp} (s : xc H H') : Kp S H H' := fun b u e _ => s b u e
theorem Kp.trans {S : List Addr} {H H1 H2 : Hp} (h : Kp S H H1) (g : Kp S H1 H2) : Kp S H H2 := fun b u e n => g b u (h b u e n) n
theorem Kp.mono {S S' : List Addr} {H H1 : Hp} (h : Kp S H H1) (m : ∀ x ∈ S, x ∈ S') : Kp S' H H1 := fun b u e n => h b u e fun z => n (m b z)
theorem Kp.wr {S : List Addr} {H H1 : Hp} {p : Addr} {o : HO} (h : Kp S H H1) (m : p ∈ S) : Kp S H (upd H1 p o) := fun b u e n => by
 rw [xn (fun z => n (by rw [z]; exact m))]; exact h b u e n
theorem Kp.mk {S : List Addr} {H H1 : Hp} {p : Addr} {o : HO} (h : Kp S H H1) (m : H p = none) : Kp S H (upd H1 p o) := fun b u e n => by
 rw [xn (xB e m)]; exact h b u e n
theorem Kp.same {S : List Addr} {H H1 H2 : Hp} (h : Kp S H H1) (s : xc H1 H2) : Kp S H H2 := h.trans (.of s)
def xbF : HO → Prop
 | .ins _ _ _ => True
 | .lst _ => True
 | _ => False
theorem yJ.kp {H H' : Hp} {S : List Addr} {f : Addr} {nm qual : Str} {params : Arguments} {body : FuncBody} {scope : Scope} {fv : List (Str × V)} (h : yJ H f nm qual params body scope fv) (mu : ∀ x ∈ S, ∃ u, H x = some u ∧ xbF u) (k : Kp S H H') : yJ H' f nm qual params body scope fv := by
 have e : ∀ b u, H b = some u → ¬ xbF u → H' b = some u := fun b u q n => k b u q fun z => by
  obtain ⟨u', q', m⟩ := mu b z
  rw [q] at q'; cases q'; exact n m
 obtain ⟨clos, c, o, u, u', vs, t, doc, pm, ctv, h1, h2, h3, h4, h5, h6, h7, h8⟩ := h
 exact ⟨clos, c, o, u, u', vs, t, doc, pm, ctv, e _ _ h1 (fun z => z), e _ _ h2 (fun z => z), h3, h4, h5, h6, fun x v m => let ⟨a, q1, q2⟩ := h7 x v m; ⟨a, q1, e _ _ q2 (fun z => z)⟩, fun x a q => let ⟨v, q2⟩ := h8 x a q; ⟨v, e _ _ q2 (fun z => z)⟩⟩
abbrev xdL (n : Int) (fl : V) : List (Str × V) := [("asked", .int n), ("fall", fl)]
def xjl (a : Adr) : Sp := fun vs H Q _ => ∃ (p dp : Addr) (fl : V), vs = [.ref p, fl] ∧ H p = some (.ins a.q0q dp []) ∧ Q .non (upd H p (.ins a.q0q dp (xdL 0 fl)))
structure SA where
 st : Addr
 dx : Addr
 ca : Addr
 na : Addr
 p : Addr
 dp : Addr
def nV : Option Int → V
 | none => .non
 | some i => .int i
abbrev SS (S : SA) : List Addr := [S.ca, S.na, S.p]
abbrev stF (S : SA) : List (Str × V) := [("cells", .ref S.ca), ("notes", .ref S.na), ("pen", .ref S.p)]
structure uc (a : Adr) (H : Hp) (S : SA) (cells : List Int) (notes : List (Option Int)) (n : Int) (fl : V) : Prop where
 st : H S.st = some (.ins a.q0b S.dx (stF S))
 ca : H S.ca = some (.lst (cells.map V.int))
 na : H S.na = some (.lst (notes.map nV))
 p : H S.p = some (.ins a.q0q S.dp (xdL n fl))
 ne : S.ca ≠ S.na
 np : S.p ≠ S.st
theorem uc.mu {a : Adr} {H : Hp} {S : SA} {cells : List Int} {notes : List (Option Int)} {n : Int} {fl : V} (h : uc a H S cells notes n fl) : ∀ x ∈ SS S, ∃ u, H x = some u ∧ xbF u := by
 intro x hx
 simp only [List.mem_cons, List.not_mem_nil, or_false] at hx
 rcases hx with rfl | rfl | rfl
 ·exact ⟨_, h.ca, trivial⟩
 ·exact ⟨_, h.na, trivial⟩
 ·exact ⟨_, h.p, trivial⟩
theorem uc.kp0 {a : Adr} {H H' : Hp} {S : SA} {L : List Addr} {cells : List Int} {notes : List (Option Int)} {n : Int} {fl : V} (h : uc a H S cells notes n fl) (k : Kp L H H') (d : ∀ x ∈ L, x ≠ S.st ∧ x ≠ S.ca ∧ x ≠ S.na ∧ x ≠ S.p) : uc a H' S cells notes n fl :=
 ⟨k _ _ h.st (fun z => (d _ z).1 rfl), k _ _ h.ca (fun z => (d _ z).2.1 rfl), k _ _ h.na (fun z => (d _ z).2.2.1 rfl), k _ _ h.p (fun z => (d _ z).2.2.2 rfl), h.ne, h.np⟩
theorem uc.same {a : Adr} {H H' : Hp} {S : SA} {cells : List Int} {notes : List (Option Int)} {n : Int} {fl : V} (h : uc a H S cells notes n fl) (s : xc H H') : uc a H' S cells notes n fl :=
 h.kp0 (L := []) (Kp.of s) (fun _ z => nomatch z)
theorem uc.nst {a : Adr} {H : Hp} {S : SA} {cells : List Int} {notes : List (Option Int)} {n : Int} {fl : V} (h : uc a H S cells notes n fl) : S.st ∉ SS S := by
 simp only [List.mem_cons, List.not_mem_nil, or_false]
 rintro (z | z | z)
 ·have := h.st; rw [z, h.ca] at this; cases this
 ·have := h.st; rw [z, h.na] at this; cases this
 ·exact h.np z.symm
theorem uc.npc {a : Adr} {H : Hp} {S : SA} {cells : List Int} {notes : List (Option Int)} {n : Int} {fl : V} (h : uc a H S cells notes n fl) : S.p ≠ S.ca := xar h.p h.ca (by intro z; cases z)
theorem uc.npn {a : Adr} {H : Hp} {S : SA} {cells : List Int} {notes : List (Option Int)} {n : Int} {fl : V} (h : uc a H S cells notes n fl) : S.p ≠ S.na := xar h.p h.na (by intro z; cases z)
abbrev inR (cells : List Int) (i : Int) : Prop := 0 ≤ i ∧ i < cells.length
def xhP (K : W.Frag) (a : Adr) : Sp := fun vs H Q _ => ∃ (st dx l : Addr) (cells : List Int) (fl : V), vs = [.ref st, .ref l, fl] ∧ H st = some (.ins a.q0b dx []) ∧ H l = some (.lst (cells.map V.int)) ∧
 ∀ (S : SA) (H' : Hp), S.st = st → Kp [st] H H' → uc a H' S cells [some 0, some 0] 0 fl → H S.ca = none → H S.na = none → H S.p = none → Q .non H'
def xgB (a : Adr) : Sp := fun vs H Q _ => ∃ (S : SA) (cells : List Int) (notes : List (Option Int)) (n i : Int) (fl : V), vs = [.ref S.st, .int i] ∧ uc a H S cells notes n fl ∧ inR cells i ∧ Q .non H
def xhQ (a : Adr) : Sp := fun vs H Q _ => ∃ (S : SA) (cells : List Int) (notes : List (Option Int)) (n i v : Int) (fl : V), vs = [.ref S.st, .int i] ∧ uc a H S cells notes n fl ∧ inR cells i ∧ cells[i.toNat]? = some v ∧ Q (.int v) H
def xof (a : Adr) : Sp := fun vs H Q _ => ∃ (S : SA) (cells : List Int) (notes : List (Option Int)) (n : Int) (fl : V), vs = [.ref S.st] ∧ uc a H S cells notes n fl ∧ ∀ t c m H', xc H H' → H c = none → H m = none → c ≠ m → H' t = some (.tup [.ref c, .ref m, .int n]) → H' c = some (.lst (cells.map V.int)) → H' m = some (.lst (notes.map nV)) → Q (.ref t) H'
def xfm (notes : List (Option Int)) (m : Int) : Prop := (notes.filterMap id = [] → m = 0) ∧ (notes.filterMap id ≠ [] → m ∈ notes.filterMap id ∧ ∀ x ∈ notes.filterMap id, x ≤ m)
theorem xfm.uniq {notes : List (Option Int)} {m m' : Int} (h : xfm notes m) (h' : xfm notes m') : m = m' := by
 by_cases e : notes.filterMap id = []
 ·rw [h.1 e, h'.1 e]
 ·have a := h.2 e
  have b := h'.2 e
  have := a.2 _ b.1
  have := b.2 _ a.1
  omega
def xlZ (a : Adr) : Sp := fun vs H Q _ => ∃ (S : SA) (cells : List Int) (notes : List (Option Int)) (n : Int) (fl : V), vs = [.ref S.st] ∧ uc a H S cells notes n fl ∧ notes.length = 2 ∧ ∀ m H', xc H H' → xfm notes m → Q (.int m) H'
abbrev xcn : Expr := xc6 1 (xo9 ((xg xa6).getD 8 (.Pass ⟨0, 0, 0, 0⟩)))
abbrev xco : Expr := xc6 3 (xg3 ((xg yl).getD 1 (.Pass ⟨0, 0, 0, 0⟩)))
abbrev xcp : Expr := xc6 3 (xg3 ((xg xP).getD 0 (.Pass ⟨0, 0, 0, 0⟩)))
theorem xj0 : xac ["_law_count", "_law_due", "_law_elder_here", "_law_falls", "_law_script"] ["_law_count"] ["_law_due", "_law_elder_here", "_law_falls", "_law_script"] (zA xcn) := ⟨rfl, rfl, rfl, by decide +kernel, rfl, by decide +kernel, by decide +kernel, by decide +kernel⟩
theorem xj1 : xac ["other"] ["other"] [] (zA xco) := ⟨rfl, rfl, rfl, by decide +kernel, rfl, by decide +kernel, by decide +kernel, by decide +kernel⟩
theorem xj2 : xac ["other"] ["other"] [] (zA xcp) := ⟨rfl, rfl, rfl, by decide +kernel, rfl, by decide +kernel, by decide +kernel, by decide +kernel⟩
abbrev xmS (H : Hp) (f : Addr) (fv : List (Str × V)) : Prop := yJ H f "<lambda>" "law.<locals>.<lambda>" (xai xcn) (.expr (xaj xcn)) (zA xcn) fv
abbrev xqp (H : Hp) (f : Addr) (fv : List (Str × V)) : Prop := yJ H f "<lambda>" "Store.write.<locals>.<lambda>" (xai xco) (.expr (xaj xco)) (zA xco) fv
abbrev xqq (H : Hp) (f : Addr) (fv : List (Str × V)) : Prop := yJ H f "<lambda>" "Store.note_down.<locals>.<lambda>" (xai xcp) (.expr (xaj xcp)) (zA xcp) fv
def xog : List (Str × V) → Sp := fun fv vs H Q _ => ∃ v : V, fv = ([] : List (Str × V)) ∧ vs = [v] ∧ Q v H
def xoh : List (Str × V) → Sp := fun fv vs H Q _ => ∃ v : V, fv = ([] : List (Str × V)) ∧ vs = [v] ∧ Q .non H
def xdM (H : Hp) (g : Addr) (tf : Int → V) : Prop := (xqp H g [] ∧ tf = fun s => .int s) ∨ (xqq H g [] ∧ tf = fun _ => .non)
structure FA where
 S : SA
 f : Addr
 fa : Addr
 l : Addr
 du : Addr
 el : Addr
 ns : List Int
 due : List Int
 es : List Int
 H0 : Hp
abbrev SF (F : FA) : List Addr := F.fa :: SS F.S
abbrev fvF (F : FA) : List (Str × V) := [("_law_due", .ref F.du), ("_law_elder_here", .ref F.el), ("_law_falls", .ref F.fa), ("_law_script", .ref F.l)]
structure Bs (K : W.Frag) (F : FA) : Prop where
 lam : xmS F.H0 F.f (fvF F)
 ln : ∀ H, Kp (F.fa :: SS F.S) F.H0 H → SqL K H F.l (F.ns.map V.int)
 nsl : F.ns.length ≤ 63
 du : F.H0 F.du = some (.lst (F.due.map V.int))
 el : F.H0 F.el = some (.lst (F.es.map V.int))
 ndu : F.du ∉ SF F
 nel : F.el ∉ SF F
 mu : ∀ x ∈ SF F, ∃ u, F.H0 x = some u ∧ xbF u
 nfa : F.fa ∉ SS F.S
 nst : F.fa ≠ F.S.st
 Pd : F.H0 uq = some (.tbl jK)
 Pw : F.H0 zB = some (.tbl jy)
 Pn : F.H0 yt = some (.tbl ur)
def yH (H : Hp) (fa : Addr) (k : Nat) : Prop := ∃ ys : List V, H fa = some (.lst ys) ∧ ys.length = k
theorem yH.same {H H' : Hp} {fa : Addr} {k : Nat} (h : yH H fa k) (s : xc H H') : yH H' fa k := let ⟨ys, h1, h2⟩ := h; ⟨ys, s.at h1, h2⟩
theorem yH.kp {H H' : Hp} {S : List Addr} {fa : Addr} {k : Nat} (h : yH H fa k) (s : Kp S H H') (n : fa ∉ S) : yH H' fa k := let ⟨ys, h1, h2⟩ := h; ⟨ys, s _ _ h1 n, h2⟩
structure StF (a : Adr) (H : Hp) (F : FA) (cells : List Int) (notes : List (Option Int)) (k : Nat) : Prop where
 st : ∃ n : Int, 0 ≤ n ∧ uc a H F.S cells notes n (.ref F.f)
 kp : Kp (SF F) F.H0 H
 fl : yH H F.fa k
theorem StF.same {a : Adr} {H H' : Hp} {F : FA} {cells : List Int} {notes : List (Option Int)} {k : Nat} (h : StF a H F cells notes k) (s : xc H H') : StF a H' F cells notes k :=
 ⟨let ⟨n, h0, h1⟩ := h.st; ⟨n, h0, h1.same s⟩, h.kp.same s, h.fl.same s⟩
theorem Bs.keep {K : W.Frag} {F : FA} (B : Bs K F) {H : Hp} (k : Kp (SF F) F.H0 H) {b : Addr} {u : HO} (e : F.H0 b = some u) (m : ¬ xbF u) : H b = some u :=
 k b u e fun z => by
  obtain ⟨u', q', m'⟩ := B.mu b z
  rw [e] at q'; cases q'; exact m m'
theorem Bs.lamAt {K : W.Frag} {F : FA} (B : Bs K F) {H : Hp} (k : Kp (SF F) F.H0 H) : xmS H F.f (fvF F) := yJ.kp B.lam B.mu k
def xkM (H : Hp) (v : V) (h : Option Int) : Prop := ∃ t, v = .ref t ∧ H t = some (.tup (match h with | none => [] | some s => [.int s]))
def xmT (H : Hp) (fa : Addr) (k : Nat) (Q : VK) : Prop := (∀ H', xc H H' → Q .non H') ∧ (k < 30 → ∀ v h H', Kp [fa] H H' → yH H' fa (k + 1) → xkM H' v h → Q v H')
def xkN (K : W.Frag) (H : Hp) (F : FA) (k : Nat) : Prop := (∀ H', Kp [F.fa] H H' → SqL K H' F.l (F.ns.map V.int)) ∧ F.ns.length ≤ 63 ∧ H F.du = some (.lst (F.due.map V.int)) ∧ H F.el = some (.lst (F.es.map V.int)) ∧ yH H F.fa k ∧ k ≤ 30 ∧ F.du ≠ F.fa ∧ F.el ≠ F.fa
theorem Bs.env {K : W.Frag} {F : FA} (B : Bs K F) {H : Hp} {k : Nat} (kp : Kp (SF F) F.H0 H) (h : yH H F.fa k) (hk : k ≤ 30) : xkN K H F k :=
 ⟨fun H' q => B.ln H' (kp.trans (q.mono (by simp))), B.nsl, kp _ _ B.du B.ndu, kp _ _ B.el B.nel, h, hk, fun z => B.ndu (by rw [z]; simp), fun z => B.nel (by rw [z]; simp)⟩
def xkO (K : W.Frag) : Sp := fun vs H Q _ => ∃ (F : FA) (k : Nat) (n : Int), vs = [.ref F.l, .ref F.du, .ref F.el, .ref F.fa, .int n] ∧ 0 ≤ n ∧ xkN K H F k ∧ xmT H F.fa k Q
def xoi (K : W.Frag) : List (Str × V) → Sp := fun fv vs H Q _ => ∃ (F : FA) (k : Nat) (n : Int), fv = fvF F ∧ vs = [.int n] ∧ 0 ≤ n ∧ xkN K H F k ∧ xmT H F.fa k Q
def xg4 (K : W.Frag) (a : Adr) : Sp := fun vs H Q _ => ∃ (F : FA) (n m : Int) (k : Nat), vs = [.ref F.S.p, .int n] ∧ 0 ≤ n ∧ H F.S.p = some (.ins a.q0q F.S.dp (xdL m (.ref F.f))) ∧ xmS H F.f (fvF F) ∧ xkN K H F k ∧ xmT H F.fa k Q
def xhR (K : W.Frag) (a : Adr) : Sp := fun vs H Q E => ∃ (F : FA) (l g : Addr) (i n : Int) (val : V) (xs : List V) (k : Nat) (tf : Int → V), vs = [.ref F.S.p, .ref l, .int i, val, .ref g] ∧ Bs K F ∧ Kp (SF F) F.H0 H ∧ H F.S.p = some (.ins a.q0q F.S.dp (xdL n (.ref F.f))) ∧ 0 ≤ n ∧ yH H F.fa k ∧ k ≤ 30 ∧ l ∈ [F.S.ca, F.S.na] ∧ H l = some (.lst xs) ∧ 0 ≤ i ∧ i < xs.length ∧ xdM H g tf ∧
 (∀ H', Kp [F.S.p, l] H H' → H' F.S.p = some (.ins a.q0q F.S.dp (xdL (n + 1) (.ref F.f))) → H' l = some (.lst (xs.set i.toNat val)) → Q .non H') ∧
 (k < 30 → ∀ d H', Kp [F.S.p, l, F.fa] H H' → H' F.S.p = some (.ins a.q0q F.S.dp (xdL (n + 1) (.ref F.f))) → (H' l = some (.lst xs) ∨ ∃ s, H' l = some (.lst (xs.set i.toNat (tf s)))) → yH H' F.fa (k + 1) → H d = none → H' d = some (.xd [("count", .int n)]) → E (.ref a.q0d) (some d) H')
def xiJ (a : Adr) (H : Hp) (F : FA) (k : Nat) (E : XK) (p : List Int → List (Option Int) → Prop) : Prop := k < 30 → ∀ n d H' cells' notes', Kp (SF F) H H' → StF a H' F cells' notes' (k + 1) → p cells' notes' → H' d = some (.xd [("count", .int n)]) → E (.ref a.q0d) (some d) H'
def xcP (K : W.Frag) (a : Adr) : Sp := fun vs H Q E => ∃ (F : FA) (cells : List Int) (notes : List (Option Int)) (i s : Int) (k : Nat), vs = [.ref F.S.st, .int i, .int s] ∧ Bs K F ∧ StF a H F cells notes k ∧ k ≤ 30 ∧ inR cells i ∧
 (∀ H', Kp (SF F) H H' → StF a H' F (cells.set i.toNat s) notes k → Q .non H') ∧ xiJ a H F k E fun cells' notes' => notes' = notes ∧ (cells' = cells ∨ ∃ t, cells' = cells.set i.toNat t)
def xg5 (K : W.Frag) (a : Adr) : Sp := fun vs H Q E => ∃ (F : FA) (cells : List Int) (notes : List (Option Int)) (i m : Int) (k : Nat), vs = [.ref F.S.st, .int i, .int m] ∧ Bs K F ∧ StF a H F cells notes k ∧ k ≤ 30 ∧ 0 ≤ i ∧ i < notes.length ∧
 (∀ H', Kp (SF F) H H' → StF a H' F cells (notes.set i.toNat (some m)) k → Q .non H') ∧ xiJ a H F k E fun cells' notes' => cells' = cells ∧ (notes' = notes ∨ notes' = notes.set i.toNat none)
def xg6 (K : W.Frag) (a : Adr) : Sp := fun vs H Q E => ∃ (F : FA) (cells : List Int) (notes : List (Option Int)) (m : Int) (k : Nat), vs = [.ref F.S.st, .int m] ∧ Bs K F ∧ StF a H F cells notes k ∧ k ≤ 30 ∧ notes.length = 2 ∧
 (∀ H', Kp (SF F) H H' → StF a H' F cells (notes.set (m % 2).toNat (some m)) k → Q .non H') ∧ xiJ a H F k E fun cells' notes' => cells' = cells ∧ (notes' = notes ∨ notes' = notes.set (m % 2).toNat none)
def xnz (H : Hp) (Q : VK) (xss : List (List Int)) : Prop := ∀ (l : Addr) (as : List Addr) (H' : Hp), xc H H' → uX H H' l as xss → Q (.ref l) H'
def xdN (a : Adr) : Sp := fun vs H Q _ => ∃ (p dx : Addr) (to st c : Int), vs = [.ref p] ∧ H p = some (.ins a.q0a dx (xcO to st c)) ∧ 1 ≤ c ∧ c ≤ 1000 ∧ (st - to).natAbs < 2 ^ 200 ∧ xnz H Q (yr to st c)
def xdO (a : Adr) : Sp := fun vs H Q _ => ∃ (p dx t : Addr) (to n : Int), vs = [.ref p] ∧ H p = some (.ins a.q0c dx (xfi to t n)) ∧ n ≤ 1000 ∧ xnz H Q [yy to n.toNat]
def xl0 (K : W.Frag) : Sp := fun vs H Q _ => ∃ (p C dx : Addr) (fs : List (Str × V)) (to c : Int), vs = [.ref p] ∧ H p = some (.ins C dx fs) ∧ Cls K C ∧ xR K C "to" ∧ xR K C "count" ∧ fs.lookup ("to" : Str) = some (.int to) ∧ fs.lookup ("count" : Str) = some (.int c) ∧ ∀ t, H t = none → Q (.ref t) (upd H t (.tup [.int to, .int (to + c)]))
def xm.cv : xm → List Int
 | .take to _ c => yy to c.toNat
 | .put to sg => yy to sg.length
def xm.rds : xm → List Int
 | .take to st c => if st = to then [] else yy st c.toNat
 | .put _ _ => []
def xm.wrs : xm → List Int
 | .take to st c => if st = to then [] else yy to c.toNat
 | .put to sg => yy to sg.length
def num : Nat → List (List Int) → List (Nat × Int)
 | _, [] => []
 | k, cs :: r => cs.map (fun c => (k, c)) ++ num (k + 1) r
def tw : List (Nat × Int) → List Int → Option (Nat × Int)
 | [], _ => none
 | (k, c) :: r, seen => if c ∈ seen then some (k, c) else tw r (c :: seen)
def xcq (rs : List xm) : Option (Nat × Int) := tw (num 0 (rs.map xm.cv)) []
def xaU (rs : List xm) (new : Nat) : Option Int := ((List.range new).map fun (i : Nat) => (i : Int)).find? fun c => !decide (c ∈ (rs.map xm.cv).flatten)
def xbl : Nat → List xm → List Int → Option (Nat × Int)
 | _, [], _ => none
 | k, r :: rest, wr => match r.rds.find? fun c => decide (c ∈ wr) with
  | some c => some (k, c)
  | none => xbl (k + 1) rest (wr ++ r.wrs)
def xdP (rs : List xm) : Option (Nat × Int) := xbl 0 rs []
def xkP (H : Hp) (Q : VK) (w : Str) : Option (Nat × Int) → Prop
 | none => ∀ H', xc H H' → Q .non H'
 | some (k, c) => ∀ t H', xc H H' → H' t = some (.tup [.str w, .int k, .int c]) → Q (.ref t) H'
def xqr (H : Hp) (Q : VK) (w : Str) : Option Int → Prop
 | none => ∀ H', xc H H' → Q .non H'
 | some c => ∀ t H', xc H H' → H' t = some (.tup [.str w, .int c]) → Q (.ref t) H'
def xgC (rs : List xm) : Prop := rs.length ≤ 300 ∧ ∀ r ∈ rs, r.cv.length ≤ 300 ∧ r.rds.length ≤ 300 ∧ r.wrs.length ≤ 300
def xmU (K : W.Frag) (a : Adr) : Sp := fun vs H Q _ => ∃ (l : Addr) (rs : List xm), vs = [.ref l] ∧ xiF K a H l rs ∧ xgC rs ∧ xcq rs = none ∧ xkP H Q "twice" (xcq rs)
inductive xgD (K : W.Frag) (a : Adr) (vs : List V) (H : Hp) (Q : VK) : Prop
 | mk (l : Addr) (rs : List xm) (new : Nat) : (vs = [.ref l, .int new]) → (xiF K a H l rs) → (xgC rs) → (new ≤ 300) → (xaU rs new = none) → (xqr H Q "lacks" (xaU rs new)) → xgD K a vs H Q
def xkQ (K : W.Frag) (a : Adr) : Sp := fun vs H Q _ => xgD K a vs H Q
def xoj (K : W.Frag) (a : Adr) : Sp := fun vs H Q _ => ∃ (l : Addr) (rs : List xm), vs = [.ref l] ∧ xiF K a H l rs ∧ xgC rs ∧ xkP H Q "late" (xdP rs)
def xm.to : xm → Int
 | .take t _ _ => t
 | .put t _ => t
def xm.cnt : xm → Nat
 | .take _ _ c => c.toNat
 | .put _ sg => sg.length
def xm.sg (es : List Int) : xm → List Int
 | .take _ st c => (es.drop st.toNat).take c.toNat
 | .put _ sg => sg
def xm.fits (es : List Int) : xm → Prop
 | .take _ st c => st + c ≤ es.length
 | .put _ _ => True
theorem xm.sg_len {es : List Int} {r : xm} (ok : r.ok) (f : r.fits es) : (r.sg es).length = r.cnt := by
 cases r with
 | take to st c =>
  obtain ⟨k1, k2, k3⟩ := ok
  have f' : st + c ≤ es.length := f
  simp only [xm.sg, xm.cnt, List.length_take, List.length_drop]
  omega
 | put to sg => rfl
theorem xm.ok.to {r : xm} (ok : r.ok) : 0 ≤ r.to := by
 cases r with
 | take to st c => exact ok.1
 | put to sg => exact ok.1
def Tells (es nw : List Int) (r : xm) : Prop := r.ok ∧ r.fits es ∧ r.to + r.cnt ≤ nw.length ∧ ∀ i : Nat, i < r.cnt → nw[(r.to + i).toNat]? = (r.sg es)[i]?
def jk (r : xm) (j : Nat) : Prop := r.to ≤ j ∧ (j : Int) < r.to + r.cnt
def xcQ (K : W.Frag) (H : Hp) (p : Addr) (o n : Int) (rs : List xm) : Prop := ∃ t ts, H p = some (.tup [.int o, .int n, .ref t]) ∧ H t = some (.tup (ts.map V.ref)) ∧ Paired (TupAt K H) ts rs
theorem xcQ.same {K : W.Frag} {H H' : Hp} {p : Addr} {o n : Int} {rs : List xm} (h : xcQ K H p o n rs) (s : xc H H') : xcQ K H' p o n rs := by
 obtain ⟨t, ts, h1, h2, h3⟩ := h
 exact ⟨t, ts, s.at h1, s.at h2, L2.Paired.imp' (fun _ _ z => z.same s) h3⟩
def Fit (old new : Int) : xm → Prop
 | .take to st c => st + c ≤ old ∧ to + c ≤ new
 | .put to sg => to + sg.length ≤ new
def xiK : Sp := fun vs H Q _ => ∃ i : Int, vs = [.int i] ∧ 0 ≤ i ∧ i ≤ 300 ∧ Q (.bl true) H
inductive xj3 (K : W.Frag) (vs : List V) (H : Hp) (Q : VK) : Prop
 | mk (p : Addr) (o n : Int) (rs : List xm) : (vs = [.ref p]) → (xcQ K H p o n rs) → (0 ≤ o) → (o ≤ 300) → (0 ≤ n) → (n ≤ 300) → (rs.length ≤ 300) → (Q (.bl true) H) → xj3 K vs H Q
def xok (K : W.Frag) : Sp := fun vs H Q _ => xj3 K vs H Q
def xkR (K : W.Frag) : Sp := fun vs H Q _ => ∃ (t : Addr) (r : xm) (old new : Int), vs = [.ref t, .int old, .int new] ∧ TupAt K H t r ∧ r.ok ∧ Fit old new r ∧ ∀ H', xc H H' → Q (.bl true) H'
def xmV (K : W.Frag) : Sp := fun vs H Q _ => ∃ (p : Addr) (o n : Int) (rs : List xm), vs = [.ref p] ∧ xcQ K H p o n rs ∧ (∀ r ∈ rs, r.ok ∧ Fit o n r) ∧ rs.length ≤ 300 ∧ ∀ H', xc H H' → Q .non H'
inductive xiL (K : W.Frag) (vs : List V) (H : Hp) (Q : VK) : Prop
 | mk (p : Addr) (o n : Int) (rs : List xm) : (vs = [.ref p]) → (xcQ K H p o n rs) → ((0 ≤ o ∧ o ≤ 300)) → ((0 ≤ n ∧ n ≤ 300)) → (rs.length ≤ 300) → ((∀ r ∈ rs, r.ok ∧ Fit o n r)) → (xcq rs = none) → (xaU rs n.toNat = none) → (xkP H Q "late" (xdP rs)) → xiL K vs H Q
def xmW (K : W.Frag) : Sp := fun vs H Q _ => xiL K vs H Q
def xm.neg : xm → Prop
 | .put _ sg => ∀ x ∈ sg, x < 0
 | .take .. => True
def xm.inO (old : Int) : xm → Prop
 | .take _ st c => st + c ≤ old
 | .put .. => True
def Good (old : Int) (r : xm) : Prop := r.ok ∧ r.neg ∧ r.inO old
inductive Tl (old : Int) : List xm → Int → Prop
 | nil : Tl old [] 0
 | snoc {rs : List xm} {at' n : Int} {r : xm} : Tl old rs at' → Good old r → r.to = at' → (r.cnt : Int) = n → Tl old (rs ++ [r]) (at' + n)
def pcs : xm → List (List Int)
 | .take to st c => yr to st c
 | .put to sg => [yy to sg.length]
def xkS (C : List Int) : xm → Int → Option Int
 | .take to st _, j => C[(st + j - to).toNat]?
 | .put to sg, j => sg[(j - to).toNat]?
def Part (C : List Int) (r : xm) (D cur : List Int) : Prop := cur.length = C.length ∧ ∀ j : Nat, j < C.length → cur[j]? = if (j : Int) ∈ D then xkS C r j else C[j]?
def xnA (rs : List xm) (C0 : List Int) (Cs : Nat → List Int) (k : Nat) : Prop := Cs 0 = C0 ∧ (∀ j, (Cs j).length = C0.length) ∧ ∀ j r, j < k → rs[j]? = some r → Part (Cs j) r (pcs r).flatten (Cs (j + 1))
local macro_rules | `(tactic| walk_at "w") => `(tactic| (conv => whnf))
local macro_rules | `(tactic| walk_at "few") => `(tactic| first | exact Nat.lt_of_lt_of_le (xnU (n := 998) (by simp)) (by decide) | (simp; done))
local macro_rules | `(tactic| walk_at "pos") => `(tactic| first | (show (0 : Int) < _; decide) | (show (0 : Int) < _; omega) | assumption)
local macro_rules | `(tactic| walk_at "same") => `(tactic| first | exact xc.refl _ | assumption | (refine' xc.trans ?sa ?sb; (case sb => assumption); (case sa => walk_at "same")))
local macro_rules | `(tactic| walk_at "get") => `(tactic| first | assumption | exact xo | (refine' xc.at ?ga ?gb; (case gb => assumption); (case ga => walk_at "same")))
local macro_rules | `(tactic| walk_at "sq") => `(tactic| first | assumption | (refine' SqL.of ?g; (case g => walk_at "get")) | (refine' SqT.of ?g; (case g => walk_at "get")) | (refine' xc.seq ?sa ?sb; (case sb => assumption); (case sa => walk_at "same")) | (refine' xc.seqT ?sa ?sb; (case sb => assumption); (case sa => walk_at "same")) | (refine' Or.inl ?g; (case g => walk_at "sq")) | (refine' Or.inr ?g; (case g => walk_at "sq")))
local macro_rules | `(tactic| walk_at "no") => `(tactic| (intro z; first | cases z | (simp at z; done)))
local macro_rules | `(tactic| walk_at "mul") => `(tactic| first | exact Or.inl ⟨by decide, by decide⟩ | exact Or.inr ⟨by decide, by decide⟩ | exact Or.inl ⟨by omega, by omega⟩ | exact Or.inr ⟨by omega, by omega⟩)
local macro_rules | `(tactic| walk_at "side") => `(tactic| first | exact ⟨by decide, by decide⟩ | exact ⟨by decide, by decide, by decide⟩ | walk_at "pos" | walk_at "mul" | (show (_ : Nat) ≤ sizeLine; first | decide | (simp only [List.length_cons, List.length_nil]; decide)))
local macro_rules | `(tactic| walk_at "s") => `(tactic| (refine And.intro (by walk_at "side") ?_; walk_at "w"))
local macro_rules | `(tactic| walk_at "ss") => `(tactic| (repeat (walk_at "s")))
section
variable {P : Program} {w : World} {K : W.Frag} {mg : Str → Option Value} {base : Heap} {a : Adr}
theorem xg7 (T : Txt K mg a) : xA P w K mg base CX0 1 a.q0A a.jR ["self", "count"] (xiu a.q0d "count") := by
 refine T.vj.ok xdf (fun vs H Q E h => ?_) (fun cdv A outer s H vs Q E hr h => ?_)
 ·obtain ⟨p, v, rfl, _⟩ := h; rfl
 ·obtain ⟨p, v, rfl, hp, k⟩ := h
  have nd := xdf.nd
  refine ⟨_, (xl (xn8 (cv 0) (cv 1) rfl)), ?_⟩
  walk_at "w"
  refine ⟨p, _, _, rfl, hp, T.xer, T.q1e, fun d h1 h2 => ?_⟩
  exact k d h1 h2
theorem xeA (T : Txt K mg a) : xbO P w K mg base CX0 1 "<lambda>" "Store.write.<locals>.<lambda>" (xai xco) (.expr (xaj xco)) (zA xco) ["other"] xog := by
 refine xdB xj1 (fun fv vs H Q E h => ?_) (fun _ _ _ _ _ us hl => match us, hl with | [_], _ => rfl) (fun A outer s H f clos cdv fv vs Q E hr h => ?_)
 ·obtain ⟨v, rfl, rfl, _⟩ := h; exact ⟨rfl, rfl⟩
 ·obtain ⟨v, rfl, rfl, k⟩ := h
  have nd := xj1.nd
  refine ⟨_, (cv 0), ?_⟩
  walk_at "w"
  exact k
theorem xc0 (T : Txt K mg a) : xbO P w K mg base CX0 1 "<lambda>" "Store.note_down.<locals>.<lambda>" (xai xcp) (.expr (xaj xcp)) (zA xcp) ["other"] xoh := by
 refine xdB xj2 (fun fv vs H Q E h => ?_) (fun _ _ _ _ _ us hl => match us, hl with | [_], _ => rfl) (fun A outer s H f clos cdv fv vs Q E hr h => ?_)
 ·obtain ⟨v, rfl, rfl, _⟩ := h; exact ⟨rfl, rfl⟩
 ·obtain ⟨v, rfl, rfl, k⟩ := h
  have nd := xj2.nd
  refine ⟨_, xbm, ?_⟩
  exact k
theorem xjm (T : Txt K mg a) : xA P w K mg base CX0 1 a.q01 a.xbS ["self", "fall"] (xjl a) := by
 refine T.xaQ.ok xfF (fun vs H Q E h => ?_) (fun cdv A outer s H vs Q E hr h => ?_)
 ·obtain ⟨p, dp, fl, rfl, _⟩ := h; rfl
 ·obtain ⟨p, dp, fl, rfl, hp, k⟩ := h
  have nd := xfF.nd
  refine ⟨_, (xk (vh (cv 0) xh rfl)
  (xl (vh (cv 0) (cv 1) rfl))), ?_⟩
  walk_at "w"
  refine ⟨p, _, dp, _, rfl, hp, T.xbk, T.q02, by walk_at "few", ?_⟩
  walk_at "w"
  refine ⟨p, _, dp, _, rfl, xo, T.xbk, T.q1u, by walk_at "few", ?_⟩
  walk_at "w"
  rw [jl]
  exact k
theorem xmX (T : Txt K mg a) {H : Hp} {g : Addr} {tf : Int → V} {s : Int} {Q : VK} (h : xdM H g tf) (q : Q (tf s) H) : FnV P w K mg base 1 H g [.int s] Q := by
 rcases h with ⟨h, rfl⟩ | ⟨h, rfl⟩
 ·exact ⟨_, _, _, _, _, _, _, _, xeA T, h, _, rfl, rfl, q⟩
 ·exact ⟨_, _, _, _, _, _, _, _, xc0 T, h, _, rfl, rfl, q⟩
theorem xdM.clo {H : Hp} {g : Addr} {tf : Int → V} (h : xdM H g tf) : ∃ nm qual params body scope fv, yJ H g nm qual params body scope fv := by
 rcases h with ⟨h, _⟩ | ⟨h, _⟩
 ·exact ⟨_, _, _, _, _, _, h⟩
 ·exact ⟨_, _, _, _, _, _, h⟩
theorem xdM.kp {H H' : Hp} {S : List Addr} {g : Addr} {tf : Int → V} (h : xdM H g tf) (mu : ∀ x ∈ S, ∃ u, H x = some u ∧ xbF u) (k : Kp S H H') : xdM H' g tf := by
 rcases h with ⟨h, e⟩ | ⟨h, e⟩
 ·exact .inl ⟨yJ.kp h mu k, e⟩
 ·exact .inr ⟨yJ.kp h mu k, e⟩
theorem xhS (T : Txt K mg a) : xA P w K mg base CX0 3 a.q0P a.vY ["self", "cells", "fall"] (xhP K a) := by
 refine T.uR.ok xd4 (fun vs H Q E h => ?_) (fun cdv A outer s H vs Q E hr h => ?_)
 ·obtain ⟨st, dx, l, cells, fl, rfl, _⟩ := h; rfl
 ·obtain ⟨st, dx, l, cells, fl, rfl, hst, hl, k⟩ := h
  have nd := xd4.nd
  refine ⟨_, (xk (vh (cv 0) (zl xb7 (by rfl) T.q1I xa1 (xa (cv 1) xf)) rfl)
  (xk (vh (cv 0) (zk (xa xh (xa xh xf))) rfl)
  (xl (vh (cv 0) (xeT T.q5h (xjm T) (hr.mono (by decide)) (by rfl) T.xny T.xbW .nil xr (xa (cv 2) xf)) rfl)))), ?_⟩
  walk_at "w"
  refine ⟨l, _, rfl, .inl (SqL.of hl), ?_⟩
  intro ca hca
  walk_at "w"
  refine ⟨st, _, dx, _, rfl, by rw [xn (xB hst hca)]; exact hst, T.xU, T.q0J, by walk_at "few", ?_⟩
  generalize hU1 : upd (upd H ca _) st _ = H1
  have k1 : Kp [st] H H1 := by rw [← hU1]; exact ((Kp.of (xc.refl _)).mk hca).wr (by simp)
  have f1 : H1 st = some (.ins a.q0b dx [("cells", .ref ca)]) := by rw [← hU1, xo]; rfl
  have g1 : H1 ca = some (.lst (cells.map V.int)) := by rw [← hU1, xn (Ne.symm (xB hst hca)), xo]
  have b1 : ∀ b, H1 b = none → H b = none ∧ b ≠ st ∧ b ≠ ca := fun b hb => by
   have n1 : b ≠ st := fun z => by rw [z, f1] at hb; cases hb
   have n2 : b ≠ ca := fun z => by rw [z, g1] at hb; cases hb
   rw [← hU1, xn n1, xn n2] at hb
   exact ⟨hb, n1, n2⟩
  clear hU1
  walk_at "w"
  walk_at "ss"
  intro na hna
  obtain ⟨na0, na1, na2⟩ := b1 na hna
  walk_at "w"
  refine ⟨st, _, dx, _, rfl, by rw [xn (xB f1 hna)]; exact f1, T.xU, T.q0U, by walk_at "few", ?_⟩
  generalize hU2 : upd (upd H1 na _) st _ = H2
  have k2 : Kp [st] H H2 := by rw [← hU2]; exact (k1.mk na0).wr (by simp)
  have f2 : H2 st = some (.ins a.q0b dx [("cells", .ref ca), ("notes", .ref na)]) := by rw [← hU2, xo]; rfl
  have g2 : H2 ca = some (.lst (cells.map V.int)) := by rw [← hU2, xn (xar g1 f1 (by intro z; cases z)), xn (Ne.symm na2)]; exact g1
  have m2 : H2 na = some (.lst ([some 0, some 0].map nV)) := by rw [← hU2, xn na1, xo]; rfl
  have b2 : ∀ b, H2 b = none → H b = none ∧ b ≠ st ∧ b ≠ ca ∧ b ≠ na := fun b hb => by
   have n1 : b ≠ st := fun z => by rw [z, f2] at hb; cases hb
   have n3 : b ≠ na := fun z => by rw [z, m2] at hb; cases hb
   rw [← hU2, xn n1, xn n3] at hb
   exact ⟨(b1 b hb).1, n1, (b1 b hb).2.2, n3⟩
  clear hU2 b1
  walk_at "w"
  intro p dp hp hdp nep
  obtain ⟨p0, p1, p2, p3⟩ := b2 p hp
  obtain ⟨q0, q1, q2, q3⟩ := b2 dp hdp
  refine ⟨p, dp, fl, rfl, xo, ?_⟩
  refine ⟨rfl, ?_⟩
  walk_at "w"
  rw [jl]
  have e3 : ∀ b, b ≠ p → b ≠ dp → ∀ o o', upd (upd H2 dp o) p o' b = H2 b := fun b n1 n2 o o' => by rw [xn n1, xn n2]
  refine ⟨st, _, dx, _, rfl, by rw [e3 _ (Ne.symm p1) (Ne.symm q1)]; exact f2, T.xU, T.q03, by walk_at "few", ?_⟩
  refine k ⟨st, dx, ca, na, p, dp⟩ _ rfl (((k2.mk q0).mk p0).wr (by simp)) ⟨?_, ?_, ?_, ?_, Ne.symm na2, p1⟩ hca na0 p0
  ·rw [xo]; rfl
  ·rw [xn (xar g2 f2 (by intro z; cases z)), e3 _ (Ne.symm p2) (Ne.symm q2)]; exact g2
  ·rw [xn na1, e3 _ (Ne.symm p3) (Ne.symm q3)]; exact m2
  ·rw [xn p1, xo]
theorem jG (T : Txt K mg a) : xA P w K mg base CX0 1 a.q0e a.zi ["self", "at"] (xgB a) := by
 refine T.yw.ok jF (fun vs H Q E h => ?_) (fun cdv A outer s H vs Q E hr h => ?_)
 ·obtain ⟨S, cells, notes, n, i, fl, rfl, _⟩ := h; rfl
 ·obtain ⟨S, cells, notes, n, i, fl, rfl, hS, hi, k⟩ := h
  have nd := jF.nd
  refine ⟨_, (xl (xN (PW.pt (xdx (xJ xgS (cv 1) xh) (xeb (xJ xmu (cv 1) (xE xG (by rfl) T.q0V yv (xa (xH (cv 0) rfl) xf)))))) (xl xe3) xF)), ?_⟩
  walk_at "w"
  refine ⟨fun e => absurd (of_decide_eq_true e) (by have := hi.1; omega), fun e => ?_⟩
  walk_at "w"
  refine ⟨S.st, _, S.dx, _, .ref S.ca, rfl, hS.st, T.xU, T.q0J, rfl, ?_⟩
  walk_at "w"
  refine ⟨S.ca, _, rfl, .inl (SqL.of hS.ca), ?_⟩
  walk_at "w"
  rw [List.length_map]
  refine ⟨fun e1 => absurd (of_decide_eq_true e1) (by have := hi.2; omega), fun e1 => ?_⟩
  exact k
theorem xhT (T : Txt K mg a) : xA P w K mg base CX0 2 a.q0F a.xaF ["self", "at"] (xhQ a) := by
 refine T.jf.ok xd5 (fun vs H Q E h => ?_) (fun cdv A outer s H vs Q E hr h => ?_)
 ·obtain ⟨S, cells, notes, n, i, v, fl, rfl, _⟩ := h; rfl
 ·obtain ⟨S, cells, notes, n, i, v, fl, rfl, hS, hi, hv, k⟩ := h
  have nd := xd5.nd
  refine ⟨_, (xk (yk (xaf (cv 0) T.xU T.ub (jG T) (hr.mono (by decide)) T.yx .nil xr (xa (cv 1) xf)))
  (xl (xu (xy zq (xH (cv 0) rfl) (cv 1) (fun _ _ => rfl))))), ?_⟩
  walk_at "w"
  refine ⟨S.st, S.dx, _, rfl, hS.st, rfl, ?_⟩
  walk_at "w"
  refine ⟨S, cells, notes, n, i, fl, rfl, hS, hi, ?_⟩
  walk_at "w"
  refine ⟨S.st, _, S.dx, _, .ref S.ca, rfl, hS.st, T.xU, T.q0J, rfl, ?_⟩
  walk_at "w"
  refine ⟨S.ca, _, i, .int v, rfl, rfl, SqL.of hS.ca, xem hi.1 hv, ?_⟩
  exact k
theorem xd8 (T : Txt K mg a) : xA P w K mg base CX0 1 a.q0H a.xaH ["self"] (xof a) := by
 refine T.jh.ok xd7 (fun vs H Q E h => ?_) (fun cdv A outer s H vs Q E hr h => ?_)
 ·obtain ⟨S, cells, notes, n, fl, rfl, _⟩ := h; rfl
 ·obtain ⟨S, cells, notes, n, fl, rfl, hS, k⟩ := h
  have nd := xd7.nd
  refine ⟨_, (xl (xu (uG (xa (zl xb7 (by rfl) T.q1I xa1 (xa (xH (cv 0) rfl) xf)) (xa (zl xb7 (by rfl) T.q1I xa1 (xa (xH (cv 0) rfl) xf)) (xa (xH (xH (cv 0) rfl) rfl) xf)))))), ?_⟩
  walk_at "w"
  refine ⟨S.st, _, S.dx, _, .ref S.ca, rfl, hS.st, T.xU, T.q0J, rfl, ?_⟩
  walk_at "w"
  refine ⟨S.ca, _, rfl, .inl (SqL.of hS.ca), ?_⟩
  intro c hc
  generalize hUc : upd H c _ = H1
  have sH1 := xc.of_eq hc hUc
  have ec := xq hUc
  clear hUc
  walk_at "w"
  have hS1 := hS.same sH1
  refine ⟨S.st, _, S.dx, _, .ref S.na, rfl, hS1.st, T.xU, T.q0U, rfl, ?_⟩
  walk_at "w"
  refine ⟨S.na, _, rfl, .inl (SqL.of hS1.na), ?_⟩
  intro m hm
  generalize hUm : upd H1 m _ = H2
  have sH2 := xc.of_eq hm hUm
  have em := xq hUm
  clear hUm
  walk_at "w"
  have hS2 := hS1.same sH2
  refine ⟨S.st, _, S.dx, _, .ref S.p, rfl, hS2.st, T.xU, T.q03, rfl, ?_⟩
  walk_at "w"
  refine ⟨S.p, _, S.dp, _, .int n, rfl, hS2.p, T.xbk, T.q02, rfl, ?_⟩
  walk_at "w"
  walk_at "ss"
  intro t ht
  generalize hUt : upd H2 t _ = H3
  have sH3 := xc.of_eq ht hUt
  have et := xq hUt
  clear hUt
  walk_at "w"
  exact k t c m H3 (sH1.trans (sH2.trans sH3)) hc (sH1.back hm) (xB ec hm) et (sH3.at (sH2.at ec)) (sH3.at em)
theorem xdQ : ∀ notes : List (Option Int), ((notes.map nV).filter fun v => !(isN v)).map (fun v => v) = (notes.filterMap id).map V.int
 | [] => rfl
 | none :: r => by
  have := xdQ r
  simpa [nV, isN] using this
 | some i :: r => by
  have := xdQ r
  simpa [nV, isN] using this
theorem xdl (T : Txt K mg a) : xA P w K mg base CX0 1 a.q0x a.jV ["self"] (xlZ a) := by
 refine T.vq.ok xdk (fun vs H Q E h => ?_) (fun cdv A outer s H vs Q E hr h => ?_)
 ·obtain ⟨S, cells, notes, n, fl, rfl, _⟩ := h; rfl
 ·obtain ⟨S, cells, notes, n, fl, rfl, hS, h2, k⟩ := h
  have nd := xdk.nd
  refine ⟨_, (xl (xu (xn1 rfl (by rfl) T.q3k (xa (jo (uJ (cap := []) (ys := []) rfl rfl rfl rfl rfl trivial (by decide +kernel)) rfl (zo (xH (cv 0) rfl)) (fun _ _ _ _ => (cv 0)) (fun _ _ _ _ => (xgU (xgX (cv 0))))) xf) xh))), ?_⟩
  walk_at "w"
  refine ⟨S.st, _, S.dx, _, .ref S.na, rfl, hS.st, T.xU, T.q0U, rfl, ?_⟩
  walk_at "w"
  refine ⟨S.na, rfl, ⟨_, SqL.of hS.na⟩, ?_⟩
  refine xdC (fun v => !(isN v)) (fun v => v) (SqL.of hS.na) (by rw [List.length_map, h2]; decide) (fun x H3 hx s3 R hR => ?_) (fun x H3 hx hp s3 R hR => ?_) (fun D H' hD s' e' => ?_)
  ·exact hR H3 (xc.refl _)
  ·exact hR H3 (xc.refl _)
  ·rw [xdQ] at e'
   exact ⟨D, _, 0, rfl, rfl, SqL.of e', fun m h1 h2 => k m H' s' ⟨h1, h2⟩⟩
theorem xfG (T : Txt K mg a) : xA P w K mg base CX0 1 a.q0Y a.xbP ["self", "to"] (xji K) := by
 refine T.xaI.ok xfB (fun vs H Q E h => ?_) (fun cdv A outer s H vs Q E hr h => ?_)
 ·obtain ⟨p, C, dx, to, rfl, _⟩ := h; rfl
 ·obtain ⟨p, C, dx, to, rfl, hp, c, n1, n2, k⟩ := h
  have nd := xfB.nd
  refine ⟨_, (xk (vh (cv 0) (cv 1) rfl)
  (xl (vh (cv 0) xh rfl))), ?_⟩
  walk_at "w"
  refine ⟨p, C, dx, _, rfl, hp, c, n1, by walk_at "few", ?_⟩
  walk_at "w"
  refine ⟨p, C, dx, _, rfl, xo, c, n2, by walk_at "few", ?_⟩
  walk_at "w"
  rw [jl]
  exact k
theorem xiM (T : Txt K mg a) : xA P w K mg base CX0 2 a.q0W a.xa7 ["self", "to", "start", "count"] (xiG a) := by
 refine T.jL.ok xet (fun vs H Q E h => ?_) (fun cdv A outer s H vs Q E hr h => ?_)
 ·obtain ⟨p, dx, to, st, c, rfl, _⟩ := h; rfl
 ·obtain ⟨p, dx, to, st, c, rfl, hp, k⟩ := h
  have nd := xet.nd
  refine ⟨_, (xk (yk (xjH (by rfl) T.xkJ T.xcZ (xfG T) (hr.mono (by decide)) T.xaJ .nil xr (xa (cv 0) (xa (cv 1) xf))))
  (xk (vh (cv 0) (cv 2) rfl)
  (xl (vh (cv 0) (cv 3) rfl)))), ?_⟩
  walk_at "w"
  refine ⟨p, _, dx, to, rfl, hp, T.xI, T.q0s, T.q0p, ?_⟩
  walk_at "w"
  refine ⟨p, _, dx, _, rfl, xo, T.xI, T.q0k, by walk_at "few", ?_⟩
  walk_at "w"
  refine ⟨p, _, dx, _, rfl, xo, T.xI, T.q0p, by walk_at "few", ?_⟩
  walk_at "w"
  rw [jl, jl]
  exact k
theorem xjn (T : Txt K mg a) : xA P w K mg base CX0 2 a.q0Z a.xbQ ["self", "to", "signs"] (xjj K a) := by
 refine T.xaL.ok xfC (fun vs H Q E h => ?_) (fun cdv A outer s H vs Q E hr h => ?_)
 ·obtain ⟨p, dx, t, to, xs, rfl, _⟩ := h; rfl
 ·obtain ⟨p, dx, t, to, xs, rfl, hp, ht, k⟩ := h
  have nd := xfC.nd
  have ht1 : ∀ o, SqT K (upd H p o) t xs := fun o => xlW ht hp
  refine ⟨_, (xk (yk (xjH (by rfl) T.xkJ T.xcZ (xfG T) (hr.mono (by decide)) T.xaJ .nil xr (xa (cv 0) (xa (cv 1) xf))))
  (xk (vh (cv 0) (zl xbB (by rfl) T.q1z xa2 (xa (cv 2) xf)) rfl)
  (xl (vh (cv 0) (xE xG (by rfl) T.q0V yv (xa (xH (cv 0) rfl) xf)) rfl)))), ?_⟩
  walk_at "w"
  refine ⟨p, _, dx, to, rfl, hp, T.zx, T.q1d, T.q0Q, ?_⟩
  walk_at "w"
  refine ⟨t, xs, rfl, .inr ⟨ht1 _, ?_⟩⟩
  walk_at "w"
  refine ⟨p, _, dx, _, rfl, xo, T.zx, T.q1c, by walk_at "few", ?_⟩
  walk_at "w"
  refine ⟨p, _, dx, _, .ref t, rfl, xo, T.zx, T.q1c, rfl, ?_⟩
  walk_at "w"
  refine ⟨t, xs, rfl, .inr (xlW (ht1 _) xo), ?_⟩
  walk_at "w"
  refine ⟨p, _, dx, _, rfl, xo, T.zx, T.q0Q, by walk_at "few", ?_⟩
  walk_at "w"
  rw [jl, jl]
  exact k
theorem yY (T : Txt K mg a) : xA P w K mg base CX0 1 a.q0h a.jS ["self"] (xdK K) := by
 refine T.vm.ok xdg (fun vs H Q E h => ?_) (fun cdv A outer s H vs Q E hr h => ?_)
 ·obtain ⟨p, C, dx, fs, to, c, rfl, _⟩ := h; rfl
 ·obtain ⟨p, C, dx, fs, to, c, rfl, hp, cl, n1, n2, l1, l2, hc, k⟩ := h
  have nd := xdg.nd
  refine ⟨_, (xl (xu (zl (jQ rfl) (by rfl) T.q1I xa1 (xa (xcu (by rfl) T.q0K (xa (xH (cv 0) rfl) (xa (xp yc (xH (cv 0) rfl) (xH (cv 0) rfl)) xf))) xf)))), ?_⟩
  walk_at "w"
  refine ⟨p, C, dx, fs, _, rfl, hp, cl, n1, l1, ?_⟩
  walk_at "w"
  refine ⟨p, C, dx, fs, _, rfl, hp, cl, n1, l1, ?_⟩
  walk_at "w"
  refine ⟨p, C, dx, fs, _, rfl, hp, cl, n2, l2, ?_⟩
  walk_at "w"
  intro r hr1
  walk_at "w"
  have e : yo to (to + c) 1 = c.toNat := by rw [yI]; congr 1; omega
  refine ⟨r, to, to + c, rfl, xo, by rw [e]; exact hc, fun l hl => ?_⟩
  rw [e, xfj]
  have hl0 : H l = none := xc.free (xc.new hr1) hl
  exact k l _ ((xc.new hr1).put hl0) hl0 xo
theorem xbG (T : Txt K mg a) : xA P w K mg base CX0 1 a.q0B a.xaz ["self"] (xmP a) := by
 refine T.jb.ok xdZ (fun vs H Q E h => ?_) (fun cdv A outer s H vs Q E hr h => ?_)
 ·obtain ⟨p, dx, to, st, c, rfl, _⟩ := h; rfl
 ·obtain ⟨p, dx, to, st, c, rfl, hp, k⟩ := h
  have nd := xdZ.nd
  refine ⟨_, (xl (xu (jJ xau (xH (cv 0) rfl) (xH (cv 0) rfl)))), ?_⟩
  walk_at "w"
  refine ⟨p, _, dx, _, .int st, rfl, hp, T.xI, T.q0k, rfl, ?_⟩
  walk_at "w"
  refine ⟨p, _, dx, _, .int to, rfl, hp, T.xI, T.q0s, rfl, ?_⟩
  exact k
theorem uw (T : Txt K mg a) : xA P w K mg base CX0 1 a.q1o a.xcB ["_law_script", "_law_k"] (xkL K) := by
 refine T.yG.ok xgy (fun vs H Q E h => ?_) (fun cdv A outer s H vs Q E hr h => ?_)
 ·obtain ⟨l, ns, k, rfl, _⟩ := h; rfl
 ·obtain ⟨l, ns, k, rfl, hl, hk, q⟩ := h
  have nd := xgy.nd
  refine ⟨_, (xk (xN (xJ xgS (cv 1) (xE xG (by rfl) T.q0V yv (xa (cv 0) xf))) (xl (xu (xy zq (cv 0) (cv 1) (fun _ _ => rfl)))) xF)
  (xl (xu xh))), ?_⟩
  walk_at "w"
  refine ⟨l, _, rfl, .inl hl, ?_⟩
  walk_at "w"
  refine ⟨fun e => ?_, fun e => ?_⟩
  ·have e' := of_decide_eq_true e
   rw [List.length_map] at e'
   walk_at "w"
   refine ⟨l, _, k, .int (ns.getD k.toNat 0), rfl, rfl, hl, ?_, ?_⟩
   ·have hk' : k.toNat < ns.length := by omega
    have := xag (xs := ns.map V.int) (j := k.toNat) (v := .int (ns.getD k.toNat 0)) (by simp [hk'])
    rwa [Int.toNat_of_nonneg hk] at this
   ·walk_at "w"
    rw [cellAt, if_pos e'] at q
    exact q
  ·have e' := of_decide_eq_false e
   rw [List.length_map] at e'
   rw [cellAt, if_neg e'] at q
   exact q
theorem xkT (x : Int) : 0 ≤ x % 2147483647 ∧ x % 2147483647 < 2147483647 := ⟨Int.emod_nonneg _ (by decide), Int.emod_lt_of_pos _ (by decide)⟩
theorem vg (T : Txt K mg a) : xA P w K mg base CX0 1 a.q1S a.xe7 ["_law_cell", "_law_k"] xmQ := by
 refine T.zw.ok xiA (fun vs H Q E h => ?_) (fun cdv A outer s H vs Q E hr h => ?_)
 ·obtain ⟨c, k, rfl, _⟩ := h; rfl
 ·obtain ⟨c, k, rfl, q⟩ := h
  have nd := xiA.nd
  refine ⟨_, (xk (xN (xJ xau (xp ye (cv 0) xh) xh) (xl (xu (xp ye (xp xpS (cv 0) (xp yc xh (xp xeW xh (xp ye (cv 1) xh)))) (xp xeX xh xh)))) xF)
  (xk (xC (i := 2) nd rfl (Or.inl rfl) (xp ye (xp xeW (xp yc (xp yc (xp ye (xp xbo (cv 0) xh) xh) (xp xeW xh (cv 1))) xh) xh) xh))
  (xl (xu (xp ye (xp xeW (cv 2) (xp yc (xp xbo (cv 2) xh) xh)) xh))))), ?_⟩
  walk_at "w"
  walk_at "ss"
  refine ⟨fun e => ?_, fun e => ?_⟩
  ·have e : c % 2 = 1 := of_decide_eq_true e
   rw [mixed, if_pos e] at q
   have := Int.emod_nonneg k (show (120 : Int) ≠ 0 by decide)
   walk_at "w"
   walk_at "ss"
   refine And.intro (show (0 : Int) ≤ _ by omega) ?_
   walk_at "w"
   walk_at "ss"
   exact q
  ·have e : ¬ c % 2 = 1 := of_decide_eq_false e
   rw [mixed, if_neg e] at q
   have b := xkT ((c / 2 % 2147483647 + 7919 * k + 1) * 48271)
   walk_at "w"
   walk_at "ss"
   exact q
theorem xfH (T : Txt K mg a) : xA P w K mg base CX0 1 a.q1f a.xbR ["value"] xjk := by
 refine T.vd.ok xfD (fun vs H Q E h => ?_) (fun cdv A outer s H vs Q E hr h => ?_)
 ·obtain ⟨i, rfl, _⟩ := h; rfl
 ·obtain ⟨i, rfl, q⟩ := h
  have nd := xfD.nd
  refine ⟨_, (xl (xu (vT (xE vU (by rfl) T.q0I zz (xa (cv 0) (xa (xc2 (v := .ty "int") (by rfl) T.q5k xlB rfl) xf))) (xbn (xoY (xE vU (by rfl) T.q0I zz (xa (cv 0) (xa (xc2 (v := .ty "bool") (by rfl) T.q5i xnT rfl) xf)))))))), ?_⟩
  walk_at "w"
  refine ⟨_, _, _, _, true, rfl, rfl, uy.int _, rfl, ?_⟩
  walk_at "w"
  refine ⟨fun _ => ?_, by walk_at "no"⟩
  walk_at "w"
  refine ⟨_, _, _, _, false, rfl, rfl, uy.int _, rfl, ?_⟩
  exact q
theorem zY (T : Txt K mg a) : xA P w K mg base CX0 2 a.q0L a.vH ["least", "value"] xfV := by
 refine T.xY.ok xcj (fun vs H Q E h => ?_) (fun cdv A outer s H vs Q E hr h => ?_)
 ·obtain ⟨l, i, rfl, _⟩ := h; rfl
 ·obtain ⟨l, i, rfl, q⟩ := h
  have nd := xcj.nd
  refine ⟨_, (xl (xu (vT (xv (xfH T) (hr.mono (by decide)) (by rfl) T.xdJ T.vd.kp T.xaP .nil xr (xa (cv 1) xf)) (xbn (jJ xmu (cv 1) (cv 0)))))), ?_⟩
  walk_at "w"
  refine ⟨i, rfl, ?_⟩
  walk_at "w"
  exact ⟨fun _ => q, by walk_at "no"⟩
theorem xkU (T : Txt K mg a) : xA P w K mg base CX0 2 a.q1m a.xcz ["value"] xkK := by
 refine T.xak.ok xgw (fun vs H Q E h => ?_) (fun cdv A outer s H vs Q E hr h => ?_)
 ·obtain ⟨i, rfl, _⟩ := h; rfl
 ·obtain ⟨i, rfl, hi, q⟩ := h
  have nd := xgw.nd
  refine ⟨_, (xl (xu (vT (xv (xfH T) (hr.mono (by decide)) (by rfl) T.xdJ T.vd.kp T.xaP .nil xr (xa (cv 0) xf)) (xbn (jJ xgS (xE xpN (by rfl) T.q6u xo2 (xa (cv 0) xf)) (xp xeX xh xh)))))), ?_⟩
  walk_at "w"
  refine ⟨i, rfl, ?_⟩
  walk_at "w"
  refine ⟨fun _ => ?_, by walk_at "no"⟩
  walk_at "w"
  refine ⟨⟨by decide, by decide, by decide⟩, ?_⟩
  walk_at "w"
  show Q (.bl (decide ((i.natAbs : Int) < 10 ^ (60 : Int).toNat))) H
  have e : decide ((i.natAbs : Int) < 10 ^ (60 : Int).toNat) = true := decide_eq_true hi
  rw [e]
  exact q
theorem xiN (T : Txt K mg a) : xA P w K mg base CX0 3 a.q06 a.xba ["signs"] (xiH K) := by
 refine T.vx.ok xew (fun vs H Q E h => ?_) (fun cdv A outer s H vs Q E hr h => ?_)
 ·obtain ⟨u, sg, rfl, _⟩ := h; rfl
 ·obtain ⟨u, sg, rfl, hu, hne, hlen, hs, q⟩ := h
  have nd := xew.nd
  refine ⟨_, (xl (xu (vT (xE vU (by rfl) T.q0I zz (xa (cv 0) (xa (xc2 (v := .ty "tuple") (by rfl) T.q1z xa2 rfl) xf))) (vT (jJ xfQ (xE xG (by rfl) T.q0V yv (xa (cv 0) xf)) xh) (xbn (xE (xlH rfl) (by rfl) T.q6v xo3 (xa (jo (uJ (cap := []) (ys := []) rfl rfl rfl rfl rfl trivial (by decide +kernel)) rfl (xf7 (cv 0)) (fun _ _ _ _ => (xv (xkU T) (hr.mono (by decide)) (by rfl) T.xhB T.xak.kp T.xcE .nil xr (xa (cv 0) xf))) (fun _ _ _ _ => uK)) xf))))))), ?_⟩
  walk_at "w"
  refine ⟨_, _, _, _, true, rfl, rfl, uy.tup hu, rfl, ?_⟩
  walk_at "w"
  refine ⟨fun _ => ?_, by walk_at "no"⟩
  walk_at "w"
  refine ⟨u, _, rfl, .inr (SqT.of hu), ?_⟩
  walk_at "w"
  have hpos : 0 < sg.length := List.length_pos_iff.mpr hne
  refine ⟨fun _ => ?_, fun z => by have := of_decide_eq_false z; rw [List.length_map] at this; omega⟩
  walk_at "w"
  refine ⟨u, rfl, ⟨_, SqT.of hu⟩, ?_⟩
  refine xhx (fun i acc _ => acc = List.replicate i (V.bl true)) (SqT.of hu) (by rw [List.length_map, sizeLine_eq]; omega) rfl (fun i x acc H3 H3' hx s3 s3' hp R hR => ?_) (fun D acc H3 H3' hD hD3 s3 s3' hp hl hv => ?_)
  ·rw [List.getElem?_map] at hx
   cases hy : sg[i]? with
   | none => rw [hy] at hx; cases hx
   | some y =>
    rw [hy] at hx
    cases hx
    walk_at "w"
    refine ⟨y, rfl, hs y (List.mem_of_getElem? hy), hR _ _ (xc.refl _) fun H6 _ _ => ?_⟩
    rw [hp, List.replicate_succ']
  ·walk_at "w"
   refine ⟨D, List.replicate sg.length true, rfl, SqL.of ?_, ?_⟩
   ·rw [hv, hp, List.length_map, List.map_replicate]
   ·walk_at "w"
    show Q (.bl ((List.replicate sg.length true).all id)) H3'
    have e : (List.replicate sg.length true).all id = true := by simp
    rw [e]
    exact q _ (s3.trans s3')
theorem xhU (T : Txt K mg a) : xA P w K mg base CX0 3 a.q00 a.xaD ["told"] (xhO K) := by
 refine T.uQ.ok xd3 (fun vs H Q E h => ?_) (fun cdv A outer s H vs Q E hr h => ?_)
 ·obtain ⟨t, r, rfl, _⟩ := h; rfl
 ·obtain ⟨t, r, rfl, ht, hk, q⟩ := h
  have nd := xd3.nd
  refine ⟨_, (xk (xN (PW.pt (xdx (xec (uH (xE vU (by rfl) T.q0I zz (xa (cv 0) (xa (xc2 (v := .ty "tuple") (by rfl) T.q1z xa2 rfl) xf))))) (xdx (xJ xnt (xE xG (by rfl) T.q0V yv (xa (cv 0) xf)) xh) (xeb (xJ xnu (xy xD (cv 0) xh (fun _ _ => rfl)) xas))))) (xl (xu jP)) xF)
  (xl (xu (vT (xv (zY T) (hr.mono (by decide)) (by rfl) T.zr T.xY.kp T.yu .nil xr (xa xh (xa (xy xD (cv 0) xh (fun _ _ => rfl)) xf))) (vT (xv (zY T) (hr.mono (by decide)) (by rfl) T.zr T.xY.kp T.yu .nil xr (xa xh (xa (xy xD (cv 0) xh (fun _ _ => rfl)) xf))) (xbn (xv (zY T) (hr.mono (by decide)) (by rfl) T.zr T.xY.kp T.yu .nil xr (xa xh (xa (xy xD (cv 0) xh (fun _ _ => rfl)) xf))))))))), ?_⟩
  cases r with
  | put to sg =>
   obtain ⟨u, h1, h2⟩ := ht
   walk_at "w"
   refine ⟨_, _, _, _, true, rfl, rfl, uy.tup h1, rfl, ?_⟩
   walk_at "w"
   refine ⟨by walk_at "no", fun _ => ?_⟩
   walk_at "w"
   refine ⟨t, _, rfl, .inr (SqT.of h1), ?_⟩
   walk_at "w"
   refine ⟨fun _ => ?_, by walk_at "no"⟩
   walk_at "w"
   exact ⟨fun _ => q, by walk_at "no"⟩
  | take to st c =>
   walk_at "w"
   refine ⟨_, _, _, _, true, rfl, rfl, uy.tup ht, rfl, ?_⟩
   walk_at "w"
   refine ⟨by walk_at "no", fun _ => ?_⟩
   walk_at "w"
   refine ⟨t, _, rfl, .inr (SqT.of ht), ?_⟩
   walk_at "w"
   refine ⟨by walk_at "no", fun _ => ?_⟩
   walk_at "w"
   refine ⟨t, _, _, .str "take", rfl, rfl, SqT.of ht, rfl, ?_⟩
   walk_at "w"
   refine ⟨by walk_at "no", fun _ => ?_⟩
   walk_at "w"
   obtain ⟨k1, k2, k3⟩ := hk
   refine ⟨t, _, _, .int to, rfl, rfl, SqT.of ht, rfl, ?_⟩
   walk_at "w"
   refine ⟨_, _, rfl, ?_⟩
   walk_at "w"
   refine ⟨fun _ => ?_, fun z => absurd k1 (of_decide_eq_false z)⟩
   walk_at "w"
   refine ⟨t, _, _, .int st, rfl, rfl, SqT.of ht, rfl, ?_⟩
   walk_at "w"
   refine ⟨_, _, rfl, ?_⟩
   walk_at "w"
   refine ⟨fun _ => ?_, fun z => absurd k2 (of_decide_eq_false z)⟩
   walk_at "w"
   refine ⟨t, _, _, .int c, rfl, rfl, SqT.of ht, rfl, ?_⟩
   walk_at "w"
   refine ⟨_, _, rfl, ?_⟩
   walk_at "w"
   rw [decide_eq_true k3]
   exact q
theorem xiO (T : Txt K mg a) : xA P w K mg base CX0 4 a.q05 a.xa9 ["told"] (xiI K) := by
 refine T.vw.ok xev (fun vs H Q E h => ?_) (fun cdv A outer s H vs Q E hr h => ?_)
 ·obtain ⟨t, to, sg, rfl, _⟩ := h; rfl
 ·obtain ⟨t, to, sg, rfl, ⟨u, h1, h2⟩, ⟨k1, k2, k3, k4⟩, q⟩ := h
  have nd := xev.nd
  refine ⟨_, (xk (xN (PW.pt (xdx (xec (uH (xE vU (by rfl) T.q0I zz (xa (cv 0) (xa (xc2 (v := .ty "tuple") (by rfl) T.q1z xa2 rfl) xf))))) (xdx (xJ xnt (xE xG (by rfl) T.q0V yv (xa (cv 0) xf)) xh) (xeb (xJ xnu (xy xD (cv 0) xh (fun _ _ => rfl)) xas))))) (xl (xu jP)) xF)
  (xl (xu (vT (xv (zY T) (hr.mono (by decide)) (by rfl) T.zr T.xY.kp T.yu .nil xr (xa xh (xa (xy xD (cv 0) xh (fun _ _ => rfl)) xf))) (xbn (xv (xiN T) (hr.mono (by decide)) (by rfl) T.xfy T.vx.kp T.xbi .nil xr (xa (xy xD (cv 0) xh (fun _ _ => rfl)) xf))))))), ?_⟩
  walk_at "w"
  refine ⟨_, _, _, _, true, rfl, rfl, uy.tup h1, rfl, ?_⟩
  walk_at "w"
  refine ⟨by walk_at "no", fun _ => ?_⟩
  walk_at "w"
  refine ⟨t, _, rfl, .inr (SqT.of h1), ?_⟩
  walk_at "w"
  refine ⟨by walk_at "no", fun _ => ?_⟩
  walk_at "w"
  refine ⟨t, _, _, .str "put", rfl, rfl, SqT.of h1, rfl, ?_⟩
  walk_at "w"
  refine ⟨by walk_at "no", fun _ => ?_⟩
  walk_at "w"
  refine ⟨t, _, _, .int to, rfl, rfl, SqT.of h1, rfl, ?_⟩
  walk_at "w"
  refine ⟨_, _, rfl, ?_⟩
  walk_at "w"
  refine ⟨fun _ => ?_, fun z => absurd k1 (of_decide_eq_false z)⟩
  walk_at "w"
  refine ⟨t, _, _, .ref u, rfl, rfl, SqT.of h1, rfl, ?_⟩
  walk_at "w"
  exact ⟨u, sg, rfl, h2, k2, k3, k4, q⟩
theorem xaq (T : Txt K mg a) : xA P w K mg base CX0 5 a.q1E a.xdH ["told"] (xbz K a) := by
 refine T.zV.ok xhF (fun vs H Q E h => ?_) (fun cdv A outer s H vs Q E hr h => ?_)
 ·obtain ⟨t, r, rfl, _⟩ := h; rfl
 ·obtain ⟨t, r, rfl, ht, hk, q⟩ := h
  have nd := xhF.nd
  refine ⟨_, (xk (xN (uH (xv (xhU T) (hr.mono (by decide)) (by rfl) T.xeq T.uQ.kp T.xaO .nil xr (xa (cv 0) xf))) (xl (xu (xeT T.q36 (xiM T) (hr.mono (by decide)) (by rfl) T.xgv T.xbe .nil xr (xa (xy xD (cv 0) xh (fun _ _ => rfl)) (xa (xy xD (cv 0) xh (fun _ _ => rfl)) (xa (xy xD (cv 0) xh (fun _ _ => rfl)) xf)))))) xF)
  (xk (xN (uH (xv (xiO T) (hr.mono (by decide)) (by rfl) T.xfx T.vw.kp T.xbh .nil xr (xa (cv 0) xf))) (xl (xu (xeT T.q5g (xjn T) (hr.mono (by decide)) (by rfl) T.xnx T.xbT .nil xr (xa (xy xD (cv 0) xh (fun _ _ => rfl)) (xa (xy xD (cv 0) xh (fun _ _ => rfl)) xf))))) xF)
  (xl xe3))), ?_⟩
  walk_at "w"
  refine ⟨t, r, rfl, ht, hk, ?_⟩
  cases r with
  | take to st c =>
   walk_at "w"
   refine ⟨fun _ => ?_, by walk_at "no"⟩
   walk_at "w"
   refine ⟨t, _, _, .int to, rfl, rfl, SqT.of ht, rfl, ?_⟩
   walk_at "w"
   refine ⟨t, _, _, .int st, rfl, rfl, SqT.of ht, rfl, ?_⟩
   walk_at "w"
   refine ⟨t, _, _, .int c, rfl, rfl, SqT.of ht, rfl, ?_⟩
   walk_at "w"
   intro x dx hx hdx hne
   generalize hU : upd H dx (.own x) = H3
   have sH3 := xc.of_eq hdx hU
   have hx3 : H3 x = none := by rw [← hU, xn (Ne.symm hne)]; exact hx
   refine ⟨x, dx, _, _, _, rfl, xo, ?_⟩
   rw [jl]
   walk_at "w"
   exact ⟨rfl, q x _ (sH3.trans (xc.new hx3)) hx ⟨dx, xo⟩⟩
  | put to sg =>
   walk_at "w"
   refine ⟨by walk_at "no", fun _ => ?_⟩
   walk_at "w"
   refine ⟨t, to, sg, rfl, ht, hk, fun H2 s2 => ?_⟩
   walk_at "w"
   obtain ⟨u, h1, h2⟩ := ht
   refine ⟨fun _ => ?_, by walk_at "no"⟩
   walk_at "w"
   refine ⟨t, _, _, .int to, rfl, rfl, SqT.of (s2.at h1), rfl, ?_⟩
   walk_at "w"
   refine ⟨t, _, _, .ref u, rfl, rfl, SqT.of (s2.at h1), rfl, ?_⟩
   walk_at "w"
   intro x dx hx hdx hne
   generalize hU : upd H2 dx (.own x) = H3
   have sH3 := xc.of_eq hdx hU
   have hx3 : H3 x = none := by rw [← hU, xn (Ne.symm hne)]; exact hx
   refine ⟨x, dx, u, _, _, rfl, xo, (sH3.trans (xc.new hx3)).seqT (SqT.of (s2.at h2)), ?_⟩
   rw [jl]
   walk_at "w"
   refine ⟨rfl, q x _ (s2.trans (sH3.trans (xc.new hx3))) (s2.back hx) ⟨dx, u, ?_, (s2.trans (sH3.trans (xc.new hx3))).at h2⟩⟩
   rw [xo, List.length_map]
theorem xhV (T : Txt K mg a) : xA P w K mg base CX0 2 a.q0E a.xaC ["self"] (xdO a) := by
 refine T.je.ok xd2 (fun vs H Q E h => ?_) (fun cdv A outer s H vs Q E hr h => ?_)
 ·obtain ⟨p, dx, t, to, n, rfl, _⟩ := h; rfl
 ·obtain ⟨p, dx, t, to, n, rfl, hp, hn, k⟩ := h
  have nd := xd2.nd
  refine ⟨_, (xl (xu (zk (xa (xT (cv 0) T.zx T.uS (yY T) (hr.mono (by decide)) T.ym .nil xr) xf)))), ?_⟩
  walk_at "w"
  refine ⟨p, dx, _, rfl, hp, rfl, ?_⟩
  walk_at "w"
  refine ⟨p, _, dx, _, to, n, rfl, hp, T.zx, T.q1d, T.q0Q, rfl, rfl, by omega, fun l H1 s1 hl e1 => ?_⟩
  walk_at "w"
  walk_at "ss"
  intro D hD
  have hD0 := s1.back hD
  refine k D [l] _ (s1.put hD0) ⟨xo, ?_, rfl, fun i b xs h1 h2 => ?_, hD0, fun b hb => ?_⟩
  ·have : D ≠ l := fun z => by rw [z, e1] at hD; cases hD
   simpa using this
  ·cases i with
   | zero =>
    simp at h1 h2
    subst h1 h2
    rw [xn (xB e1 hD)]; exact e1
   | succ i => simp at h1
  ·rw [List.mem_singleton.mp hb]; exact hl
theorem xg8 (T : Txt K mg a) : xA P w K mg base CX0 2 a.q0v a.jU ["self"] (xdN a) := by
 refine T.vo.ok xdi (fun vs H Q E h => ?_) (fun cdv A outer s H vs Q E hr h => ?_)
 ·obtain ⟨p, dx, to, st, c, rfl, _⟩ := h; rfl
 ·obtain ⟨p, dx, to, st, c, rfl, hp, hc1, hc2, hd, k⟩ := h
  have nd := xdi.nd
  refine ⟨_, (xk (xN (uH (xT (cv 0) T.xI T.xaa (xbG T) (hr.mono (by decide)) T.uO .nil xr)) (xl (xu (zk xf))) xF)
  (xk (xC (i := 1) nd rfl (Or.inr rfl) (xH (cv 0) rfl))
  (xk (xC (i := 2) nd rfl (Or.inr rfl) (xp yc (xH (cv 0) rfl) (xH (cv 0) rfl)))
  (xk (xN (xJ xgS (xH (cv 0) rfl) (xH (cv 0) rfl)) (xk (xC (i := 3) nd rfl (Or.inr rfl) (xp uB (xH (cv 0) rfl) (xH (cv 0) rfl)))
  (xl (xu (jo (uJ (cap := [2, 3]) (ys := ["end", "step"]) rfl rfl rfl rfl rfl ⟨⟨rfl, rfl, .inl rfl⟩, ⟨⟨rfl, rfl, .inl rfl⟩, trivial⟩⟩ (by decide +kernel)) rfl (xht (by rfl) T.q0K (xa (cv 1) (xa (cv 2) (xa (cv 3) xf)))) (fun _ _ _ _ => (zl (jQ rfl) (by rfl) T.q1I xa1 (xa (xcu (by rfl) T.q0K (xa (cv 0) (xa (xE (xlC rfl) (by rfl) T.q5l xlz (xa (xp yc (cv 0) (cv 2)) (xa (cv 1) xf))) xf))) xf))) (fun _ _ _ _ => uK))))) xF)
  (xk (xC (i := 3) nd rfl (Or.inr rfl) (xp uB (xH (cv 0) rfl) (xH (cv 0) rfl)))
  (xl (xu (jo (uJ (cap := [1, 3]) (ys := ["first", "step"]) rfl rfl rfl rfl rfl ⟨⟨rfl, rfl, .inl rfl⟩, ⟨⟨rfl, rfl, .inl rfl⟩, trivial⟩⟩ (by decide +kernel)) rfl (xht (by rfl) T.q0K (xa (cv 2) (xa (cv 1) (xa (xeQ xeY (cv 3)) xf)))) (fun _ _ _ _ => (zl (jQ rfl) (by rfl) T.q1I xa1 (xa (xcu (by rfl) T.q0K (xa (xE (xgg rfl) (by rfl) T.q3k xek (xa (xp uB (cv 0) (cv 2)) (xa (cv 1) xf))) (xa (cv 0) xf))) xf))) (fun _ _ _ _ => uK))))))))), ?_⟩
  walk_at "w"
  refine ⟨p, dx, _, rfl, hp, rfl, ?_⟩
  walk_at "w"
  refine ⟨p, dx, to, st, c, rfl, hp, ?_⟩
  walk_at "w"
  refine ⟨fun e => ?_, fun e => ?_⟩
  ·have e' : st = to := of_decide_eq_true e
   walk_at "w"
   walk_at "ss"
   intro l hl
   refine k l [] _ (xc.new hl) ?_
   rw [yr, if_pos e']
   exact uX.nil (H' := H) hl xo
  ·have e' : ¬ st = to := of_decide_eq_false e
   walk_at "w"
   refine ⟨p, _, dx, _, .int to, rfl, hp, T.xI, T.q0s, rfl, ?_⟩
   walk_at "w"
   refine ⟨p, _, dx, _, .int to, rfl, hp, T.xI, T.q0s, rfl, ?_⟩
   walk_at "w"
   refine ⟨p, _, dx, _, .int c, rfl, hp, T.xI, T.q0p, rfl, ?_⟩
   walk_at "w"
   refine ⟨p, _, dx, _, .int to, rfl, hp, T.xI, T.q0s, rfl, ?_⟩
   walk_at "w"
   refine ⟨p, _, dx, _, .int st, rfl, hp, T.xI, T.q0k, rfl, ?_⟩
   walk_at "w"
   refine ⟨fun e2 => ?_, fun e2 => ?_⟩
   ·have e3 : to < st := of_decide_eq_true e2
    walk_at "w"
    refine ⟨p, _, dx, _, .int st, rfl, hp, T.xI, T.q0k, rfl, ?_⟩
    walk_at "w"
    refine ⟨p, _, dx, _, .int to, rfl, hp, T.xI, T.q0s, rfl, ?_⟩
    walk_at "w"
    refine And.intro (xlX (by omega) hd) ?_
    walk_at "w"
    obtain ⟨d, hdd⟩ : ∃ d : Nat, st - to = (d : Int) := ⟨(st - to).toNat, by omega⟩
    have hd0 : 0 < d := by omega
    rw [hdd, xoe to c d hc1 hd0]
    refine xgi (uch to d c.toNat) (Nat.le_trans ?_ (show 1000 ≤ sizeLine by decide)) (fun i H3 hi s3 R hR => ?_) (fun D H2 as s2 L => ?_)
    ·have := xfl (uch to d) d c.toNat hd0
     unfold chs at this
     rw [List.length_map, List.length_range] at this
     omega
    ·walk_at "w"
     intro r hr
     generalize hUr : upd H3 r _ = H4
     have sH4 := xc.of_eq hr hUr
     have er := xq hUr
     clear hUr
     walk_at "w"
     have ep : (i : Int) * (d : Int) = ((i * d : Nat) : Int) := by rw [Int.natCast_mul]
     have el : yo (to + ((i * d : Nat) : Int)) (min (to + ((i * d : Nat) : Int) + (st - to)) (to + c)) 1 = min d (c.toNat - i * d) := by
      rw [yI]
      generalize i * d = q
      omega
     rw [ep] at er
     refine ⟨r, _, _, rfl, er, by rw [el]; omega, fun l hl => ?_⟩
     rw [el, xfj]
     exact hR l _ (sH4.put (sH4.back hl)) (sH4.back hl) xo
    ·refine k D as H2 s2 ?_
     rw [yr, if_neg e', if_pos e3, hdd]
     exact L
   ·have e3 : ¬ to < st := of_decide_eq_false e2
    walk_at "w"
    refine ⟨p, _, dx, _, .int to, rfl, hp, T.xI, T.q0s, rfl, ?_⟩
    walk_at "w"
    refine ⟨p, _, dx, _, .int st, rfl, hp, T.xI, T.q0k, rfl, ?_⟩
    walk_at "w"
    refine And.intro (xlX (by omega) (by omega)) ?_
    walk_at "w"
    obtain ⟨d, hdd⟩ : ∃ d : Nat, to - st = (d : Int) := ⟨(to - st).toNat, by omega⟩
    have hd0 : 0 < d := by omega
    rw [hdd, xlY to c d hc1 hd0]
    refine xgi (dch (to + c) d c.toNat) (Nat.le_trans ?_ (show 1000 ≤ sizeLine by decide)) (fun i H3 hi s3 R hR => ?_) (fun D H2 as s2 L => ?_)
    ·have := xfl (dch (to + c) d) d c.toNat hd0
     unfold chs at this
     rw [List.length_map, List.length_range] at this
     omega
    ·walk_at "w"
     intro r hr
     generalize hUr : upd H3 r _ = H4
     have sH4 := xc.of_eq hr hUr
     have er := xq hUr
     clear hUr
     walk_at "w"
     have ep : (i : Int) * -(d : Int) = -((i * d : Nat) : Int) := by rw [Int.mul_neg, Int.natCast_mul]
     have hid : i * d ≤ c.toNat := xmR hd0 hi
     have el : yo (max (to + c + -((i * d : Nat) : Int) - (to - st)) to) (to + c + -((i * d : Nat) : Int)) 1 = min d (c.toNat - i * d) := by
      rw [yI]
      generalize i * d = q at hid
      omega
     rw [ep] at er
     refine ⟨r, _, _, rfl, er, by rw [el]; omega, fun l hl => ?_⟩
     rw [el, xfj]
     refine hR l _ (sH4.put (sH4.back hl)) (sH4.back hl) ?_
     rw [xo]
     unfold dch
     have e5 : max (to + c + -((i * d : Nat) : Int) - (to - st)) to = to + c - ((min ((i + 1) * d) c.toNat : Nat) : Int) := by
      rw [Nat.succ_mul]
      generalize i * d = q at hid
      omega
     rw [e5]
    ·refine k D as H2 s2 ?_
     rw [yr, if_neg e', if_neg e3, hdd]
     exact L
theorem TupAt.off {K : W.Frag} {H : Hp} {t p : Addr} {r : xm} {xs : List V} {o : HO} (h : TupAt K H t r) (hp : H p = some (.lst xs)) : TupAt K (upd H p o) t r := by
 have ne : ∀ {q : Addr} {ys : List V}, H q = some (.tup ys) → upd H p o q = some (.tup ys) := fun {q ys} e => by
  rw [xn (fun z => by rw [z, hp] at e; cases e)]; exact e
 cases r with
 | take to st c => exact ne h
 | put to sg => obtain ⟨u, h1, h2⟩ := h; exact ⟨u, ne h1, ne h2⟩
def Cut (cs : List Int) : Prop := ∀ (k : Nat) (x y : Int), cs[k]? = some x → cs[k + 1]? = some y → 0 ≤ x ∧ x < y ∧ y ≤ x + 9
def xol : Sp := fun vs H Q _ => ∃ n c : Int, vs = [.int n, .int c] ∧ 0 ≤ n ∧ n ≤ 29 ∧ ∀ (l : Addr) (cs : List Int) (H' : Hp), xc H H' → H' l = some (.lst (cs.map V.int)) → Cut cs → 1 ≤ cs.length → cs.length ≤ 30 → (∀ x ∈ cs, x ≤ n) → cs[0]? = some 0 → cs[cs.length - 1]? = some n → Q (.ref l) H'
theorem Cut.snoc {cs : List Int} {v y : Int} (h : Cut (cs ++ [v])) (h0 : 0 ≤ v) (h1 : v < y) (h2 : y ≤ v + 9) : Cut (cs ++ [v] ++ [y]) := by
 intro k a b ha hb
 by_cases e : k + 1 < (cs ++ [v]).length
 ·rw [List.getElem?_append_left (by omega)] at ha hb
  exact h k a b ha hb
 ·by_cases e2 : k + 1 = (cs ++ [v]).length
  ·rw [List.getElem?_append_left (by omega)] at ha
   rw [List.getElem?_append_right (by omega), e2] at hb
   simp at hb
   subst hb
   have hk : k = cs.length := by rw [List.length_append] at e2; simp at e2; omega
   rw [hk] at ha
   simp at ha
   subst ha
   exact ⟨h0, h1, h2⟩
  ·rw [List.getElem?_eq_none (by rw [List.length_append (as := cs ++ [v])]; simp at e e2 ⊢; omega)] at hb
   cases hb
theorem xom (T : Txt K mg a) : xA P w K mg base CX0 2 a.q2r a.xgo ["_law_size", "_law_cell"] xol := by
 refine T.xc9.ok xjX (fun vs H Q E h => ?_) (fun cdv A outer s H vs Q E hr h => ?_)
 ·obtain ⟨n, c, rfl, _⟩ := h; rfl
 ·obtain ⟨n, c, rfl, hn0, hn, q⟩ := h
  have nd := xjX.nd
  refine ⟨_, (xk (xC (i := 2) nd rfl (Or.inl rfl) (zk (xa xh xf)))
  (xk (xmz PassesOwn.never (xJ xgS (xy zq (cv 2) (xeQ xeY xh) (fun _ _ => rfl)) (cv 0)) (xl (yk (xdu PySem.F.plainAttrs_list PySem.F.slot_list_append PySem.F.type_list_append uU (cv 2) (xa (xE (xlC rfl) (by rfl) T.q5l xlz (xa (cv 0) (xa (xp yc (xp yc (xy zq (cv 2) (xeQ xeY xh) (fun _ _ => rfl)) xh) (xp ye (xv (vg T) (hr.mono (by decide)) (by rfl) T.vz T.zw.kp T.uf .nil xr (xa (cv 1) (xa (xE xG (by rfl) T.q0V yv (xa (cv 2) xf)) xf))) xh)) xf))) xf)))))
  (xl (xu (cv 2))))), ?_⟩
  walk_at "w"
  walk_at "ss"
  intro cl hcl
  generalize hUcl : upd H cl _ = H1
  have sH1 := xc.of_eq hcl hUcl
  have ecl := xq hUcl
  clear hUcl
  walk_at "w"
  refine xjc (m := n.toNat) (fun m σ G => xc H G ∧ σ = [some (.int n), some (.int c), some (.ref cl)] ∧ ∃ (cs : List Int) (v : Int), m = (n - v).toNat ∧ G cl = some (.lst ((cs ++ [v]).map V.int)) ∧ Cut (cs ++ [v]) ∧ 0 ≤ v ∧ v ≤ n ∧ (cs.length : Int) ≤ v ∧ (∀ x ∈ cs ++ [v], x ≤ n) ∧ (cs ++ [v])[0]? = some 0)
   ⟨sH1, rfl, [], 0, by omega, ecl, (fun k x y h1 h2 => by simp at h2), by omega, hn0, by simp, (fun x hx => by simp at hx; omega), rfl⟩ (fun m σ G hP => ?_)
  obtain ⟨sG, rfl, cs, v, rfl, ecl', hcut, hv0, hvn, hlen, hle, hz⟩ := hP
  have hlast : atI ((cs ++ [v]).map V.int) (-1) = some (.int v) := by rw [List.map_append]; exact xmp _ _
  walk_at "w"
  refine ⟨cl, _, _, .int v, rfl, rfl, SqL.of ecl', hlast, ?_⟩
  walk_at "w"
  refine ⟨fun e1 => ?_, fun e1 => ?_⟩
  ·have h1 : v < n := of_decide_eq_true e1
   refine ⟨fun σ' G' => ∃ m', m' < (n - v).toNat ∧ xc H G' ∧ σ' = [some (.int n), some (.int c), some (.ref cl)] ∧ ∃ (cs : List Int) (v : Int), m' = (n - v).toNat ∧ G' cl = some (.lst ((cs ++ [v]).map V.int)) ∧ Cut (cs ++ [v]) ∧ 0 ≤ v ∧ v ≤ n ∧ (cs.length : Int) ≤ v ∧ (∀ x ∈ cs ++ [v], x ≤ n) ∧ (cs ++ [v])[0]? = some 0, fun σ' G' z => z, ?_⟩
   walk_at "w"
   refine ⟨.inl ⟨rfl, _, SqL.of ecl'⟩, ?_⟩
   walk_at "w"
   refine ⟨cl, _, _, .int v, rfl, rfl, SqL.of ecl', hlast, ?_⟩
   walk_at "w"
   refine ⟨cl, _, rfl, .inl (SqL.of ecl'), ?_⟩
   walk_at "w"
   refine ⟨_, _, rfl, ?_⟩
   walk_at "w"
   walk_at "ss"
   generalize mixed c _ = mx
   have b0 := Int.emod_nonneg mx (show (9 : Int) ≠ 0 by decide)
   have b1 := Int.emod_lt_of_pos mx (show (0 : Int) < 9 by decide)
   refine ⟨cl, _, _, rfl, rfl, ecl', (by rw [List.length_map, List.length_append, sizeLine_eq]; simp; omega), ?_⟩
   generalize hU : upd G cl _ = G2
   obtain ⟨y, hy⟩ : ∃ y : Int, y = min n (v + 1 + mx % 9) := ⟨_, rfl⟩
   refine ⟨(n - y).toNat, by omega, xc.wr sG hcl hU, rfl, cs ++ [v], y, rfl, ?_, hcut.snoc hv0 (by omega) (by omega), by omega, by omega, by rw [List.length_append]; simp; omega, ?_, by rw [List.getElem?_append_left (by simp)]; exact hz⟩
   ·rw [← hU, xo, List.map_append (l₁ := cs ++ [v]), hy]; rfl
   ·intro x hx
    rcases List.mem_append.mp hx with z | z
    ·exact hle x z
    ·rw [List.mem_singleton.mp z]; omega
  walk_at "w"
  have ev : v = n := by have := of_decide_eq_false e1; omega
  exact q cl (cs ++ [v]) G sG ecl' hcut (by simp) (by simp; omega) hle hz (by simp [ev])
theorem xkV (T : Txt K mg a) : xA P w K mg base CX0 2 a.q1q a.xcD ["_law_script", "_law_due", "_law_elder_here", "_law_falls", "_law_count"] (xkO K) := by
 refine T.xan.ok xgA (fun vs H Q E h => ?_) (fun cdv A outer s H vs Q E hr h => ?_)
 ·obtain ⟨F, k, n, rfl, _⟩ := h; rfl
 ·obtain ⟨F, k, n, rfl, hn, ⟨hl0, hls, hdu, hel, ⟨ys, hfa, hyl⟩, hk, n2, n3⟩, k1, k2⟩ := h
  have hl := hl0 H (Kp.of (xc.refl _))
  have nd := xgA.nd
  refine ⟨_, (xk (xC (i := 5) nd rfl (Or.inl rfl) (xv (vg T) (hr.mono (by decide)) (by rfl) T.vz T.zw.kp T.uf .nil xr (xa (xv (uw T) (hr.mono (by decide)) (by rfl) T.uv T.yG.kp T.zm .nil xr (xa (cv 0) (xa (xp yc xh (xp ye (cv 4) (xE (xgg rfl) (by rfl) T.q3k xek (xa xh (xa (xp uB (xE xG (by rfl) T.q0V yv (xa (cv 0) xf)) xh) xf))))) xf))) (xa (cv 4) xf))))
  (xk (xN (PW.pt (xdx (xJ xfQ (xE xG (by rfl) T.q0V yv (xa (cv 3) xf)) xh) (xeb (xJ xfQ (xp ye (cv 5) xh) xh)))) (xl (xu xbm)) xF)
  (xk (yk (xdu PySem.F.plainAttrs_list PySem.F.slot_list_append PySem.F.type_list_append uU (cv 3) (xa (cv 4) xf)))
  (xk (xC (i := 6) nd rfl (Or.inl rfl) (zk (xa (uG xf) (xa (uG (xa (xp ye (cv 5) xh) xf)) (xa (uG (xa (xp ye (xv (uw T) (hr.mono (by decide)) (by rfl) T.uv T.yG.kp T.zm .nil xr (xa (cv 0) (xa xh xf))) (xp xeX xh xh)) xf)) xf)))))
  (xk (xav (xN (PW.pt (xca (xJ (xgf hr.units) (cv 1) (zk xf)) (xbY (xJ (xgf hr.units) (cv 2) (zk xf))))) (xl (xC (i := 6) nd rfl (Or.inl rfl) (xp xeg (cv 6) (zk (xa (uG (xa (xy zq (cv 1) (xp ye (xp xbo (cv 5) xh) (xE xG (by rfl) T.q0V yv (xa (cv 1) xf))) (fun _ _ => rfl)) xf)) (xa (uG (xa (xy zq (cv 2) (xp ye (xp xbo (cv 5) xh) (xE xG (by rfl) T.q0V yv (xa (cv 2) xf))) (fun _ _ => rfl)) xf)) xf)))))) xF))
  (xl (xu (xy zq (cv 6) (xp ye (xp xbo (cv 5) xh) (xE xG (by rfl) T.q0V yv (xa (cv 6) xf))) (fun _ _ => rfl))))))))), ?_⟩
  walk_at "w"
  refine ⟨F.l, _, rfl, .inl hl, ?_⟩
  walk_at "w"
  rw [List.length_map]
  have hmx : (0 : Int) < max 1 ((F.ns.length : Int) - 6) := by omega
  refine And.intro hmx ?_
  walk_at "w"
  have b1 := Int.emod_nonneg n (show max 1 ((F.ns.length : Int) - 6) ≠ 0 by omega)
  refine ⟨F.l, F.ns, _, rfl, hl, by omega, ?_⟩
  walk_at "w"
  refine ⟨_, n, rfl, ?_⟩
  generalize mixed _ n = dr
  walk_at "w"
  refine ⟨F.fa, _, rfl, .inl (SqL.of hfa), ?_⟩
  walk_at "w"
  rw [hyl]
  refine ⟨fun e1 => ⟨fun _ => k1 _ (xc.refl _), by walk_at "no"⟩, fun e1 => ?_⟩
  have e1 : ¬ (29 : Int) < k := of_decide_eq_false e1
  walk_at "w"
  walk_at "ss"
  refine ⟨fun e2 => k1 _ (xc.refl _), fun e2 => ?_⟩
  walk_at "w"
  refine ⟨.inl ⟨rfl, _, SqL.of hfa⟩, ?_⟩
  walk_at "w"
  refine ⟨F.fa, _, _, rfl, rfl, hfa, by rw [sizeLine_eq]; omega, ?_⟩
  generalize hU : upd H F.fa _ = H1
  have q1 : Kp [F.fa] H H1 := by rw [← hU]; exact (Kp.of (xc.refl _)).wr (by simp)
  have hf1 : yH H1 F.fa (k + 1) := ⟨ys ++ [.int n], by rw [← hU, xo], by simp [hyl]⟩
  clear hU
  have hl1 := hl0 H1 q1
  have hdu1 : H1 F.du = _ := q1 _ _ hdu (by simp [n2])
  have hel1 : H1 F.el = _ := q1 _ _ hel (by simp [n3])
  have k2 : ∀ v h H', Kp [F.fa] H H' → yH H' F.fa (k + 1) → xkM H' v h → Q v H' := k2 (by omega)
  clear hfa hl hl0 hdu hel
  walk_at "w"
  walk_at "ss"
  intro t1 ht1
  generalize hUt1 : upd H1 t1 _ = H2
  have sH2 := xc.of_eq ht1 hUt1
  have et1 := xq hUt1
  clear hUt1
  walk_at "w"
  walk_at "ss"
  intro t2 ht2
  generalize hUt2 : upd H2 t2 _ = H3
  have sH3 := xc.of_eq ht2 hUt2
  have et2 := xq hUt2
  clear hUt2
  walk_at "w"
  have s13 := sH2.trans sH3
  refine ⟨F.l, F.ns, 5, rfl, s13.seq hl1, by decide, ?_⟩
  walk_at "w"
  walk_at "ss"
  intro t3 ht3
  generalize hUt3 : upd H3 t3 _ = H4
  have sH4 := xc.of_eq ht3 hUt3
  have et3 := xq hUt3
  clear hUt3
  walk_at "w"
  walk_at "ss"
  intro so hso
  generalize hUso : upd H4 so _ = H5
  have sH5 := xc.of_eq hso hUso
  have eso := xq hUso
  clear hUso
  walk_at "w"
  have s15 : xc H1 H5 := s13.trans (sH4.trans sH5)
  refine ⟨fun σ' G => xc H1 G ∧ ∃ (so' : Addr) (ts : List Addr), σ' = [some (.ref F.l), some (.ref F.du), some (.ref F.el), some (.ref F.fa), some (.int n), some (.int dr), some (.ref so')] ∧ G so' = some (.lst (ts.map V.ref)) ∧ 0 < ts.length ∧ ts.length ≤ 5 ∧ ∀ t ∈ ts, ∃ h, xkM G (.ref t) h, ?_, ?_⟩
  ·have done0 : ∀ G, xc H5 G → xc H1 G ∧ ∃ (so' : Addr) (ts : List Addr), [some (.ref F.l), some (.ref F.du), some (.ref F.el), some (.ref F.fa), some (.int n), some (.int dr), some (.ref so)] = [some (V.ref F.l), some (.ref F.du), some (.ref F.el), some (.ref F.fa), some (.int n), some (.int dr), some (.ref so')] ∧ G so' = some (.lst (ts.map V.ref)) ∧ 0 < ts.length ∧ ts.length ≤ 5 ∧ ∀ t ∈ ts, ∃ h, xkM G (.ref t) h := fun G sG => by
    refine ⟨s15.trans sG, so, [t1, t2, t3], rfl, sG.at eso, by simp, by simp, fun t ht => ?_⟩
    simp only [List.mem_cons, List.not_mem_nil, or_false] at ht
    rcases ht with rfl | rfl | rfl
    ·exact ⟨none, _, rfl, sG.at (sH5.at (sH4.at (sH3.at et1)))⟩
    ·exact ⟨some _, _, rfl, sG.at (sH5.at (sH4.at et2))⟩
    ·exact ⟨some _, _, rfl, sG.at (sH5.at et3)⟩
   walk_at "w"
   walk_at "ss"
   intro e0 he0
   generalize hUe0 : upd H5 e0 _ = H6
   have sH6 := xc.of_eq he0 hUe0
   have ee0 := xq hUe0
   clear hUe0
   walk_at "w"
   have s16 := s15.trans sH6
   refine xe1 (f := fun b => !b) ⟨F.du, e0, F.due, [], rfl, rfl, SqL.of (s16.at hdu1), SqL.of ee0, ?_⟩
   walk_at "w"
   refine ⟨fun e3 => ?_, fun e3 => ⟨by walk_at "no", fun _ => done0 _ sH6⟩⟩
   have e3 : F.due ≠ [] := by simpa using e3
   walk_at "w"
   walk_at "ss"
   intro ez hez
   generalize hUez : upd H6 ez _ = H7
   have sH7 := xc.of_eq hez hUez
   have eez := xq hUez
   clear hUez
   walk_at "w"
   have s17 := s16.trans sH7
   refine xe1 (f := fun b => !b) ⟨F.el, ez, F.es, [], rfl, rfl, SqL.of (s17.at hel1), SqL.of eez, ?_⟩
   walk_at "w"
   refine ⟨fun e4 => ?_, fun e4 => done0 _ (sH6.trans sH7)⟩
   have e4 : F.es ≠ [] := by simpa using e4
   walk_at "w"
   walk_at "ss"
   have hd1 : 0 < F.due.length := List.length_pos_iff.mpr e3
   have he1 : 0 < F.es.length := List.length_pos_iff.mpr e4
   refine ⟨F.du, _, rfl, .inl (SqL.of (s17.at hdu1)), ?_⟩
   walk_at "w"
   rw [List.length_map]
   refine And.intro (show (0 : Int) < _ by omega) ?_
   have j0 := Int.emod_nonneg (dr / 64) (show ((F.due.length : Nat) : Int) ≠ 0 by omega)
   have j1 := Int.emod_lt_of_pos (dr / 64) (show (0 : Int) < ((F.due.length : Nat) : Int) by omega)
   obtain ⟨v1, hv1⟩ : ∃ v, F.due[(dr / 64 % ((F.due.length : Nat) : Int)).toNat]? = some v := ⟨_, List.getElem?_eq_getElem (by omega)⟩
   walk_at "w"
   refine ⟨F.du, _, _, .int v1, rfl, rfl, SqL.of (s17.at hdu1), xem j0 hv1, ?_⟩
   walk_at "w"
   walk_at "ss"
   intro t4 ht4
   generalize hUt4 : upd H7 t4 _ = H8
   have sH8 := xc.of_eq ht4 hUt4
   have et4 := xq hUt4
   clear hUt4
   walk_at "w"
   walk_at "ss"
   have s18 := s17.trans sH8
   refine ⟨F.el, _, rfl, .inl (SqL.of (s18.at hel1)), ?_⟩
   walk_at "w"
   rw [List.length_map]
   refine And.intro (show (0 : Int) < _ by omega) ?_
   have l0 := Int.emod_nonneg (dr / 64) (show ((F.es.length : Nat) : Int) ≠ 0 by omega)
   have l1 := Int.emod_lt_of_pos (dr / 64) (show (0 : Int) < ((F.es.length : Nat) : Int) by omega)
   obtain ⟨v2, hv2⟩ : ∃ v, F.es[(dr / 64 % ((F.es.length : Nat) : Int)).toNat]? = some v := ⟨_, List.getElem?_eq_getElem (by omega)⟩
   walk_at "w"
   refine ⟨F.el, _, _, .int v2, rfl, rfl, SqL.of (s18.at hel1), xem l0 hv2, ?_⟩
   walk_at "w"
   walk_at "ss"
   intro t5 ht5
   generalize hUt5 : upd H8 t5 _ = H9
   have sH9 := xc.of_eq ht5 hUt5
   have et5 := xq hUt5
   clear hUt5
   walk_at "w"
   walk_at "ss"
   intro s2 hs2
   generalize hUs2 : upd H9 s2 _ = H10
   have sH10 := xc.of_eq hs2 hUs2
   have es2 := xq hUs2
   clear hUs2
   walk_at "w"
   have s510 : xc H5 H10 := sH6.trans (sH7.trans (sH8.trans (sH9.trans sH10)))
   refine ⟨so, s2, _, _, rfl, rfl, s510.at eso, es2, by simp [sizeLine_eq], ?_⟩
   intro s3 hs3
   generalize hUs3 : upd H10 s3 _ = H11
   have sH11 := xc.of_eq hs3 hUs3
   have es3 := xq hUs3
   clear hUs3
   walk_at "w"
   have s511 := s510.trans sH11
   refine ⟨s15.trans s511, s3, [t1, t2, t3, t4, t5], rfl, es3, by simp, by simp, fun t ht => ?_⟩
   simp only [List.mem_cons, List.not_mem_nil, or_false] at ht
   rcases ht with rfl | rfl | rfl | rfl | rfl
   ·exact ⟨none, _, rfl, s511.at (sH5.at (sH4.at (sH3.at et1)))⟩
   ·exact ⟨some _, _, rfl, s511.at (sH5.at (sH4.at et2))⟩
   ·exact ⟨some _, _, rfl, s511.at (sH5.at et3)⟩
   ·exact ⟨some _, _, rfl, sH11.at (sH10.at (sH9.at et4))⟩
   ·exact ⟨some _, _, rfl, sH11.at (sH10.at et5)⟩
  rintro σ' G ⟨sG, so', ts, rfl, eso', ht0, ht5, hts⟩
  walk_at "w"
  walk_at "ss"
  refine ⟨so', _, rfl, .inl (SqL.of eso'), ?_⟩
  walk_at "w"
  rw [List.length_map]
  refine And.intro (show (0 : Int) < _ by omega) ?_
  have l0 := Int.emod_nonneg (dr / 8) (show ((ts.length : Nat) : Int) ≠ 0 by omega)
  have l1 := Int.emod_lt_of_pos (dr / 8) (show (0 : Int) < ((ts.length : Nat) : Int) by omega)
  obtain ⟨t, ht⟩ : ∃ t, ts[(dr / 8 % ((ts.length : Nat) : Int)).toNat]? = some t := ⟨_, List.getElem?_eq_getElem (by omega)⟩
  obtain ⟨h, hh⟩ := hts t (List.mem_of_getElem? ht)
  walk_at "w"
  refine ⟨so', _, _, .ref t, rfl, rfl, SqL.of eso', ?_, k2 (.ref t) h G (q1.same sG) (hf1.same sG) hh⟩
  have := xag (xs := ts.map V.ref) (j := (dr / 8 % ((ts.length : Nat) : Int)).toNat) (v := .ref t) (by rw [List.getElem?_map, ht]; rfl)
  rwa [Int.toNat_of_nonneg l0] at this
theorem xkW (T : Txt K mg a) : xbO P w K mg base CX0 3 "<lambda>" "law.<locals>.<lambda>" (xai xcn) (.expr (xaj xcn)) (zA xcn) ["_law_count"] (xoi K) := by
 refine xdB xj0 (fun fv vs H Q E h => ?_) (fun _ _ _ _ _ us hl => match us, hl with | [_], _ => rfl) (fun A outer s H f clos cdv fv vs Q E hr h => ?_)
 ·obtain ⟨F, k, n, rfl, rfl, _⟩ := h; exact ⟨rfl, rfl⟩
 ·obtain ⟨F, k, n, rfl, rfl, hn, he, k1⟩ := h
  have nd := xj0.nd
  refine ⟨_, (xv (xkV T) (hr.mono (by decide)) (by rfl) T.xhE T.xan.kp T.xcK .nil xr (xa (cv 4) (xa (cv 1) (xa (cv 2) (xa (cv 3) (xa (cv 0) xf)))))), ?_⟩
  walk_at "w"
  exact ⟨F, k, n, rfl, hn, he, k1⟩
theorem xdm (T : Txt K mg a) : xA P w K mg base CX0 4 a.q0f a.zM ["self", "count"] (xg4 K a) := by
 refine T.yT.ok xap (fun vs H Q E h => ?_) (fun cdv A outer s H vs Q E hr h => ?_)
 ·obtain ⟨F, n, m, k, rfl, _⟩ := h; rfl
 ·obtain ⟨F, n, m, k, rfl, hn, hp, hc, he, k1⟩ := h
  have nd := xap.nd
  refine ⟨_, (xk (xC (i := 2) nd rfl (Or.inl rfl) (xH (cv 0) rfl))
  (xk (xN (xgh (cv 2)) (xl (xu xbm)) xF)
  (xl (xu (xin 2 (xkW T) (hr.mono (by decide)) xr (xa (cv 1) xf)))))), ?_⟩
  walk_at "w"
  refine ⟨F.S.p, _, F.S.dp, _, .ref F.f, rfl, hp, T.xbk, T.q1u, rfl, ?_⟩
  walk_at "w"
  refine ⟨by walk_at "no", fun _ => ?_⟩
  walk_at "w"
  refine ⟨F.f, _, rfl, hc, ?_⟩
  walk_at "w"
  exact ⟨hc, F, k, n, rfl, rfl, hn, he, k1⟩
theorem xbL (T : Txt K mg a) : xA P w K mg base (CXE P w) 5 a.q0l a.vb ["self", "kept", "at", "value", "torn"] (xhR K a) := by
 refine T.zW.okX xbK (fun vs H Q E h => ?_) (fun cdv A outer s H vs Q E hr h => ?_)
 ·obtain ⟨F, l, g, i, n, val, xs, k, tf, rfl, _⟩ := h; rfl
 ·obtain ⟨F, l, g, i, n, val, xs, k, tf, rfl, B, kp0, hp, hn, hfl, hk, hlm, hl, h0, hi, ht, k1, k2⟩ := h
  have nd := xbK.nd
  refine ⟨_, (xk (xC (i := 5) nd rfl (Or.inl rfl) (xH (cv 0) rfl))
  (xk (vh (cv 0) (xp yc (cv 5) xh) rfl)
  (xk (xC (i := 6) nd rfl (Or.inl rfl) (xaf (cv 0) T.xbk T.xao (xdm T) (hr.mono (by decide)) T.zN .nil xr (xa (cv 5) xf)))
  (xk (xN (xgh (cv 6)) (xk (xed (cv 3) (xf6 (cv 1) (cv 2) set_list))
  (xl xnF)) xF)
  (xk (xav (xN (xJ xau (xE xG (by rfl) T.q0V yv (xa (cv 6) xf)) xh) (xl (xed (xmM (k := 1) 4 (hr.mono (by decide)) (xa (xy xD (cv 6) xh (fun _ _ => rfl)) xf)) (xf6 (cv 1) (cv 2) set_list))) xF))
  (xl (xlO (k := 1) ⟨rfl, rfl, rfl⟩ rfl T.xer (xg7 T) (hr.mono (by decide)) T.jW (by rfl) T.xfT (xa (cv 5) xf)))))))), ?_⟩
  obtain ⟨p, hpe⟩ : ∃ p, p = F.S.p := ⟨_, rfl⟩
  have nlp : l ≠ p := by rw [hpe]; exact xar hl hp (by intro z; cases z)
  have hlS : l ∈ SF F := by
   simp only [List.mem_cons, List.not_mem_nil, or_false] at hlm ⊢
   rcases hlm with z | z <;> simp [z]
  have hpS : p ∈ SF F := by rw [hpe]; simp
  have nfp : F.fa ≠ p := fun z => B.nfa (by rw [z, hpe]; simp)
  have nfl : F.fa ≠ l := fun z => B.nfa (by
   simp only [List.mem_cons, List.not_mem_nil, or_false] at hlm ⊢
   rw [z]; rcases hlm with z | z <;> simp [z])
  rw [← hpe] at hp k1 k2 ⊢
  have mu : ∀ x ∈ [p, l, F.fa], ∃ u, H x = some u ∧ xbF u := by
   intro x hx
   simp only [List.mem_cons, List.not_mem_nil, or_false] at hx
   rcases hx with rfl | rfl | rfl
   ·exact ⟨_, hp, trivial⟩
   ·exact ⟨_, hl, trivial⟩
   ·obtain ⟨ys, e, _⟩ := hfl; exact ⟨_, e, trivial⟩
  walk_at "w"
  refine ⟨p, _, F.S.dp, _, .int n, rfl, hp, T.xbk, T.q02, rfl, ?_⟩
  walk_at "w"
  refine ⟨p, _, F.S.dp, _, rfl, hp, T.xbk, T.q02, by walk_at "few", ?_⟩
  generalize hU : upd H p _ = H1
  have c1 : Kp [p, l] H H1 := by rw [← hU]; exact (Kp.of (xc.refl _)).wr (by simp)
  have hp1 : H1 p = some (.ins a.q0q F.S.dp (xdL (n + 1) (.ref F.f))) := by rw [← hU, xo]; rfl
  have hl1 : H1 l = some (.lst xs) := by rw [← hU, xn nlp]; exact hl
  have kp1 : Kp (SF F) F.H0 H1 := by rw [← hU]; exact kp0.wr hpS
  have hf1 : yH H1 F.fa k := hfl.kp c1 (by simp [nfp, nfl])
  clear hU
  walk_at "w"
  refine ⟨p, F.S.dp, _, rfl, hp1, rfl, ?_⟩
  walk_at "w"
  refine ⟨F, n, _, k, by rw [hpe]; rfl, hn, by rw [← hpe]; exact hp1, B.lamAt kp1, B.env kp1 hf1 hk, fun H2 s2 => ?_, fun hk2 v h H2 q2 hf2 hv => ?_⟩
  ·walk_at "w"
   refine ⟨fun _ => ?_, by walk_at "no"⟩
   walk_at "w"
   refine ⟨l, xs, i, _, rfl, rfl, s2.at hl1, xgk h0 hi, ?_⟩
   exact k1 _ ((c1.same s2).wr (by simp)) (by rw [xn (Ne.symm nlp)]; exact s2.at hp1) xo
  have k2 := k2 hk2
  have c2 : Kp [p, l, F.fa] H H2 := (c1.mono (by simp)).trans (q2.mono (by simp))
  have hd2 : H2 l = some (.lst xs) := q2 _ _ hl1 (by simp [Ne.symm nfl])
  have hp2 := q2 _ _ hp1 (by simp [Ne.symm nfp])
  have ht2 := ht.kp mu c2
  clear hl1 hp1 c1 q2
  have fin : ∀ (H3 : Hp), Kp [p, l, F.fa] H H3 → H3 p = some (.ins a.q0q F.S.dp (xdL (n + 1) (.ref F.f))) → (H3 l = some (.lst xs) ∨ ∃ s, H3 l = some (.lst (xs.set i.toNat (tf s)))) → yH H3 F.fa (k + 1) → ∀ d, H3 d = none → E (.ref a.q0d) (some d) (upd H3 d (.xd [("count", .int n)])) := fun H3 q1 q2 q3 q4 d hd => by
   have hln : ∃ zs, H3 l = some (.lst zs) := by
    rcases q3 with z | ⟨s, z⟩
    ·exact ⟨_, z⟩
    ·exact ⟨_, z⟩
   have hd0 : H d = none := by
    cases z : H d with
    | none => rfl
    | some u =>
     by_cases hm : d ∈ [p, l, F.fa]
     ·simp only [List.mem_cons, List.not_mem_nil, or_false] at hm
      rcases hm with e | e | e
      ·rw [e, q2] at hd; cases hd
      ·obtain ⟨zs, hz⟩ := hln; rw [e, hz] at hd; cases hd
      ·obtain ⟨zs, hz, _⟩ := q4; rw [e, hz] at hd; cases hd
     ·rw [q1 d u z hm] at hd; cases hd
   refine k2 d _ (q1.mk hd0) (by rw [xn (xB q2 hd)]; exact q2) ?_ ?_ hd0 xo
   ·rcases q3 with z | ⟨s, z⟩
    ·exact .inl (by rw [xn (xB z hd)]; exact z)
    ·exact .inr ⟨s, by rw [xn (xB z hd)]; exact z⟩
   ·obtain ⟨zs, hz, hzl⟩ := q4
    exact ⟨zs, by rw [xn (xB hz hd)]; exact hz, hzl⟩
  obtain ⟨ta, rfl, hta⟩ := hv
  cases h with
  | none =>
   walk_at "w"
   refine ⟨by walk_at "no", fun _ => ?_⟩
   walk_at "w"
   refine ⟨fun σ' H' => σ' = [some (.ref p), some (.ref l), some (.int i), some val, some (.ref g), some (.int n), some (.ref ta)] ∧ H' = H2, ?_, ?_⟩
   ·walk_at "w"
    refine ⟨ta, _, rfl, .inr (SqT.of hta), ?_⟩
    walk_at "w"
    refine ⟨by walk_at "no", fun _ => ⟨rfl, rfl⟩⟩
   ·rintro σ' H' ⟨rfl, rfl⟩
    walk_at "w"
    exact ⟨.int n, rfl, fin _ c2 hp2 (.inl hd2) hf2⟩
  | some s1 =>
   walk_at "w"
   refine ⟨by walk_at "no", fun _ => ?_⟩
   walk_at "w"
   refine ⟨fun σ' H' => σ' = [some (.ref p), some (.ref l), some (.int i), some val, some (.ref g), some (.int n), some (.ref ta)] ∧ Kp [p, l, F.fa] H H' ∧ H' p = some (.ins a.q0q F.S.dp (xdL (n + 1) (.ref F.f))) ∧ H' l = some (.lst (xs.set i.toNat (tf s1))) ∧ yH H' F.fa (k + 1), ?_, ?_⟩
   ·walk_at "w"
    refine ⟨ta, _, rfl, .inr (SqT.of hta), ?_⟩
    walk_at "w"
    refine ⟨fun _ => ?_, by walk_at "no"⟩
    walk_at "w"
    refine ⟨g, rfl, ht2.clo, ?_⟩
    walk_at "w"
    refine ⟨ta, _, 0, .int s1, rfl, rfl, SqT.of hta, rfl, ?_⟩
    walk_at "w"
    refine xmX T ht2 ?_
    walk_at "w"
    refine ⟨l, xs, i, _, rfl, rfl, hd2, xgk h0 hi, ?_⟩
    refine ⟨rfl, c2.wr (by simp), by rw [xn (Ne.symm nlp)]; exact hp2, xo, ?_⟩
    obtain ⟨zs, hz, hzl⟩ := hf2
    exact ⟨zs, by rw [xn nfl]; exact hz, hzl⟩
   ·rintro σ' H' ⟨rfl, q1, q2, q3, q4⟩
    walk_at "w"
    exact ⟨.int n, rfl, fin _ q1 q2 (.inr ⟨s1, q3⟩) q4⟩
theorem StF.nin {H : Hp} {F : FA} {cells : List Int} {notes : List (Option Int)} {k : Nat} (h : StF a H F cells notes k) {b : Addr} (e : H b = none) : b ∉ SF F := fun z => by
 rcases List.mem_cons.mp z with z | z
 ·obtain ⟨ys, h1, _⟩ := h.fl; rw [z, h1] at e; cases e
 ·obtain ⟨n, _, hS⟩ := h.st
  obtain ⟨u, q, _⟩ := hS.mu _ z
  rw [e] at q; cases q
theorem SF.st {F : FA} (B : Bs K F) {H : Hp} {cells : List Int} {notes : List (Option Int)} {n : Int} {fl : V} (h : uc a H F.S cells notes n fl) : F.S.st ∉ SF F := fun z => by
 rcases List.mem_cons.mp z with z | z
 ·exact B.nst z.symm
 ·exact h.nst z
theorem xg9 (T : Txt K mg a) : xA P w K mg base (CXE P w) 6 a.q0w a.vi ["self", "at", "sign"] (xcP K a) := by
 refine T.vp.okXC T.xc8 xdj (fun vs H Q E h => ?_) (fun A outer s H vs Q E hr h => ?_)
 ·obtain ⟨F, cells, notes, i, s, k, rfl, _⟩ := h; rfl
 ·obtain ⟨F, cells, notes, i, sg, k, rfl, B, hF, hk, hi, k1, k2⟩ := h
  have nd := xdj.nd
  refine ⟨_, (xk (yk (xaf (cv 0) T.xU T.ub (jG T) (hr.mono (by decide)) T.yx .nil xr (xa (cv 1) xf)))
  (xl (yk (xce ⟨rfl, rfl, rfl⟩ (xH (cv 0) rfl) T.xbk T.jH (xbL T) (hr.mono (by decide)) T.zX .nil (xa (xH (cv 0) rfl) (xa (cv 1) (xa (cv 2) (xa (xbs (c := q0t) (P := zB) (qs := jy) (fns := []) rfl T.q1h (q := "Store.write.<locals>.<lambda>") (by kernel_rfl) (.head _) (by kernel_rfl) (by kernel_rfl)) xf)))))))), ?_⟩
  obtain ⟨n, hn, hS⟩ := hF.st
  obtain ⟨S, hSe⟩ : ∃ S, S = F.S := ⟨_, rfl⟩
  walk_at "w"
  refine ⟨F.S.st, F.S.dx, _, rfl, hS.st, rfl, ?_⟩
  walk_at "w"
  refine ⟨F.S, cells, notes, n, i, .ref F.f, rfl, hS, hi, ?_⟩
  walk_at "w"
  refine ⟨F.S.st, _, F.S.dx, _, .ref F.S.p, rfl, hS.st, T.xU, T.q03, rfl, ?_⟩
  walk_at "w"
  refine ⟨F.S.p, F.S.dp, _, rfl, hS.p, rfl, ?_⟩
  walk_at "w"
  refine ⟨F.S.st, _, F.S.dx, _, .ref F.S.ca, rfl, hS.st, T.xU, T.q0J, rfl, ?_⟩
  walk_at "w"
  refine ⟨B.keep hF.kp B.Pw (fun z => z), [], rfl, (fun x v m => nomatch m), fun g H1 hg s1 hc => ?_⟩
  walk_at "w"
  have hF1 := hF.same s1
  have hS1 := hS.same s1
  refine ⟨F, F.S.ca, g, i, n, .int sg, _, k, _, rfl, B, hF1.kp, hS1.p, hn, hF1.fl, hk, by simp, hS1.ca, hi.1, by rw [List.length_map]; exact hi.2, .inl ⟨hc, rfl⟩, fun H2 q1 q2 q3 => ?_, fun hk2 d H2 q1 q2 q3 q6 q4 q5 => ?_⟩
  ·have q : Kp (SF F) H1 H2 := q1.mono (by simp)
   have q0 : Kp (SF F) H H2 := (Kp.of s1).trans q
   refine k1 H2 q0 ⟨⟨n + 1, by omega, q _ _ hS1.st (SF.st B hS1), by rw [q3, List.map_set], q1 _ _ hS1.na (by simp [Ne.symm hS.npn, Ne.symm hS.ne]), q2, hS.ne, hS.np⟩, hF.kp.trans q0, hF1.fl.kp q1 ?_⟩
   intro z
   refine B.nfa ?_
   simp only [List.mem_cons, List.not_mem_nil, or_false] at z ⊢
   rcases z with z | z <;> simp [z]
  ·have q : Kp (SF F) H1 H2 := q1.mono (by simp)
   have q0 : Kp (SF F) H H2 := (Kp.of s1).trans q
   have hna : H2 F.S.na = some (.lst (notes.map nV)) := q1 _ _ hS1.na (by
    simp only [List.mem_cons, List.not_mem_nil, or_false]
    rintro (z | z | z)
    ·exact hS.npn z.symm
    ·exact hS.ne z.symm
    ·exact B.nfa (by rw [← z]; simp))
   have hst := q _ _ hS1.st (SF.st B hS1)
   rcases q3 with z | ⟨t, z⟩
   ·exact k2 hk2 n d H2 cells notes q0 ⟨⟨n + 1, by omega, hst, z, hna, q2, hS.ne, hS.np⟩, hF.kp.trans q0, q6⟩ ⟨rfl, .inl rfl⟩ q5
   ·exact k2 hk2 n d H2 (cells.set i.toNat t) notes q0 ⟨⟨n + 1, by omega, hst, by rw [z, List.map_set], hna, q2, hS.ne, hS.np⟩, hF.kp.trans q0, q6⟩ ⟨rfl, .inr ⟨t, rfl⟩⟩ q5
theorem xeB (T : Txt K mg a) : xA P w K mg base (CXE P w) 6 a.q0j a.zD ["self", "at", "number"] (xg5 K a) := by
 refine T.zG.okXC T.xbu xby (fun vs H Q E h => ?_) (fun A outer s H vs Q E hr h => ?_)
 ·obtain ⟨F, cells, notes, i, m, k, rfl, _⟩ := h; rfl
 ·obtain ⟨F, cells, notes, i, m, k, rfl, B, hF, hk, h0, hi, k1, k2⟩ := h
  have nd := xby.nd
  refine ⟨_, (xl (yk (xce ⟨rfl, rfl, rfl⟩ (xH (cv 0) rfl) T.xbk T.jH (xbL T) (hr.mono (by decide)) T.zX .nil (xa (xH (cv 0) rfl) (xa (cv 1) (xa (cv 2) (xa (xbs (c := q0g) (P := yt) (qs := ur) (fns := []) rfl T.q0X (q := "Store.note_down.<locals>.<lambda>") (by kernel_rfl) (.head _) (by kernel_rfl) (by kernel_rfl)) xf))))))), ?_⟩
  obtain ⟨n, hn, hS⟩ := hF.st
  walk_at "w"
  refine ⟨F.S.st, _, F.S.dx, _, .ref F.S.p, rfl, hS.st, T.xU, T.q03, rfl, ?_⟩
  walk_at "w"
  refine ⟨F.S.p, F.S.dp, _, rfl, hS.p, rfl, ?_⟩
  walk_at "w"
  refine ⟨F.S.st, _, F.S.dx, _, .ref F.S.na, rfl, hS.st, T.xU, T.q0U, rfl, ?_⟩
  walk_at "w"
  refine ⟨B.keep hF.kp B.Pn (fun z => z), [], rfl, (fun x v m => nomatch m), fun g H1 hg s1 hc => ?_⟩
  walk_at "w"
  have hF1 := hF.same s1
  have hS1 := hS.same s1
  refine ⟨F, F.S.na, g, i, n, .int m, _, k, _, rfl, B, hF1.kp, hS1.p, hn, hF1.fl, hk, by simp, hS1.na, h0, by rw [List.length_map]; exact hi, .inr ⟨hc, rfl⟩, fun H2 q1 q2 q3 => ?_, fun hk2 d H2 q1 q2 q3 q6 q4 q5 => ?_⟩
  ·have q : Kp (SF F) H1 H2 := q1.mono (by simp)
   have q0 : Kp (SF F) H H2 := (Kp.of s1).trans q
   refine k1 H2 q0 ⟨⟨n + 1, by omega, q _ _ hS1.st (SF.st B hS1), q1 _ _ hS1.ca (by simp [Ne.symm hS.npc, hS.ne]), by rw [q3, List.map_set]; rfl, q2, hS.ne, hS.np⟩, hF.kp.trans q0, hF1.fl.kp q1 ?_⟩
   intro z
   refine B.nfa ?_
   simp only [List.mem_cons, List.not_mem_nil, or_false] at z ⊢
   rcases z with z | z <;> simp [z]
  ·have q : Kp (SF F) H1 H2 := q1.mono (by simp)
   have q0 : Kp (SF F) H H2 := (Kp.of s1).trans q
   have hca : H2 F.S.ca = some (.lst (cells.map V.int)) := q1 _ _ hS1.ca (by
    simp only [List.mem_cons, List.not_mem_nil, or_false]
    rintro (z | z | z)
    ·exact hS.npc z.symm
    ·exact hS.ne z
    ·exact B.nfa (by rw [← z]; simp))
   have hst := q _ _ hS1.st (SF.st B hS1)
   rcases q3 with z | ⟨t, z⟩
   ·exact k2 hk2 n d H2 cells notes q0 ⟨⟨n + 1, by omega, hst, hca, z, q2, hS.ne, hS.np⟩, hF.kp.trans q0, q6⟩ ⟨rfl, .inl rfl⟩ q5
   ·exact k2 hk2 n d H2 cells (notes.set i.toNat none) q0 ⟨⟨n + 1, by omega, hst, hca, by rw [z, List.map_set]; rfl, q2, hS.ne, hS.np⟩, hF.kp.trans q0, q6⟩ ⟨rfl, .inr rfl⟩ q5
theorem xhW (T : Txt K mg a) : xA P w K mg base (CXE P w) 7 a.q0G a.xaG ["self", "number"] (xg6 K a) := by
 refine T.jg.okX xd6 (fun vs H Q E h => ?_) (fun cdv A outer s H vs Q E hr h => ?_)
 ·obtain ⟨F, cells, notes, m, k, rfl, _⟩ := h; rfl
 ·obtain ⟨F, cells, notes, m, k, rfl, B, hF, hk, h2, k1, k2⟩ := h
  have nd := xd6.nd
  refine ⟨_, (xl (yk (xce ⟨rfl, rfl, rfl⟩ (cv 0) T.xU T.xbv (xeB T) (hr.mono (by decide)) T.uF .nil (xa (xp ye (cv 1) xh) (xa (cv 1) xf))))), ?_⟩
  obtain ⟨n, hn, hS⟩ := hF.st
  walk_at "w"
  refine ⟨F.S.st, F.S.dx, _, rfl, hS.st, rfl, ?_⟩
  walk_at "w"
  walk_at "ss"
  exact ⟨F, cells, notes, m % 2, m, k, rfl, B, hF, hk, by omega, by rw [h2]; omega, k1, k2⟩
def Sm : xm → Prop
 | .take to st c => to ≤ 100 ∧ st ≤ 100 ∧ c ≤ 9
 | .put to sg => to ≤ 100 ∧ sg.length ≤ 9
theorem vA {α β : Type} {F : α → β → Prop} {x : α} {y : β} : ∀ {l₁ : List α} {l₂ : List β}, Paired F l₁ l₂ → F x y → Paired F (l₁ ++ [x]) (l₂ ++ [y])
 | _, _, .nil, h => .cons h .nil
 | _, _, .cons r t, h => .cons r (vA t h)
def xeC (old new : Int) : xm → Prop
 | .take to st c => st + c ≤ old ∧ to + c ≤ new
 | .put to sg => to + sg.length ≤ new
def xmY (K : W.Frag) : Sp := fun vs H Q _ => ∃ old new cell : Int, vs = [.int old, .int new, .int cell] ∧ 0 ≤ old ∧ old ≤ 29 ∧ 0 ≤ new ∧ new ≤ 29 ∧
 ∀ (l : Addr) (ts : List Addr) (rs : List xm) (H' : Hp), xc H H' → H' l = some (.lst (ts.map V.ref)) → Paired (TupAt K H') ts rs → (∀ r ∈ rs, r.ok ∧ Sm r ∧ xeC old new r) → ts.length ≤ 29 → Tl old rs new → Q (.ref l) H'
theorem xmZ (T : Txt K mg a) : xA P w K mg base CX0 3 a.q1T a.xe8 ["_law_old", "_law_new", "_law_cell"] (xmY K) := by
 refine T.xb2.ok xiB (fun vs H Q E h => ?_) (fun cdv A outer s H vs Q E hr h => ?_)
 ·obtain ⟨old, new, cell, rfl, _⟩ := h; rfl
 ·obtain ⟨old, new, cell, rfl, ho0, ho, hn0, hn, q⟩ := h
  have nd := xiB.nd
  refine ⟨_, (xk (xC (i := 3) nd rfl (Or.inl rfl) (xv (xom T) (hr.mono (by decide)) (by rfl) T.xlQ T.xc9.kp T.xgs .nil xr (xa (cv 1) (xa (cv 2) xf))))
  (xk (xC (i := 4) nd rfl (Or.inl rfl) (xy zq (zk (xa (xp uB (xp ye (xv (vg T) (hr.mono (by decide)) (by rfl) T.vz T.zw.kp T.uf .nil xr (xa (cv 2) (xa xh xf))) xh) xh) (xa xh xf))) (zl xll (by rfl) T.q5k xlB (xa (jJ xau (xp ye (xv (vg T) (hr.mono (by decide)) (by rfl) T.vz T.zw.kp T.uf .nil xr (xa (cv 2) (xa xh xf))) xh) xh) xf)) (fun _ _ => rfl)))
  (xk (xC (i := 5) nd rfl (Or.inl rfl) (zk xf))
  (xk (yF PassesOwn.never rfl (xly (by rfl) T.q0K (xa xh (xa (xE xG (by rfl) T.q0V yv (xa (cv 3) xf)) xf))) (xM (i := 6) nd rfl (Or.inl rfl)) (xk (xC (i := 7) nd rfl (Or.inr rfl) (xv (vg T) (hr.mono (by decide)) (by rfl) T.vz T.zw.kp T.uf .nil xr (xa (cv 2) (xa (xp yc xh (cv 6)) xf))))
  (xk (xC (i := 8) nd rfl (Or.inr rfl) (xy zq (cv 3) (xp uB (cv 6) xh) (fun _ _ => rfl)))
  (xk (xC (i := 9) nd rfl (Or.inl rfl) (xp uB (xy zq (cv 3) (cv 6) (fun _ _ => rfl)) (cv 8)))
  (xk (xC (i := 10) nd rfl (Or.inl rfl) (xp yc (cv 8) (cv 4)))
  (xk (xav (xN (PW.pt (xca (xJ xau (xp ye (cv 7) xh) xh) (xbY (xJ xfP (cv 9) (cv 0))))) (xl (xC (i := 10) nd rfl (Or.inl rfl) (xp ye (xp xbo (cv 7) xh) (xp yc (xp uB (cv 0) (cv 9)) xh)))) xF))
  (xk (xav (xN (PW.pt (xca (xJ xau (xp ye (cv 7) xh) xh) (xbY (xJ xfP (xp yc (cv 8) (cv 9)) (cv 0))))) (xl (xC (i := 10) nd rfl (Or.inl rfl) (cv 8))) xF))
  (xl (xN (PW.pt (xca (xJ xfQ (xp ye (cv 7) xh) xh) (xca (xJ xfP xh (cv 10)) (xbY (xJ xfP (xp yc (cv 10) (cv 9)) (cv 0)))))) (xl (yk (xdu PySem.F.plainAttrs_list PySem.F.slot_list_append PySem.F.type_list_append uU (cv 5) (xa (uG (xa xas (xa (cv 8) (xa (cv 10) (xa (cv 9) xf))))) xf)))) (xl (yk (xdu PySem.F.plainAttrs_list PySem.F.slot_list_append PySem.F.type_list_append uU (cv 5) (xa (uG (xa xas (xa (cv 8) (xa (zl xbB (by rfl) T.q1z xa2 (xa (jo (uJ (cap := [7, 8]) (ys := ["_law_draw", "_law_to"]) rfl rfl rfl rfl rfl ⟨⟨rfl, rfl, .inl rfl⟩, ⟨⟨rfl, rfl, .inl rfl⟩, trivial⟩⟩ (by decide +kernel)) rfl (ug (by rfl) T.q0K (xa (cv 9) xf)) (fun _ _ _ _ => (xp uB (xp uB (xp uB (xeQ xeY xh) (cv 2)) (cv 0)) (xp xeW (xp ye (cv 1) (xp xeX xh xh)) xh))) (fun _ _ _ _ => uK)) xf)) xf)))) xf)))))))))))))
  (xl (xu (cv 5))))))), ?_⟩
  walk_at "w"
  refine ⟨_, _, rfl, hn0, hn, fun cl cs H1 s1 e1 hcut hc1 hc2 hcle hz0 hzn => ?_⟩
  walk_at "w"
  refine ⟨_, _, rfl, ?_⟩
  walk_at "w"
  walk_at "ss"
  intro p0 hp0
  generalize hUp0 : upd H1 p0 _ = H2
  have sH2 := xc.of_eq hp0 hUp0
  have ep0 := xq hUp0
  clear hUp0
  walk_at "w"
  refine ⟨_, _, rfl, ?_⟩
  walk_at "w"
  walk_at "ss"
  obtain ⟨sh, hsh, hs1⟩ : ∃ sh : Int, atI [V.int (mixed cell 77 % 15 - 7), V.int 0] (if decide (mixed cell 78 % 4 = 0) = true then (1 : Int) else 0) = some (.int sh) ∧ sh ≤ 10 := by
   have := Int.emod_lt_of_pos (mixed cell 77) (show (0 : Int) < 15 by decide)
   cases decide (mixed cell 78 % 4 = 0) with
   | true => exact ⟨0, rfl, by decide⟩
   | false => exact ⟨_, rfl, by omega⟩
  refine .inr ⟨_, rfl, ?_⟩
  walk_at "w"
  refine ⟨p0, _, _, .int sh, rfl, rfl, SqL.of ep0, hsh, ?_⟩
  walk_at "w"
  walk_at "ss"
  intro rl hrl
  generalize hUrl : upd H2 rl _ = H3
  have sH3 := xc.of_eq hrl hUrl
  have erl := xq hUrl
  clear hUrl
  walk_at "w"
  have sA : xc H H3 := s1.trans (sH2.trans sH3)
  have ecl : H3 cl = some (.lst (cs.map V.int)) := (sH2.trans sH3).at e1
  have hrl0 : H rl = none := (s1.trans sH2).back hrl
  refine ⟨cl, _, rfl, .inl (SqL.of ecl), ?_⟩
  walk_at "w"
  rw [List.length_map]
  have er : yo 1 (cs.length : Int) 1 = cs.length - 1 := by rw [yI]; omega
  rw [er]
  have ncr : cl ≠ rl := fun z => by rw [← z, sH2.at e1] at hrl; cases hrl
  refine xbq (fun i σ G => xc H G ∧ G cl = some (.lst (cs.map V.int)) ∧ ∃ (ts : List Addr) (rs : List xm) (x6 x7 x8 x9 x10 : Option V), σ = [some (.int old), some (.int new), some (.int cell), some (.ref cl), some (.int sh), some (.ref rl), x6, x7, x8, x9, x10] ∧ G rl = some (.lst (ts.map V.ref)) ∧ Paired (TupAt K G) ts rs ∧ (∀ r ∈ rs, r.ok ∧ Sm r ∧ xeC old new r) ∧ ts.length = i ∧ ∃ y, cs[i]? = some y ∧ Tl old rs y)
   ⟨sA, ecl, [], [], _, _, _, _, _, rfl, erl, .nil, (fun _ z => by cases z), rfl, 0, hz0, .nil⟩ (fun i σ G hi hP => ?_) (fun σ G hP => ?_)
  ·obtain ⟨sG, ecl', ts, rs, x6, x7, x8, x9, x10, rfl, erl', hts, hrs, htl, xx, hxx, hTl⟩ := hP
   have hi1 : i < cs.length := by omega
   have hi2 : i + 1 < cs.length := by omega
   obtain ⟨x, hx⟩ : ∃ x, cs[i]? = some x := ⟨_, List.getElem?_eq_getElem hi1⟩
   rw [hx] at hxx; have hxx := Option.some.inj hxx; subst hxx
   obtain ⟨y, hy⟩ : ∃ y, cs[i + 1]? = some y := ⟨_, List.getElem?_eq_getElem hi2⟩
   obtain ⟨c1, c2, c3⟩ := hcut i x y hx hy
   have hyn := hcle y (List.mem_of_getElem? hy)
   have a1 : atI (cs.map V.int) (1 + (i : Int) * 1 - 1) = some (.int x) := by
    rw [show 1 + (i : Int) * 1 - 1 = (i : Int) by omega]; exact xag (by rw [List.getElem?_map, hx]; rfl)
   have a2 : atI (cs.map V.int) (1 + (i : Int) * 1) = some (.int y) := by
    rw [show 1 + (i : Int) * 1 = ((i + 1 : Nat) : Int) by omega]; exact xag (by rw [List.getElem?_map, hy]; rfl)
   walk_at "w"
   refine ⟨_, _, rfl, ?_⟩
   walk_at "w"
   generalize mixed cell _ = draw
   refine ⟨cl, _, _, .int x, rfl, rfl, SqL.of ecl', a1, ?_⟩
   walk_at "w"
   refine ⟨cl, _, _, .int y, rfl, rfl, SqL.of ecl', a2, ?_⟩
   walk_at "w"
   refine ⟨fun σ' G' => G' = G ∧ ∃ st : Int, st ≤ 100 ∧ σ' = [some (.int old), some (.int new), some (.int cell), some (.ref cl), some (.int sh), some (.ref rl), some (.int (1 + (i : Int) * 1)), some (.int draw), some (.int x), some (.int (y - x)), some (.int st)], ?_, ?_⟩
   ·walk_at "w"
    walk_at "ss"
    refine ⟨fun e4 => ?_, fun e4 => ⟨by walk_at "no", fun _ => ⟨rfl, x + sh, by omega, rfl⟩⟩⟩
    walk_at "w"
    refine ⟨fun e5 => ?_, fun e5 => ⟨rfl, x + sh, by omega, rfl⟩⟩
    have h5 : y - x ≤ old := of_decide_eq_true e5
    walk_at "w"
    walk_at "ss"
    have b1 := Int.emod_lt_of_pos (draw / 4) (show 0 < old - (y - x) + 1 by omega)
    exact ⟨rfl, draw / 4 % (old - (y - x) + 1), by omega, rfl⟩
   rintro σ' G' ⟨rfl, st0, hst0, rfl⟩
   walk_at "w"
   refine ⟨fun σ' G2 => G2 = G' ∧ ∃ st : Int, st ≤ 100 ∧ σ' = [some (.int old), some (.int new), some (.int cell), some (.ref cl), some (.int sh), some (.ref rl), some (.int (1 + (i : Int) * 1)), some (.int draw), some (.int x), some (.int (y - x)), some (.int st)], ?_, ?_⟩
   ·walk_at "w"
    walk_at "ss"
    refine ⟨fun e4 => ?_, fun e4 => ⟨by walk_at "no", fun _ => ⟨rfl, st0, hst0, rfl⟩⟩⟩
    walk_at "w"
    refine ⟨fun e5 => ⟨rfl, x, by omega, rfl⟩, fun e5 => ⟨rfl, st0, hst0, rfl⟩⟩
   rintro σ' G2 ⟨rfl, st, hst, rfl⟩
   have hput : ∀ {G5 : Hp} {t : Addr} {sg : List Int}, xc G2 G5 → TupAt K G5 t (.put x sg) → sg ≠ [] → sg.length ≤ 9 → x + sg.length ≤ new → (∀ z ∈ sg, (z.natAbs : Int) < 10 ^ 60 ∧ z < 0) → sg.length = (y - x).toNat → ∀ G6, upd G5 rl (.lst (ts.map V.ref ++ [.ref t])) = G6 →
     xc H G6 ∧ G6 cl = some (.lst (cs.map V.int)) ∧ G6 rl = some (.lst ((ts ++ [t]).map V.ref)) ∧ Paired (TupAt K G6) (ts ++ [t]) (rs ++ [.put x sg]) ∧ (∀ r ∈ rs ++ [.put x sg], r.ok ∧ Sm r ∧ xeC old new r) ∧ Tl old (rs ++ [.put x sg]) y := fun {G5 t sg} sC hT hne hl9 hft hss hsl2 G6 hU => by
    have hrl5 := sC.at erl'
    refine ⟨xc.wr (sG.trans sC) hrl0 hU, by rw [← hU, xn ncr]; exact sC.at ecl', by rw [← hU, xo, List.map_append]; rfl, vA (L2.Paired.imp' (fun _ _ (z : TupAt K G2 _ _) => by rw [← hU]; exact (z.same sC).off hrl5) hts) (by rw [← hU]; exact hT.off hrl5), fun r hr => ?_, ?_⟩
    rotate_left
    ·have := Tl.snoc (n := y - x) hTl (r := .put x sg) ⟨⟨c1, hne, by omega, fun z hz => (hss z hz).1⟩, fun z hz => (hss z hz).2, trivial⟩ rfl (by show ((sg.length : Nat) : Int) = y - x; omega)
     rw [show x + (y - x) = y by omega] at this
     exact this
    rcases List.mem_append.mp hr with z | z
    ·exact hrs r z
    ·rw [List.mem_singleton.mp z]
     exact ⟨⟨c1, hne, by omega, fun z hz => (hss z hz).1⟩, ⟨by show x ≤ 100; omega, hl9⟩, hft⟩
   have htake : 0 ≤ st → st + (y - x) ≤ old → ∀ {G5 : Hp} {t : Addr}, xc G2 G5 → TupAt K G5 t (.take x st (y - x)) → ∀ G6, upd G5 rl (.lst (ts.map V.ref ++ [.ref t])) = G6 →
     xc H G6 ∧ G6 cl = some (.lst (cs.map V.int)) ∧ G6 rl = some (.lst ((ts ++ [t]).map V.ref)) ∧ Paired (TupAt K G6) (ts ++ [t]) (rs ++ [.take x st (y - x)]) ∧ (∀ r ∈ rs ++ [.take x st (y - x)], r.ok ∧ Sm r ∧ xeC old new r) ∧ Tl old (rs ++ [.take x st (y - x)]) y := fun h1 h2 {G5 t} sC hT G6 hU => by
    have hrl5 := sC.at erl'
    refine ⟨xc.wr (sG.trans sC) hrl0 hU, by rw [← hU, xn ncr]; exact sC.at ecl', by rw [← hU, xo, List.map_append]; rfl, vA (L2.Paired.imp' (fun _ _ (z : TupAt K G2 _ _) => by rw [← hU]; exact (z.same sC).off hrl5) hts) (by rw [← hU]; exact hT.off hrl5), fun r hr => ?_, ?_⟩
    rotate_left
    ·have := Tl.snoc (n := y - x) hTl (r := .take x st (y - x)) ⟨⟨c1, h1, by omega⟩, trivial, h2⟩ rfl (by show (((y - x).toNat : Nat) : Int) = y - x; omega)
     rw [show x + (y - x) = y by omega] at this
     exact this
    rcases List.mem_append.mp hr with z | z
    ·exact hrs r z
    ·rw [List.mem_singleton.mp z]
     exact ⟨⟨c1, h1, by omega⟩, ⟨by show x ≤ 100; omega, by show st ≤ 100; omega, by show y - x ≤ 9; omega⟩, by show st + (y - x) ≤ old; omega, by show x + (y - x) ≤ new; omega⟩
   walk_at "w"
   walk_at "ss"
   refine ⟨fun e4 => ?_, fun e4 => ?_⟩
   ·walk_at "w"
    refine ⟨fun e5 => ?_, fun e5 => ?_⟩
    ·have h5 : 0 ≤ st := of_decide_eq_true e5
     walk_at "w"
     refine ⟨fun e6 => ?_, fun e6 => ?_⟩
     ·have h6 : st + (y - x) ≤ old := of_decide_eq_true e6
      walk_at "w"
      refine ⟨.inl ⟨rfl, _, SqL.of erl'⟩, ?_⟩
      walk_at "w"
      walk_at "ss"
      intro t ht
      generalize hUt : upd G2 t _ = G3
      have sG3 := xc.of_eq ht hUt
      have et := xq hUt
      clear hUt
      walk_at "w"
      refine ⟨rl, _, _, rfl, rfl, sG3.at erl', by rw [List.length_map, sizeLine_eq]; omega, ?_⟩
      generalize hU : upd G3 rl _ = G4
      obtain ⟨k1, k2, k3, k4, k5, k6⟩ := htake h5 h6 sG3 et G4 hU
      exact ⟨k1, k2, ts ++ [t], _, _, _, _, _, _, rfl, k3, k4, k5, by simp [htl], y, hy, k6⟩
     ·walk_at "w"
      refine ⟨.inl ⟨rfl, _, SqL.of erl'⟩, ?_⟩
      walk_at "w"
      walk_at "ss"
      have er : yo 0 (y - x) 1 = (y - x).toNat := by rw [yI]; congr 1; omega
      rw [er]
      refine vX (fun i acc _ => ∃ sg : List Int, acc = sg.map V.int ∧ sg.length = i ∧ ∀ x ∈ sg, (x.natAbs : Int) < 10 ^ 60 ∧ x < 0) (by rw [sizeLine_eq]; omega) ⟨[], rfl, rfl, by simp⟩ (fun i acc H3 H3' hi s3 s3' hP R hR => ?_) (fun D acc H3 H3' hD hD3 s3 s3' hP hl hv => ?_)
      ·obtain ⟨sg, rfl, hsl, hss⟩ := hP
       walk_at "w"
       walk_at "ss"
       refine hR _ _ (xc.refl _) fun H6 _ _ => ⟨sg ++ [-1 - x - (0 + (i : Int) * 1) - draw % 10 ^ (6 : Int).toNat * 1000], by simp, by simp [hsl], fun z hz => ?_⟩
       rcases List.mem_append.mp hz with z1 | z1
       ·exact hss z z1
       ·rw [List.mem_singleton.mp z1]
        have d0 := Int.emod_nonneg draw (show (10 ^ (6 : Int).toNat : Int) ≠ 0 by decide)
        have d1 := Int.emod_lt_of_pos draw (show (0 : Int) < 10 ^ (6 : Int).toNat by decide)
        generalize draw % 10 ^ (6 : Int).toNat = dd at d0 d1
        have d2 : (10 ^ (6 : Int).toNat : Int) = 1000000 := by decide
        have d3 : (100000000000 : Int) < 10 ^ 60 := by decide
        omega
      ·obtain ⟨sg, rfl, hsl, hss⟩ := hP
       rw [List.length_map] at hl
       have sB : xc G2 H3' := s3.trans s3'
       walk_at "w"
       refine ⟨D, _, rfl, .inl ⟨SqL.of hv, ?_⟩⟩
       intro u hu
       generalize hUu : upd H3' u _ = H4
       have sH4 := xc.of_eq hu hUu
       have eu := xq hUu
       clear hUu
       walk_at "w"
       walk_at "ss"
       intro t ht
       generalize hUt : upd H4 t _ = H5
       have sH5 := xc.of_eq ht hUt
       have et := xq hUt
       clear hUt
       walk_at "w"
       have sC : xc G2 H5 := sB.trans (sH4.trans sH5)
       refine ⟨rl, _, _, rfl, rfl, sC.at erl', by rw [List.length_map, sizeLine_eq]; omega, ?_⟩
       generalize hU : upd H5 rl _ = H6
       obtain ⟨k1, k2, k3, k4, k5, k6⟩ := hput (sg := sg) sC ⟨u, et, sH5.at eu⟩ (fun z => by rw [z] at hl; simp at hl; omega) (by omega) (by omega) hss (by omega) H6 hU
       exact ⟨k1, k2, ts ++ [t], _, _, _, _, _, _, rfl, k3, k4, k5, by simp [htl], y, hy, k6⟩
    ·refine ⟨by walk_at "no", fun _ => ?_⟩
     walk_at "w"
     refine ⟨.inl ⟨rfl, _, SqL.of erl'⟩, ?_⟩
     walk_at "w"
     walk_at "ss"
     have er : yo 0 (y - x) 1 = (y - x).toNat := by rw [yI]; congr 1; omega
     rw [er]
     refine vX (fun i acc _ => ∃ sg : List Int, acc = sg.map V.int ∧ sg.length = i ∧ ∀ x ∈ sg, (x.natAbs : Int) < 10 ^ 60 ∧ x < 0) (by rw [sizeLine_eq]; omega) ⟨[], rfl, rfl, by simp⟩ (fun i acc H3 H3' hi s3 s3' hP R hR => ?_) (fun D acc H3 H3' hD hD3 s3 s3' hP hl hv => ?_)
     ·obtain ⟨sg, rfl, hsl, hss⟩ := hP
      walk_at "w"
      walk_at "ss"
      refine hR _ _ (xc.refl _) fun H6 _ _ => ⟨sg ++ [-1 - x - (0 + (i : Int) * 1) - draw % 10 ^ (6 : Int).toNat * 1000], by simp, by simp [hsl], fun z hz => ?_⟩
      rcases List.mem_append.mp hz with z1 | z1
      ·exact hss z z1
      ·rw [List.mem_singleton.mp z1]
       have d0 := Int.emod_nonneg draw (show (10 ^ (6 : Int).toNat : Int) ≠ 0 by decide)
       have d1 := Int.emod_lt_of_pos draw (show (0 : Int) < 10 ^ (6 : Int).toNat by decide)
       generalize draw % 10 ^ (6 : Int).toNat = dd at d0 d1
       have d2 : (10 ^ (6 : Int).toNat : Int) = 1000000 := by decide
       have d3 : (100000000000 : Int) < 10 ^ 60 := by decide
       omega
     ·obtain ⟨sg, rfl, hsl, hss⟩ := hP
      rw [List.length_map] at hl
      have sB : xc G2 H3' := s3.trans s3'
      walk_at "w"
      refine ⟨D, _, rfl, .inl ⟨SqL.of hv, ?_⟩⟩
      intro u hu
      generalize hUu : upd H3' u _ = H4
      have sH4 := xc.of_eq hu hUu
      have eu := xq hUu
      clear hUu
      walk_at "w"
      walk_at "ss"
      intro t ht
      generalize hUt : upd H4 t _ = H5
      have sH5 := xc.of_eq ht hUt
      have et := xq hUt
      clear hUt
      walk_at "w"
      have sC : xc G2 H5 := sB.trans (sH4.trans sH5)
      refine ⟨rl, _, _, rfl, rfl, sC.at erl', by rw [List.length_map, sizeLine_eq]; omega, ?_⟩
      generalize hU : upd H5 rl _ = H6
      obtain ⟨k1, k2, k3, k4, k5, k6⟩ := hput (sg := sg) sC ⟨u, et, sH5.at eu⟩ (fun z => by rw [z] at hl; simp at hl; omega) (by omega) (by omega) hss (by omega) H6 hU
      exact ⟨k1, k2, ts ++ [t], _, _, _, _, _, _, rfl, k3, k4, k5, by simp [htl], y, hy, k6⟩
   ·refine ⟨by walk_at "no", fun _ => ?_⟩
    walk_at "w"
    refine ⟨.inl ⟨rfl, _, SqL.of erl'⟩, ?_⟩
    walk_at "w"
    walk_at "ss"
    have er : yo 0 (y - x) 1 = (y - x).toNat := by rw [yI]; congr 1; omega
    rw [er]
    refine vX (fun i acc _ => ∃ sg : List Int, acc = sg.map V.int ∧ sg.length = i ∧ ∀ x ∈ sg, (x.natAbs : Int) < 10 ^ 60 ∧ x < 0) (by rw [sizeLine_eq]; omega) ⟨[], rfl, rfl, by simp⟩ (fun i acc H3 H3' hi s3 s3' hP R hR => ?_) (fun D acc H3 H3' hD hD3 s3 s3' hP hl hv => ?_)
    ·obtain ⟨sg, rfl, hsl, hss⟩ := hP
     walk_at "w"
     walk_at "ss"
     refine hR _ _ (xc.refl _) fun H6 _ _ => ⟨sg ++ [-1 - x - (0 + (i : Int) * 1) - draw % 10 ^ (6 : Int).toNat * 1000], by simp, by simp [hsl], fun z hz => ?_⟩
     rcases List.mem_append.mp hz with z1 | z1
     ·exact hss z z1
     ·rw [List.mem_singleton.mp z1]
      have d0 := Int.emod_nonneg draw (show (10 ^ (6 : Int).toNat : Int) ≠ 0 by decide)
      have d1 := Int.emod_lt_of_pos draw (show (0 : Int) < 10 ^ (6 : Int).toNat by decide)
      generalize draw % 10 ^ (6 : Int).toNat = dd at d0 d1
      have d2 : (10 ^ (6 : Int).toNat : Int) = 1000000 := by decide
      have d3 : (100000000000 : Int) < 10 ^ 60 := by decide
      omega
    ·obtain ⟨sg, rfl, hsl, hss⟩ := hP
     rw [List.length_map] at hl
     have sB : xc G2 H3' := s3.trans s3'
     walk_at "w"
     refine ⟨D, _, rfl, .inl ⟨SqL.of hv, ?_⟩⟩
     intro u hu
     generalize hUu : upd H3' u _ = H4
     have sH4 := xc.of_eq hu hUu
     have eu := xq hUu
     clear hUu
     walk_at "w"
     walk_at "ss"
     intro t ht
     generalize hUt : upd H4 t _ = H5
     have sH5 := xc.of_eq ht hUt
     have et := xq hUt
     clear hUt
     walk_at "w"
     have sC : xc G2 H5 := sB.trans (sH4.trans sH5)
     refine ⟨rl, _, _, rfl, rfl, sC.at erl', by rw [List.length_map, sizeLine_eq]; omega, ?_⟩
     generalize hU : upd H5 rl _ = H6
     obtain ⟨k1, k2, k3, k4, k5, k6⟩ := hput (sg := sg) sC ⟨u, et, sH5.at eu⟩ (fun z => by rw [z] at hl; simp at hl; omega) (by omega) (by omega) hss (by omega) H6 hU
     exact ⟨k1, k2, ts ++ [t], _, _, _, _, _, _, rfl, k3, k4, k5, by simp [htl], y, hy, k6⟩
  ·obtain ⟨sG, ecl', ts, rs, x6, x7, x8, x9, x10, rfl, erl', hts, hrs, htl, y, hy, hTl⟩ := hP
   rw [hzn] at hy; cases hy
   exact q rl ts rs G sG erl' hts hrs (by omega) hTl
noncomputable def xae (H : Hp) (v : V) : Bool := @decide (∃ (t : Addr) (to st c : Int), v = .ref t ∧ H t = some (.tup [.str "take", .int to, .int st, .int c])) (Classical.propDecidable _)
theorem xl1 {H : Hp} {t : Addr} {to st c : Int} (h : H t = some (.tup [.str "take", .int to, .int st, .int c])) : xae H (.ref t) = true := by
 unfold xae; exact @decide_eq_true _ (Classical.propDecidable _) ⟨t, to, st, c, rfl, h⟩
theorem xm0 {H : Hp} {t u : Addr} {to : Int} (h : H t = some (.tup [.str "put", .int to, .ref u])) : xae H (.ref t) = false := by
 unfold xae
 refine @decide_eq_false _ (Classical.propDecidable _) ?_
 rintro ⟨t', to', st, c, e, h'⟩
 cases e
 rw [h] at h'
 cases h'
theorem xm1 {H : Hp} {t : Addr} (h : xae H (.ref t) = true) : ∃ to st c : Int, H t = some (.tup [.str "take", .int to, .int st, .int c]) := by
 unfold xae at h
 obtain ⟨t', to, st, c, e, h'⟩ := @of_decide_eq_true _ (Classical.propDecidable _) h
 cases e
 exact ⟨to, st, c, h'⟩
theorem Paired.nth {α β : Type} {F : α → β → Prop} : ∀ {l₁ : List α} {l₂ : List β} {i : Nat} {x : α}, Paired F l₁ l₂ → l₁[i]? = some x → ∃ y, l₂[i]? = some y ∧ F x y
 | _, _, _, _, .nil, e => by simp at e
 | _, _, 0, _, .cons r _, e => by simp at e; subst e; exact ⟨_, rfl, r⟩
 | _, _, i + 1, _, .cons _ t, e => by
  obtain ⟨y, h1, h2⟩ := Paired.nth (i := i) t (by simpa using e)
  exact ⟨y, by simpa using h1, h2⟩
theorem Paired.mem {α β : Type} {F : α → β → Prop} {l₁ : List α} {l₂ : List β} {x : α} (h : Paired F l₁ l₂) (hx : x ∈ l₁) : ∃ y ∈ l₂, F x y := by
 obtain ⟨i, hi⟩ := List.mem_iff_getElem?.mp hx
 obtain ⟨y, h1, h2⟩ := Paired.nth h hi
 exact ⟨y, List.mem_of_getElem? h1, h2⟩
def xkX (K : W.Frag) : Sp := fun vs H Q _ => ∃ (l : Addr) (cell : Int) (ts : List Addr) (rs : List xm), vs = [.ref l, .int cell] ∧ H l = some (.lst (ts.map V.ref)) ∧ Paired (TupAt K H) ts rs ∧ ts.length ≤ 29 ∧
 ∀ (l' : Addr) (us : List Addr) (H' : Hp), xc H H' → H' l' = some (.lst (us.map V.ref)) → us.Perm ts → Q (.ref l') H'
theorem xkY (T : Txt K mg a) : xA P w K mg base CX0 2 a.q1p a.xcC ["_law_rows", "_law_cell"] (xkX K) := by
 refine T.xam.ok xgz (fun vs H Q E h => ?_) (fun cdv A outer s H vs Q E hr h => ?_)
 ·obtain ⟨l, cell, ts, rs, rfl, _⟩ := h; rfl
 ·obtain ⟨l, cell, ts, rs, rfl, hl, hp, htl, q⟩ := h
  have nd := xgz.nd
  refine ⟨_, (xk (xbN (i := 2) (uJ (cap := []) (ys := []) rfl rfl rfl rfl rfl trivial (by decide +kernel)) rfl nd rfl rfl (zo (cv 0)) (fun _ _ _ _ => (cv 0)) (fun _ _ _ _ => (xgU (xJ xic (xy (xjM (K := K) rfl) (cv 0) xh (fun _ _ => rfl)) xas))))
  (xk (xbN (i := 3) (uJ (cap := []) (ys := []) rfl rfl rfl rfl rfl trivial (by decide +kernel)) rfl nd rfl rfl (zo (cv 0)) (fun _ _ _ _ => (cv 0)) (fun _ _ _ _ => (xgU (xJ xic (xy (xjM (K := K) rfl) (cv 0) xh (fun _ _ => rfl)) xas))))
  (xk (xC (i := 4) nd rfl (Or.inl rfl) (xp ye (xv (vg T) (hr.mono (by decide)) (by rfl) T.vz T.zw.kp T.uf .nil xr (xa (cv 1) (xa xh xf))) xh))
  (xk (xav (xN (PW.pt (xca (xJ xfQ (xE xG (by rfl) T.q0V yv (xa (cv 2) xf)) xh) (xbY (xJ xfQ (xy xD (xy zq (cv 2) xh (fun _ _ => rfl)) xh (fun _ _ => rfl)) (xy xD (xy zq (cv 2) xh (fun _ _ => rfl)) xh (fun _ _ => rfl)))))) (xl (xC (i := 2) nd rfl (Or.inl rfl) (xjN (cv 2) (xbZ (xeQ xeY xh))))) xF))
  (xk (xav (xN (xJ xau (cv 4) xh) (xl (xC (i := 2) nd rfl (Or.inl rfl) (xjN (cv 2) (xbZ (xeQ xeY xh))))) xF))
  (xk (xN (xJ xau (cv 4) xh) (xl (xu (xp xeg (cv 3) (cv 2)))) xF)
  (xk (xN (xJ xau (cv 4) xh) (xk (xC (i := 5) nd rfl (Or.inl rfl) (xE xit (by rfl) T.q2U xlA (xa (jo (uJ (cap := [1]) (ys := ["_law_cell"]) rfl rfl rfl rfl rfl ⟨⟨rfl, rfl, .inl rfl⟩, trivial⟩ (by decide +kernel)) rfl (ug (by rfl) T.q0K (xa (xE xG (by rfl) T.q0V yv (xa (cv 0) xf)) xf)) (fun _ _ _ _ => (uG (xa (xv (vg T) (hr.mono (by decide)) (by rfl) T.vz T.zw.kp T.uf .nil xr (xa (cv 1) (xa (xp yc xh (cv 0)) xf))) (xa (cv 0) xf)))) (fun _ _ _ _ => uK)) xf)))
  (xl (xu (xmD (xnZ (cap := [0]) (ys := ["_law_rows"]) rfl rfl rfl rfl rfl rfl ⟨⟨rfl, rfl, .inl rfl⟩, trivial⟩ (by decide +kernel)) rfl (zo (cv 5)) (fun _ _ _ _ => (xy (xmE (K := K) rfl) (cv 2) (cv 1) (fun _ _ => rfl))) (fun _ _ _ _ => uK))))) xF)
  (xl (xu (xp xeg (cv 2) (cv 3))))))))))), ?_⟩
  have hsz : (ts.map V.ref).length < sizeLine := by rw [List.length_map, sizeLine_eq]; omega
  have word : ∀ {v : V} {G : Hp}, v ∈ ts.map V.ref → xc H G → ∃ t, v = .ref t ∧ ((∃ to st c : Int, G t = some (.tup [.str "take", .int to, .int st, .int c]) ∧ xae H v = true) ∨ ∃ (to : Int) (u : Addr), G t = some (.tup [.str "put", .int to, .ref u]) ∧ xae H v = false) := fun {v G} hv sG => by
   obtain ⟨t, ht, rfl⟩ := List.mem_map.mp hv
   obtain ⟨r, _, hT⟩ := Paired.mem hp ht
   refine ⟨t, rfl, ?_⟩
   cases r with
   | take to st c => exact .inl ⟨to, st, c, sG.at hT, xl1 hT⟩
   | put to sg => obtain ⟨u, h1, h2⟩ := hT; exact .inr ⟨to, u, sG.at h1, xm0 h1⟩
  walk_at "w"
  refine ⟨l, rfl, ⟨_, SqL.of hl⟩, ?_⟩
  refine xdC (fun v => xae H v) id (SqL.of hl) hsz (fun v G5 hv s5 R hR => ?_) (fun v G5 hv _ s5 R hR => ?_) (fun D5 G5 hD5 s5 e5 => ?_)
  ·obtain ⟨t, rfl, ⟨to, st, c, h1, h2⟩ | ⟨to, u, h1, h2⟩⟩ := word hv s5
   ·walk_at "w"
    refine ⟨t, _, _, .str "take", rfl, rfl, SqT.of h1, rfl, ?_⟩
    have := hR G5 (xc.refl _)
    rw [h2] at this
    exact this
   ·walk_at "w"
    refine ⟨t, _, _, .str "put", rfl, rfl, SqT.of h1, rfl, ?_⟩
    have := hR G5 (xc.refl _)
    rw [h2] at this
    exact this
  ·exact hR _ (xc.refl _)
  have e5 : G5 D5 = some (.lst ((ts.filter fun t => xae H (.ref t)).map V.ref)) := by rw [e5, List.map_id, List.filter_map]; rfl
  obtain ⟨tk, htk⟩ : ∃ tk, tk = ts.filter fun t => xae H (.ref t) := ⟨_, rfl⟩
  rw [← htk] at e5
  have tk1 : ∀ u ∈ tk, u ∈ ts ∧ xae H (.ref u) = true := fun u hu => by rw [htk] at hu; exact List.mem_filter.mp hu
  have tk2 : tk.length ≤ 29 := by rw [htk]; exact Nat.le_trans (List.length_filter_le _ _) htl
  walk_at "w"
  refine ⟨l, rfl, ⟨_, SqL.of (s5.at hl)⟩, ?_⟩
  refine xdC (fun v => !xae H v) id (SqL.of (s5.at hl)) hsz (fun v G6 hv s6 R hR => ?_) (fun v G6 hv _ s6 R hR => ?_) (fun D6 G6 hD6 s6 e6 => ?_)
  ·obtain ⟨t, rfl, ⟨to, st, c, h1, h2⟩ | ⟨to, u, h1, h2⟩⟩ := word hv (s5.trans s6)
   ·walk_at "w"
    refine ⟨t, _, _, .str "take", rfl, rfl, SqT.of h1, rfl, ?_⟩
    have := hR G6 (xc.refl _)
    rw [h2] at this
    exact this
   ·walk_at "w"
    refine ⟨t, _, _, .str "put", rfl, rfl, SqT.of h1, rfl, ?_⟩
    have := hR G6 (xc.refl _)
    rw [h2] at this
    exact this
  ·exact hR _ (xc.refl _)
  have e6 : G6 D6 = some (.lst ((ts.filter fun t => !xae H (.ref t)).map V.ref)) := by rw [e6, List.map_id, List.filter_map]; rfl
  obtain ⟨pu, hpu⟩ : ∃ pu, pu = ts.filter fun t => !xae H (.ref t) := ⟨_, rfl⟩
  rw [← hpu] at e6
  have pu1 : ∀ u ∈ pu, u ∈ ts := fun u hu => by rw [hpu] at hu; exact (List.mem_filter.mp hu).1
  have pu2 : pu.length ≤ 29 := by rw [hpu]; exact Nat.le_trans (List.length_filter_le _ _) htl
  have hpt : (tk ++ pu).Perm ts := by rw [htk, hpu]; exact List.filter_append_perm _ ts
  clear hpu htk pu1
  have sA : xc H G6 := s5.trans s6
  have e5 := s6.at e5
  walk_at "w"
  refine ⟨_, _, rfl, ?_⟩
  walk_at "w"
  walk_at "ss"
  generalize mixed cell 112 = mx
  have hrest : True := trivial
  refine ⟨fun σ' G' => xc G6 G' ∧ ∃ (lt : Addr) (tk' : List Addr), σ' = [some (.ref l), some (.int cell), some (.ref lt), some (.ref D6), some (.int (mx % 8)), none] ∧ G' lt = some (.lst (tk'.map V.ref)) ∧ tk'.Perm tk, ?_, ?_⟩
  ·walk_at "w"
   refine ⟨D5, _, rfl, .inl (SqL.of e5), ?_⟩
   walk_at "w"
   refine ⟨fun e1 => ?_, fun e1 => ⟨by walk_at "no", fun _ => ⟨xc.refl _, D5, tk, rfl, e5, .refl _⟩⟩⟩
   have h1 : 0 < tk.length := by have := of_decide_eq_true e1; rw [List.length_map] at this; omega
   have hx0 : tk[0]? = some tk[0] := List.getElem?_eq_getElem h1
   obtain ⟨to, st, c, hH⟩ := xm1 (tk1 _ (List.mem_of_getElem? hx0)).2
   have a0 : atI (tk.map V.ref) 0 = some (.ref tk[0]) := xag (j := 0) (by rw [List.getElem?_map, hx0]; rfl)
   have hG := sA.at hH
   walk_at "w"
   refine ⟨D5, _, _, _, rfl, rfl, SqL.of e5, a0, ?_⟩
   walk_at "w"
   refine ⟨_, _, _, .int to, rfl, rfl, SqT.of hG, rfl, ?_⟩
   walk_at "w"
   refine ⟨D5, _, _, _, rfl, rfl, SqL.of e5, a0, ?_⟩
   walk_at "w"
   refine ⟨_, _, _, .int st, rfl, rfl, SqT.of hG, rfl, ?_⟩
   walk_at "w"
   refine ⟨fun e2 => ?_, fun e2 => ⟨xc.refl _, D5, tk, rfl, e5, .refl _⟩⟩
   walk_at "w"
   refine ⟨_, rfl, ?_⟩
   walk_at "w"
   refine ⟨D5, _, rfl, rfl, SqL.of e5, ?_⟩
   intro lt hlt
   generalize hUlt : upd G6 lt _ = G7
   have sG7 := xc.of_eq hlt hUlt
   have elt := xq hUlt
   clear hUlt
   walk_at "w"
   exact ⟨sG7, lt, tk.reverse, rfl, by rw [elt, ← List.map_reverse], List.reverse_perm _⟩
  rintro σ' G7 ⟨s7, lt, tk', rfl, elt, tk1'⟩
  clear e5 tk1
  walk_at "w"
  refine ⟨fun σ' G' => xc G7 G' ∧ ∃ (lt : Addr) (tk' : List Addr), σ' = [some (.ref l), some (.int cell), some (.ref lt), some (.ref D6), some (.int (mx % 8)), none] ∧ G' lt = some (.lst (tk'.map V.ref)) ∧ tk'.Perm tk, ?_, ?_⟩
  ·walk_at "w"
   refine ⟨fun e2 => ?_, fun e2 => ⟨xc.refl _, lt, tk', rfl, elt, tk1'⟩⟩
   walk_at "w"
   refine ⟨_, rfl, ?_⟩
   walk_at "w"
   refine ⟨lt, _, rfl, rfl, SqL.of elt, ?_⟩
   intro lt2 hlt2
   generalize hUlt2 : upd G7 lt2 _ = G8
   have sG8 := xc.of_eq hlt2 hUlt2
   have elt2 := xq hUlt2
   clear hUlt2
   walk_at "w"
   exact ⟨sG8, lt2, tk'.reverse, rfl, by rw [elt2, ← List.map_reverse], (List.reverse_perm _).trans tk1'⟩
  clear elt tk1' lt tk'
  rintro σ' G8 ⟨s8, lt, tk', rfl, elt, tk1'⟩
  have tk2' : tk'.length ≤ 29 := by rw [tk1'.length_eq]; exact tk2
  have sB : xc H G8 := sA.trans (s7.trans s8)
  have e6 := (s7.trans s8).at e6
  walk_at "w"
  refine ⟨fun e2 => ?_, fun e2 => ?_⟩
  ·walk_at "w"
   refine ⟨D6, lt, _, _, rfl, rfl, e6, elt, by rw [List.length_map, List.length_map, sizeLine_eq]; omega, ?_⟩
   intro z hz
   generalize hUz : upd G8 z _ = G9
   have sG9 := xc.of_eq hz hUz
   have ez := xq hUz
   clear hUz
   walk_at "w"
   exact q z (pu ++ tk') G9 (sB.trans sG9) (by rw [ez, List.map_append]) ((List.perm_append_comm.trans (tk1'.append_right pu)).trans hpt)
  walk_at "w"
  refine ⟨fun e3 => ?_, fun e3 => ?_⟩
  ·walk_at "w"
   refine ⟨l, _, rfl, .inl (SqL.of (sB.at hl)), ?_⟩
   walk_at "w"
   rw [List.length_map]
   have er : yo 0 (ts.length : Int) 1 = ts.length := by rw [yI]; omega
   rw [er]
   refine vX (fun i acc G => ∃ (us : List Addr) (ps : List (Int × Int)), acc = us.map V.ref ∧ Paired (xen G) us ps ∧ ps.length = i ∧ ∀ (k : Nat) (x : Int × Int), ps[k]? = some x → x.2 = k) (by rw [sizeLine_eq]; omega) ⟨[], [], rfl, .nil, rfl, fun k x h => by simp at h⟩ (fun i acc H3 H3' hi s3 s3' hP R hR => ?_) (fun D acc H9 H9' hD hD3 s9 s9' hP hl9 hv => ?_)
   ·obtain ⟨us, ps, rfl, hpr, hpl, hpk⟩ := hP
    walk_at "w"
    refine ⟨_, _, rfl, ?_⟩
    walk_at "w"
    walk_at "ss"
    intro t ht
    refine hR _ _ (xc.new ht) fun H6 sx kx => ⟨us ++ [t], ps ++ [(mixed cell (80 + (0 + (i : Int) * 1)), 0 + (i : Int) * 1)], by simp, vA (L2.Paired.imp' (fun _ _ (z : xen H3 _ _) => sx.at z) hpr) (kx t _ (.inl ht) xo), by simp [hpl], fun k x hk => ?_⟩
    by_cases e : k < ps.length
    ·rw [List.getElem?_append_left e] at hk; exact hpk k x hk
    ·rw [List.getElem?_append_right (by omega)] at hk
     have hk0 : k = i := by
      have := (List.getElem?_eq_some_iff.mp hk).1
      simp at this; omega
     rw [hk0, hpl, Nat.sub_self] at hk
     simp at hk
     rw [← hk, hk0]
   ·obtain ⟨us, ps, rfl, hpr, hpl, hpk⟩ := hP
    have hpr' := L2.Paired.imp' (fun _ _ (z : xen H9 _ _) => s9'.at z) hpr
    have hul : us.length = ps.length := hpr.length
    walk_at "w"
    refine ⟨D, us, ps, rfl, SqL.of hv, hpr', ?_, by omega, fun l2 us2 hperm hl2 => ?_⟩
    ·refine List.pairwise_iff_getElem.mpr fun i j hi hj hij e => ?_
     have h1 := hpk i _ (List.getElem?_eq_getElem hi)
     have h2 := hpk j _ (List.getElem?_eq_getElem hj)
     rw [e] at h1
     omega
    generalize hU : upd H9' l2 _ = G10
    have s10 := xc.of_eq hl2 hU
    have e10 := xq hU
    clear hU
    have sC : xc H G10 := sB.trans (s9.trans (s9'.trans s10))
    walk_at "w"
    refine ⟨l2, rfl, ⟨_, SqL.of e10⟩, ?_⟩
    obtain ⟨g, hgdef⟩ : ∃ g : Addr → Addr, g = fun T => match G10 T with | some (.tup [_, .int k]) => ts.getD k.toNat 0 | _ => 0 := ⟨_, rfl⟩
    have hg : ∀ T ∈ us2, ∃ (k : Nat) (m : Int) (hk : k < ts.length), G10 T = some (.tup [.int m, .int k]) ∧ g T = ts[k] := fun T hT => by
     obtain ⟨i, hi⟩ := List.mem_iff_getElem?.mp (hperm.mem_iff.mp hT)
     obtain ⟨x, hx, hP⟩ := Paired.nth hpr' hi
     have hk := hpk i x hx
     have hil := (List.getElem?_eq_some_iff.mp hx).1
     have hG : G10 T = some (.tup [.int x.1, .int (i : Nat)]) := by rw [← hk]; exact s10.at hP
     refine ⟨i, x.1, by omega, hG, ?_⟩
     rw [hgdef]
     show (match G10 T with | some (.tup [_, .int k]) => ts.getD k.toNat 0 | _ => 0) = _
     rw [hG]
     have hlt : i < ts.length := by omega
     simp [hlt]
    refine xje (fun v => match v with | .ref T => .ref (g T) | v => v) (SqL.of e10) (by rw [List.length_map, hperm.length_eq, sizeLine_eq]; omega) (fun x hx => ?_) (fun D2 G11 hD2 s11 e11 => ?_)
    ·obtain ⟨T', hT, rfl⟩ := List.mem_map.mp hx
     obtain ⟨k, m, hk, hG, hgT⟩ := hg T' hT
     refine ⟨T', _, _, rfl, SqT.of hG, fun H3 s3 R hR => ?_⟩
     walk_at "w"
     refine ⟨l, _, _, .ref ts[k], rfl, rfl, SqL.of ((sC.trans s3).at hl), xag (by rw [List.getElem?_map, List.getElem?_eq_getElem hk]; rfl), ?_⟩
     have := hR H3 (xc.refl _)
     rw [← hgT]
     exact this
    ·refine q D2 (us2.map g) G11 (sC.trans s11) (by rw [e11, List.map_map, List.map_map]; rfl) (by
     have hug : us.map g = ts := by
      apply List.ext_getElem?
      intro i
      rw [List.getElem?_map]
      by_cases hi : i < us.length
      ·rw [List.getElem?_eq_getElem hi]
       obtain ⟨x, hx, hP⟩ := Paired.nth hpr' (List.getElem?_eq_getElem hi)
       have hk := hpk i x hx
       have hG : G10 us[i] = some (.tup [.int x.1, .int (i : Nat)]) := by rw [← hk]; exact s10.at hP
       have hlt : i < ts.length := by omega
       rw [hgdef]
       show some (match G10 us[i] with | some (.tup [_, .int k]) => ts.getD k.toNat 0 | _ => 0) = _
       rw [hG]
       simp [hlt]
      ·rw [List.getElem?_eq_none (by omega), List.getElem?_eq_none (by omega)]; rfl
     have := hperm.map g
     rw [hug] at this
     exact this)
  walk_at "w"
  refine ⟨lt, D6, _, _, rfl, rfl, elt, e6, by rw [List.length_map, List.length_map, sizeLine_eq]; omega, ?_⟩
  intro z hz
  generalize hUz : upd G8 z _ = G9
  have sG9 := xc.of_eq hz hUz
  have ez := xq hUz
  clear hUz
  walk_at "w"
  exact q z (tk' ++ pu) G9 (sB.trans sG9) (by rw [ez, List.map_append]) ((tk1'.append_right pu).trans hpt)
def GT (K : W.Frag) (H : Hp) (u : Addr) (r : xm) : Prop := TupAt K H u r ∧ r.ok ∧ Sm r
def xm2 (K : W.Frag) : Sp := fun vs H Q _ => ∃ (l : Addr) (ns : List Int), vs = [.ref l] ∧ SqL K H l (ns.map V.int) ∧
 ∀ (p tt : Addr) (us : List Addr) (rs : List xm) (old new : Int) (H' : Hp), xc H H' → H' p = some (.tup [.int old, .int new, .ref tt]) → H' tt = some (.tup (us.map V.ref)) → Paired (GT K H') us rs → us.length ≤ 58 → (∀ r ∈ rs, xeC old new r) → (∃ rs0, rs.Perm rs0 ∧ Tl old rs0 new) → 0 ≤ old → old ≤ 29 → 0 ≤ new → new ≤ 29 → Q (.ref p) H'
theorem xjo {α β : Type} {F : α → β → Prop} {l₁ l₁' : List α} (h : l₁'.Perm l₁) : ∀ {l₂ : List β}, Paired F l₁ l₂ → ∃ l₂', Paired F l₁' l₂' ∧ l₂'.Perm l₂ := by
 induction h with
 | nil => intro l₂ hp; exact ⟨l₂, hp, .refl _⟩
 | cons x _ ih =>
  intro l₂ hp
  cases hp with
  | cons h t =>
   obtain ⟨l', h1, h2⟩ := ih t
   exact ⟨_ :: l', .cons h h1, h2.cons _⟩
 | swap x y l =>
  intro l₂ hp
  cases hp with
  | cons h t => cases t with
   | cons h' t' => exact ⟨_, .cons h' (.cons h t'), .swap _ _ _⟩
 | trans _ _ ih1 ih2 =>
  intro l₂ hp
  obtain ⟨m, h1, h2⟩ := ih2 hp
  obtain ⟨m', h3, h4⟩ := ih1 h1
  exact ⟨m', h3, h4.trans h2⟩
theorem xgE {α β : Type} {F G : α → β → Prop} {p : β → Prop} (h : ∀ x y, F x y → p y → G x y) : ∀ {l₁ : List α} {l₂ : List β}, Paired F l₁ l₂ → (∀ y ∈ l₂, p y) → Paired G l₁ l₂
 | _, _, .nil, _ => .nil
 | _, _, .cons a t, k => .cons (h _ _ a (k _ List.mem_cons_self)) (xgE h t fun y hy => k y (List.mem_cons_of_mem _ hy))
theorem Paired.mem2 {α β : Type} {F : α → β → Prop} : ∀ {l₁ : List α} {l₂ : List β} {y : β}, Paired F l₁ l₂ → y ∈ l₂ → ∃ x ∈ l₁, F x y
 | _, _, _, .cons h t, m => by
  rcases List.mem_cons.mp m with rfl | m
  ·exact ⟨_, List.mem_cons_self, h⟩
  ·obtain ⟨x, h1, h2⟩ := Paired.mem2 t m
   exact ⟨x, List.mem_cons_of_mem _ h1, h2⟩
theorem xm3 (T : Txt K mg a) : xA P w K mg base CX0 4 a.q1U a.xe9 ["_law_script"] (xm2 K) := by
 refine T.xb3.ok xiC (fun vs H Q E h => ?_) (fun cdv A outer s H vs Q E hr h => ?_)
 ·obtain ⟨l, ns, rfl, _⟩ := h; rfl
 ·obtain ⟨l, ns, rfl, hl, q⟩ := h
  have nd := xiC.nd
  refine ⟨_, (xk (xC (i := 1) nd rfl (Or.inl rfl) (xp ye (xv (uw T) (hr.mono (by decide)) (by rfl) T.uv T.yG.kp T.zm .nil xr (xa (cv 0) (xa xh xf))) xh))
  (xk (xC (i := 2) nd rfl (Or.inl rfl) (xp ye (xp xbo (xv (uw T) (hr.mono (by decide)) (by rfl) T.uv T.yG.kp T.zm .nil xr (xa (cv 0) (xa xh xf))) xh) xh))
  (xk (xC (i := 3) nd rfl (Or.inl rfl) (xv (xkY T) (hr.mono (by decide)) (by rfl) T.xhD T.xam.kp T.xcJ .nil xr (xa (xv (xmZ T) (hr.mono (by decide)) (by rfl) T.xjS T.xb2.kp T.xfe .nil xr (xa (cv 1) (xa (cv 2) (xa (xv (uw T) (hr.mono (by decide)) (by rfl) T.uv T.yG.kp T.zm .nil xr (xa (cv 0) (xa xh xf))) xf)))) (xa (xv (uw T) (hr.mono (by decide)) (by rfl) T.uv T.yG.kp T.zm .nil xr (xa (cv 0) (xa xh xf))) xf))))
  (xl (xu (uG (xa (cv 1) (xa (cv 2) (xa (zl xbB (by rfl) T.q1z xa2 (xa (cv 3) xf)) xf))))))))), ?_⟩
  walk_at "w"
  refine ⟨l, ns, 0, rfl, hl, by decide, ?_⟩
  walk_at "w"
  walk_at "ss"
  refine ⟨l, ns, 0, rfl, hl, by decide, ?_⟩
  walk_at "w"
  walk_at "ss"
  refine ⟨l, ns, 1, rfl, hl, by decide, ?_⟩
  walk_at "w"
  have b1 := Int.emod_nonneg (cellAt ns 0) (show (30 : Int) ≠ 0 by decide)
  have b2 := Int.emod_lt_of_pos (cellAt ns 0) (show (0 : Int) < 30 by decide)
  have b3 := Int.emod_nonneg (cellAt ns 0 / 30) (show (30 : Int) ≠ 0 by decide)
  have b4 := Int.emod_lt_of_pos (cellAt ns 0 / 30) (show (0 : Int) < 30 by decide)
  refine ⟨_, _, _, rfl, b1, by omega, b3, by omega, fun l1 ts rs H1 s1 e1 hpr hrs htl hTl => ?_⟩
  walk_at "w"
  refine ⟨l, ns, 1, rfl, s1.seq hl, by decide, ?_⟩
  walk_at "w"
  refine ⟨l1, _, ts, rs, rfl, e1, hpr, htl, fun l2 us H2 s2 e2 hus => ?_⟩
  walk_at "w"
  refine ⟨l2, _, rfl, .inl ⟨SqL.of e2, ?_⟩⟩
  intro tt htt
  generalize hUtt : upd H2 tt _ = H3
  have sH3 := xc.of_eq htt hUtt
  have ett := xq hUtt
  clear hUtt
  walk_at "w"
  walk_at "ss"
  intro p hp
  generalize hUp : upd H3 p _ = H4
  have sH4 := xc.of_eq hp hUp
  have ep := xq hUp
  clear hUp
  walk_at "w"
  have s14 : xc H1 H4 := s2.trans (sH3.trans sH4)
  obtain ⟨rs2, hp2, hpm⟩ := xjo hus hpr
  have hgt : ∀ r ∈ rs2, r.ok ∧ Sm r ∧ xeC (cellAt ns 0 % 30) (cellAt ns 0 / 30 % 30) r := fun r hr => hrs r (hpm.mem_iff.mp hr)
  exact q p tt us rs2 _ _ H4 (s1.trans s14) ep (sH4.at ett) (xgE (p := fun r => r ∈ rs2) (fun _ _ (z : TupAt K H1 _ _) h => ⟨z.same s14, (hgt _ h).1, (hgt _ h).2.1⟩) hp2 (fun _ z => z)) (by rw [hus.length_eq]; omega) (fun r hr => (hgt r hr).2.2) ⟨rs, hpm, hTl⟩ b1 (by omega) b3 (by omega)
def vB : xm → List (List Int)
 | .take to st c => yr to st c
 | .put to sg => [yy to sg.length]
theorem xfI {r : xm} (hk : r.ok) (hs : Sm r) : (vB r).length ≤ 9 := by
 cases r with
 | take to st c =>
  obtain ⟨k1, k2, k3⟩ := hk
  obtain ⟨s1, s2, s3⟩ := hs
  show (yr to st c).length ≤ 9
  unfold yr
  split
  ·simp
  ·split
   ·have := xfl (uch to (st - to).toNat) (st - to).toNat c.toNat (by omega); omega
   ·have := xfl (dch (to + c) (to - st).toNat) (to - st).toNat c.toNat (by omega); omega
 | put to sg => show 1 ≤ 9; omega
def zS (K : W.Frag) (H0 : Hp) (tl : Addr) (G : Hp) (u : Addr) (x : xm × List Int) : Prop := ∃ t c : Addr, (c ≠ tl ∧ H0 c = none) ∧ G u = some (.tup [.ref t, .ref c]) ∧ TupAt K G t x.1 ∧ G c = some (.lst (x.2.map V.int))
theorem zS.same {H0 : Hp} {tl : Addr} {G G' : Hp} {u : Addr} {x : xm × List Int} (h : zS K H0 tl G u x) (s : xc G G') : zS K H0 tl G' u x := by
 obtain ⟨t, c, h1, h2, h3, h4⟩ := h; exact ⟨t, c, h1, s.at h2, h3.same s, s.at h4⟩
theorem zS.off {H0 : Hp} {tl : Addr} {G : Hp} {u : Addr} {x : xm × List Int} {xs : List V} {o : HO} (h : zS K H0 tl G u x) (hp : G tl = some (.lst xs)) : zS K H0 tl (upd G tl o) u x := by
 obtain ⟨t, c, h1, h2, h3, h4⟩ := h
 exact ⟨t, c, h1, by rw [xn (fun z => by rw [z, hp] at h2; cases h2)]; exact h2, h3.off hp, by rw [xn h1.1]; exact h4⟩
def yd (rs : List xm) : List (xm × List Int) := rs.flatMap fun r => (vB r).map fun c => (r, c)
theorem xd9 {α β : Type} {F : α → β → Prop} : ∀ {l₁ l₃ : List α} {l₂ l₄ : List β}, Paired F l₁ l₂ → Paired F l₃ l₄ → Paired F (l₁ ++ l₃) (l₂ ++ l₄)
 | _, _, _, _, .nil, h => h
 | _, _, _, _, .cons r t, h => .cons r (xd9 t h)
def xiP (K : W.Frag) : Sp := fun vs H Q _ => ∃ (p tt : Addr) (o n : V) (us : List Addr) (rs : List xm), vs = [.ref p] ∧ H p = some (.tup [o, n, .ref tt]) ∧ H tt = some (.tup (us.map V.ref)) ∧ Paired (GT K H) us rs ∧ us.length ≤ 58 ∧
 ∀ (l : Addr) (ws : List Addr) (H' : Hp), xc H H' → H l = none → H' l = some (.lst (ws.map V.ref)) → Paired (zS K H l H') ws (yd rs) → Q (.ref l) H'
theorem GT.same {H H' : Hp} {u : Addr} {r : xm} (h : GT K H u r) (s : xc H H') : GT K H' u r := ⟨h.1.same s, h.2⟩
theorem xiQ {H0 : Hp} {tl : Addr} {L0 L G : Hp} {l t : Addr} {as : List Addr} {xss : List (List Int)} {r : xm} (s0 : xc H0 L0) (hL : uX L0 L l as xss) (sL : xc L G) (hT : TupAt K G t r) (htl : L0 tl ≠ none) : ∀ {ws : List Addr} {i : Nat}, Paired (fun w a => G w = some (.tup [.ref t, .ref a])) ws (as.drop i) → Paired (zS K H0 tl G) ws ((xss.drop i).map fun c => (r, c))
 | ws, i, h => by
  have hlen := hL.len
  by_cases hi : i < as.length
  ·have e1 : as.drop i = as[i] :: as.drop (i + 1) := List.drop_eq_getElem_cons hi
   have hi2 : i < xss.length := by omega
   have e2 : xss.drop i = xss[i] :: xss.drop (i + 1) := List.drop_eq_getElem_cons hi2
   rw [e1] at h
   rw [e2, List.map_cons]
   cases h with
   | cons h1 h2 =>
    have hfr := hL.frs _ (List.getElem_mem hi)
    refine .cons ⟨t, as[i], ⟨fun z => htl (by rw [← z]; exact hfr), s0.back hfr⟩, h1, hT, sL.at (hL.each i _ _ (List.getElem?_eq_getElem hi) (List.getElem?_eq_getElem hi2))⟩ (xiQ s0 hL sL hT htl h2)
  ·rw [List.drop_eq_nil_of_le (by omega)] at h
   rw [List.drop_eq_nil_of_le (by omega)]
   cases h
   exact .nil
 termination_by _ i => as.length - i
theorem xkZ (T : Txt K mg a) {H : Hp} {t : Addr} {r : xm} {Q : VK} {σ : L2.St} {i : Nat} (hT : GT K H t r)
  (k : ∀ l as H1 H2, xc H H1 → xc H1 H2 → uX H1 H2 l as (vB r) → Q (.ref l) H2) (hσ : σ[i]? = some (some (.ref t)) := by rfl) :
  zZ a.q0c "pieces" (xdO a) [] E0 (xeS (xbz K a) [] E0 (xf9 (uW i) xat)) xat σ H Q ∨ zZ a.q0a "pieces" (xdN a) [] E0 (xeS (xbz K a) [] E0 (xf9 (uW i) xat)) xat σ H Q := by
 obtain ⟨hT, hk, hs⟩ := hT
 have go : ∀ {R : VK}, xbz K a [.ref t] H R E0 → xeS (xbz K a) [] E0 (xf9 (uW i) xat) σ H R := fun h => by
  unfold xeS xf9 xat uW; rw [hσ]; exact h
 cases r with
 | put to sg =>
  left
  unfold zZ
  refine go ⟨t, _, rfl, hT, hk, fun o H1 s1 ho hob => ?_⟩
  obtain ⟨dx, u, h1, h2⟩ := hob
  have h9 : sg.length ≤ 9 := hs.2
  refine ⟨o, dx, _, rfl, h1, rfl, ?_⟩
  show xdO a [.ref o] H1 Q E0
  refine ⟨o, dx, u, to, sg.length, rfl, h1, by omega, fun l as H2 s2 L => k l as H1 H2 s1 s2 ?_⟩
  rw [show ((sg.length : Int)).toNat = sg.length by omega] at L
  exact L
 | take to st c =>
  right
  unfold zZ
  refine go ⟨t, _, rfl, hT, hk, fun o H1 s1 ho hob => ?_⟩
  obtain ⟨dx, h1⟩ := hob
  obtain ⟨k1, k2, k3⟩ := hk
  obtain ⟨s1', s2', s3'⟩ := hs
  refine ⟨o, dx, _, rfl, h1, rfl, ?_⟩
  show xdN a [.ref o] H1 Q E0
  have hb : (st - to).natAbs < 2 ^ 200 := Nat.lt_of_le_of_lt (show (st - to).natAbs ≤ 1000 by omega) (by decide)
  exact ⟨o, dx, to, st, c, rfl, h1, k3, by omega, hb, fun l as H2 s2 L => k l as H1 H2 s1 s2 L⟩
theorem xeD (T : Txt K mg a) : xA P w K mg base CX0 6 a.q07 a.xbb ["paper"] (xiP K) := by
 refine T.uz.ok xex (fun vs H Q E h => ?_) (fun cdv A outer s H vs Q E hr h => ?_)
 ·obtain ⟨p, tt, o, n, us, rs, rfl, _⟩ := h; rfl
 ·obtain ⟨p, tt, o, n, us, rs, rfl, hp, ht, hus, hul, q⟩ := h
  have nd := xex.nd
  refine ⟨_, (xk (xC (i := 1) nd rfl (Or.inl rfl) (zk xf))
  (xk (yF PassesOwn.never rfl (xf7 (xy xD (cv 0) xh (fun _ _ => rfl))) (xM (i := 2) nd rfl (Or.inr rfl)) (xl (yk (xdu PySem.F.plainAttrs_list PySem.F.slot_list_extend PySem.F.type_list_extend xlp (cv 1) (xa (jo (uJ (cap := [2]) (ys := ["told"]) rfl rfl rfl rfl rfl ⟨⟨rfl, rfl, .inl rfl⟩, trivial⟩ (by decide +kernel)) rfl (zo (xb8 (xT (xv (xaq T) (hr.mono (by decide)) (by rfl) T.xad T.zV.kp T.vc .nil xr (xa (cv 2) xf)) T.zx T.xdT (xhV T) (hr.mono (by decide)) T.xaN .nil xr) (xT (xv (xaq T) (hr.mono (by decide)) (by rfl) T.xad T.zV.kp T.vc .nil xr (xa (cv 2) xf)) T.xI T.xdd (xg8 T) (hr.mono (by decide)) T.jY .nil xr))) (fun _ _ _ _ => (uG (xa (cv 1) (xa (cv 0) xf)))) (fun _ _ _ _ => uK)) xf)))))
  (xl (xu (cv 1))))), ?_⟩
  walk_at "w"
  walk_at "ss"
  intro pl hpl
  generalize hUpl : upd H pl _ = H1
  have sH1 := xc.of_eq hpl hUpl
  have epl := xq hUpl
  clear hUpl
  walk_at "w"
  refine ⟨p, _, _, .ref tt, rfl, rfl, SqT.of (sH1.at hp), rfl, ?_⟩
  walk_at "w"
  refine ⟨tt, rfl, ⟨_, SqT.of (sH1.at ht)⟩, ?_⟩
  walk_at "w"
  refine xhu (xs := us.map V.ref) (fun i σ G => xc H G ∧ ∃ (ws : List Addr) (x2 : Option V), σ = [some (.ref p), some (.ref pl), x2] ∧ G pl = some (.lst (ws.map V.ref)) ∧ Paired (zS K H pl G) ws (yd (rs.take i)) ∧ ws.length ≤ 9 * i)
   ⟨sH1, [], _, rfl, epl, .nil, by simp⟩ (fun i σ G hi hP => SqT.of (hP.1.at ht)) (fun i x σ G hx hP => ?_) (fun σ G hP => ?_)
  ·obtain ⟨sG, ws, x2, rfl, epl', hws, hwl⟩ := hP
   rw [List.getElem?_map] at hx
   obtain ⟨t, ht', rfl⟩ := Option.map_eq_some_iff.mp hx
   have hi : i < us.length := (List.getElem?_eq_some_iff.mp ht').1
   obtain ⟨r, hr', hT⟩ := Paired.nth hus ht'
   have hTG := hT.same sG
   walk_at "w"
   refine ⟨.inl ⟨rfl, _, SqL.of epl'⟩, ?_⟩
   walk_at "w"
   have hplen := xfI hT.2.1 hT.2.2
   refine xkZ (K := K) T hTG fun L as G1 G2 s1 s2 hL => ?_
   walk_at "w"
   refine ⟨L, rfl, ⟨_, SqL.of hL.top⟩, ?_⟩
   have hal : as.length = (vB r).length := hL.len
   refine xkx (fun i acc G => ∃ ws2 : List Addr, acc = ws2.map V.ref ∧ Paired (fun w a => G w = some (.tup [.ref t, .ref a])) ws2 (as.take i)) (SqL.of hL.top) (by rw [List.length_map, sizeLine_eq]; omega) ⟨[], rfl, by rw [List.take_zero]; exact .nil⟩ (fun j x acc H3 H3' hx s3 s3' hP R hR => ?_) (fun D acc H9 H9' hD hD3 s9 s9' hP hl9 hv => ?_)
   ·obtain ⟨ws2, rfl, hws2⟩ := hP
    rw [List.getElem?_map] at hx
    obtain ⟨c, hc, rfl⟩ := Option.map_eq_some_iff.mp hx
    walk_at "w"
    walk_at "ss"
    intro w hw
    refine hR _ _ (xc.new hw) fun H6 sx kx => ⟨ws2 ++ [w], by simp, ?_⟩
    rw [List.take_succ, hc]
    exact vA (L2.Paired.imp' (fun _ _ (z : H3 _ = some _) => sx.at z) hws2) (kx w _ (.inl hw) xo)
   ·obtain ⟨ws2, rfl, hws2⟩ := hP
    rw [List.length_map, List.take_length] at hws2
    rw [List.length_map, List.length_map] at hl9
    have sB : xc G H9' := s1.trans (s2.trans (s9.trans s9'))
    have hpl9 := sB.at epl'
    have hTr : TupAt K H9' t r := hTG.1.same sB
    have hpi := xiQ (K := K) (H0 := H) (tl := pl) (G := H9') (sG.trans s1) hL (s9.trans s9') hTr (by rw [s1.at epl']; exact fun z => by cases z) (ws := ws2) (i := 0) (by rw [List.drop_zero]; exact L2.Paired.imp' (fun _ _ (z : H9 _ = some _) => s9'.at z) hws2)
    rw [List.drop_zero] at hpi
    walk_at "w"
    refine ⟨pl, D, _, _, rfl, rfl, hpl9, hv, by rw [List.length_map, List.length_map, sizeLine_eq]; omega, ?_⟩
    generalize hU : upd H9' pl _ = G6
    refine ⟨xc.wr (sG.trans sB) hpl hU, ws ++ ws2, _, rfl, ?_, ?_, ?_⟩
    ·rw [← hU, xo, List.map_append]
    ·have e : yd (rs.take (i + 1)) = yd (rs.take i) ++ (vB r).map fun c => (r, c) := by
      unfold yd; rw [List.take_succ, hr', List.flatMap_append]; simp
     rw [e, ← hU]
     exact xd9 (L2.Paired.imp' (fun _ _ (z : zS K H pl G _ _) => (z.same sB).off hpl9) hws) (L2.Paired.imp' (fun _ _ (z : zS K H pl H9' _ _) => z.off hpl9) hpi)
    ·rw [List.length_append]; omega
  ·obtain ⟨sG, ws, x2, rfl, epl', hws, hwl⟩ := hP
   walk_at "w"
   have e : rs.take (us.map V.ref).length = rs := by rw [List.length_map, hus.length, List.take_length]
   rw [e] at hws
   exact q pl ws G sG hpl epl' hws
def xk0 (a : Adr) : Sp := fun vs H Q _ => ∃ (p dx : Addr) (to st c cell : Int), vs = [.ref p, .int cell] ∧ H p = some (.ins a.q0a dx (xcO to st c)) ∧ Q (.int (st + cell - to)) H
theorem xbA (T : Txt K mg a) : xA P w K mg base CX0 1 a.q0i a.uC ["self", "cell"] (xk0 a) := by
 refine T.zE.ok xbw (fun vs H Q E h => ?_) (fun cdv A outer s H vs Q E hr h => ?_)
 ·obtain ⟨p, dx, to, st, c, cell, rfl, _⟩ := h; rfl
 ·obtain ⟨p, dx, to, st, c, cell, rfl, hp, k⟩ := h
  have nd := xbw.nd
  refine ⟨_, (xl (xu (xp uB (xp yc (xH (cv 0) rfl) (cv 1)) (xH (cv 0) rfl)))), ?_⟩
  walk_at "w"
  refine ⟨p, _, dx, _, .int st, rfl, hp, T.xI, T.q0k, rfl, ?_⟩
  walk_at "w"
  refine ⟨p, _, dx, _, .int to, rfl, hp, T.xI, T.q0s, rfl, ?_⟩
  exact k
def plc (r : xm) (c : Int) : List Int := match r with
 | .take to st _ => [st + c - to, c]
 | .put _ _ => [c]
def zy (r : xm) (cs : List Int) : List Int := cs.flatMap (plc r)
theorem xeE {r : xm} {cs : List Int} {i : Nat} {d : Int} (h : cs[i]? = some d) : zy r (cs.take (i + 1)) = zy r (cs.take i) ++ plc r d := by
 unfold zy
 rw [List.take_succ, h, List.flatMap_append]; simp
theorem xc1 (r : xm) : ∀ cs : List Int, (zy r cs).length ≤ 2 * cs.length
 | [] => by simp [zy]
 | c :: cs => by
  have := xc1 r cs
  have h2 : (plc r c).length ≤ 2 := by cases r <;> simp [plc]
  simp only [zy, List.flatMap_cons, List.length_append, List.length_cons] at this ⊢
  omega
def xl2 (K : W.Frag) (a : Adr) : Sp := fun vs H Q _ => ∃ (o cl : Addr) (r : xm) (cs : List Int), vs = [.ref o, .ref cl] ∧ zO K a H o r ∧ H cl = some (.lst (cs.map V.int)) ∧ cs.length ≤ 300 ∧ xfU H Q (zy r cs)
theorem xfW (T : Txt K mg a) : xA P w K mg base CX0 2 a.q0N a.vJ ["row", "cells"] (xl2 K a) := by
 refine T.zu.ok xcl (fun vs H Q E h => ?_) (fun cdv A outer s H vs Q E hr h => ?_)
 ·obtain ⟨o, cl, r, cs, rfl, _⟩ := h; rfl
 ·obtain ⟨o, cl, r, cs, rfl, ho, hcl, hn, q⟩ := h
  have nd := xcl.nd
  refine ⟨_, (xk (xC (i := 2) nd rfl (Or.inl rfl) (zk xf))
  (xk (yF PassesOwn.never rfl (zo (cv 1)) (xM (i := 3) nd rfl (Or.inl rfl)) (xk (xav (xN (uH (xE vU (by rfl) T.q0I zz (xa (cv 0) (xa (xeO (v := .ref a.q0a) (by rfl) T.xgv rfl) xf)))) (xl (yk (xdu PySem.F.plainAttrs_list PySem.F.slot_list_append PySem.F.type_list_append uU (cv 2) (xa (xaf (cv 0) T.xI T.jj (xbA T) (hr.mono (by decide)) T.zF .nil xr (xa (cv 3) xf)) xf)))) xF))
  (xl (yk (xdu PySem.F.plainAttrs_list PySem.F.slot_list_append PySem.F.type_list_append uU (cv 2) (xa (cv 3) xf))))))
  (xl (xu (cv 2))))), ?_⟩
  walk_at "w"
  walk_at "ss"
  intro pl hpl
  generalize hUpl : upd H pl _ = H1
  have sH1 := xc.of_eq hpl hUpl
  have epl := xq hUpl
  clear hUpl
  walk_at "w"
  refine ⟨cl, rfl, ⟨_, SqL.of (sH1.at hcl)⟩, ?_⟩
  refine zH (xs := cs.map V.int) (fun i σ G => xc H G ∧ ∃ (x3 : Option V), σ = [some (.ref o), some (.ref cl), some (.ref pl), x3] ∧ G pl = some (.lst ((zy r (cs.take i)).map V.int)))
   ⟨sH1, _, rfl, epl⟩ (fun i σ G hi hP => SqL.of (hP.1.at hcl)) (fun i x σ G hx hP => ?_) (fun σ G hP => ?_)
  ·obtain ⟨sG, x3, rfl, epl'⟩ := hP
   rw [List.getElem?_map] at hx
   obtain ⟨d, hd, rfl⟩ := Option.map_eq_some_iff.mp hx
   have hlen := xc1 r (cs.take i)
   have hi : i < cs.length := (List.getElem?_eq_some_iff.mp hd).1
   have htk : (cs.take i).length ≤ cs.length := by rw [List.length_take]; omega
   walk_at "w"
   refine ⟨fun σ' G' => xc H G' ∧ σ' = [some (.ref o), some (.ref cl), some (.ref pl), some (.int d)] ∧ ∃ ys : List Int, G' pl = some (.lst (ys.map V.int)) ∧ ys ++ [d] = zy r (cs.take (i + 1)), ?_, ?_⟩
   ·have ho' := ho.same sG
    cases r with
    | take to st c =>
     obtain ⟨dx, h1⟩ := ho'
     walk_at "w"
     refine ⟨_, _, _, _, true, rfl, rfl, T.xg2 h1, T.q1i, ?_⟩
     walk_at "w"
     refine ⟨fun _ => ?_, by walk_at "no"⟩
     walk_at "w"
     refine ⟨.inl ⟨rfl, _, SqL.of epl'⟩, ?_⟩
     walk_at "w"
     refine ⟨o, dx, _, rfl, h1, rfl, ?_⟩
     walk_at "w"
     refine ⟨o, dx, to, st, c, d, rfl, h1, ?_⟩
     walk_at "w"
     refine ⟨pl, _, _, rfl, rfl, epl', by rw [List.length_map, sizeLine_eq]; omega, ?_⟩
     refine ⟨sG.put hpl, rfl, zy (.take to st c) (cs.take i) ++ [st + d - to], by rw [xo, List.map_append]; rfl, ?_⟩
     rw [xeE hd]; simp [plc]
    | put to sg =>
     obtain ⟨dx, u, h1, h2⟩ := ho'
     walk_at "w"
     refine ⟨_, _, _, _, false, rfl, rfl, T.xiw h1, T.q1v, ?_⟩
     walk_at "w"
     refine ⟨by walk_at "no", fun _ => ?_⟩
     refine ⟨sG, rfl, _, epl', ?_⟩
     rw [xeE hd]; simp [plc]
   ·rintro σ' G' ⟨sG', rfl, ys, eys, hys⟩
    walk_at "w"
    refine ⟨.inl ⟨rfl, _, SqL.of eys⟩, ?_⟩
    walk_at "w"
    have hyl := congrArg List.length hys
    have := xc1 r (cs.take (i + 1))
    have htk2 : (cs.take (i + 1)).length ≤ cs.length := by rw [List.length_take]; omega
    rw [List.length_append, List.length_singleton] at hyl
    refine ⟨pl, _, _, rfl, rfl, eys, by rw [List.length_map, sizeLine_eq]; omega, ?_⟩
    refine ⟨sG'.put hpl, _, rfl, ?_⟩
    rw [xo, ← hys, List.map_append]; rfl
  ·obtain ⟨sG, x3, rfl, epl'⟩ := hP
   rw [List.length_map, List.take_length] at epl'
   walk_at "w"
   exact q pl G sG hpl epl'
def xl3 (K : W.Frag) : Sp := fun vs H Q _ => ∃ (size : Int) (H0 : Hp) (pl tl : Addr) (ws : List Addr) (xs : List (xm × List Int)), vs = [.int size, .ref pl] ∧ H pl = some (.lst (ws.map V.ref)) ∧ Paired (zS K H0 tl H) ws xs ∧ (∀ x ∈ xs, x.1.ok ∧ x.2.length ≤ 300 ∧ ∀ p ∈ zy x.1 x.2, p < size) ∧ ∀ H', xc H H' → Q .non H'
theorem xfX (T : Txt K mg a) : xA P w K mg base CX0 6 a.q0M a.vI ["size", "pieces"] (xl3 K) := by
 refine T.zt.ok xck (fun vs H Q E h => ?_) (fun cdv A outer s H vs Q E hr h => ?_)
 ·obtain ⟨size, H0, pl, tl, ws, xs, rfl, _⟩ := h; rfl
 ·obtain ⟨size, H0, pl, tl, ws, xs, rfl, hpl, hws, hx, q⟩ := h
  have nd := xck.nd
  refine ⟨_, (xl (yF PassesOwn.never rfl (zo (cv 1)) (xb6 rfl (yE (xM (i := 2) nd rfl (Or.inl rfl)) (yE (xM (i := 3) nd rfl (Or.inl rfl)) xaX))) (xl (yF PassesOwn.never rfl (zo (xv (xfW T) (hr.mono (by decide)) (by rfl) T.xcG T.zu.kp T.vN .nil xr (xa (xv (xaq T) (hr.mono (by decide)) (by rfl) T.xad T.zV.kp T.vc .nil xr (xa (cv 2) xf)) (xa (cv 3) xf)))) (xM (i := 4) nd rfl (Or.inl rfl)) (xl (xN (xJ xmu (cv 4) (cv 0)) (xl xe3) xF)))))), ?_⟩
  walk_at "w"
  refine ⟨pl, rfl, ⟨_, SqL.of hpl⟩, ?_⟩
  refine zH (xs := ws.map V.ref) (fun i σ G => xc H G ∧ ∃ (x2 x3 x4 : Option V), σ = [some (.int size), some (.ref pl), x2, x3, x4])
   ⟨xc.refl _, _, _, _, rfl⟩ (fun i σ G hi hP => SqL.of (hP.1.at hpl)) (fun i x σ G hx' hP => ?_) (fun σ G hP => ?_)
  ·obtain ⟨sG, x2, x3, x4, rfl⟩ := hP
   rw [List.getElem?_map] at hx'
   obtain ⟨u, hu, rfl⟩ := Option.map_eq_some_iff.mp hx'
   obtain ⟨⟨r, cs⟩, hr', t, c, nc, h1, h2, h3⟩ := Paired.nth hws hu
   obtain ⟨hk, hcl, hpp⟩ := hx _ (List.mem_of_getElem? hr')
   walk_at "w"
   refine ⟨u, _, rfl, SqT.of (sG.at h1), rfl, ?_⟩
   walk_at "w"
   refine ⟨_, _, rfl, ?_⟩
   walk_at "w"
   refine ⟨_, _, rfl, ?_⟩
   walk_at "w"
   refine And.intro rfl ?_
   walk_at "w"
   refine ⟨t, r, rfl, h2.same sG, hk, fun o H1 s1 ho hob => ?_⟩
   walk_at "w"
   refine ⟨o, c, r, cs, rfl, hob, s1.at (sG.at h3), hcl, fun l H2 s2 hl el => ?_⟩
   have sA : xc H H2 := sG.trans (s1.trans s2)
   walk_at "w"
   refine ⟨l, rfl, ⟨_, SqL.of el⟩, ?_⟩
   refine zH (xs := (zy r cs).map V.int) (fun i σ G => H2 = G ∧ ∃ (x4 : Option V), σ = [some (.int size), some (.ref pl), some (.ref t), some (.ref c), x4])
    ⟨rfl, _, rfl⟩ (fun i σ G hi hP => by rw [← hP.1]; exact SqL.of el) (fun i x σ G hx' hP => ?_) (fun σ G hP => ?_)
   ·obtain ⟨rfl, x4, rfl⟩ := hP
    rw [List.getElem?_map] at hx'
    obtain ⟨p, hp, rfl⟩ := Option.map_eq_some_iff.mp hx'
    have hlt := hpp p (List.mem_of_getElem? hp)
    walk_at "w"
    refine ⟨fun e => absurd (of_decide_eq_true e) (by show ¬ size ≤ p; omega), fun _ => ?_⟩
    exact ⟨rfl, _, rfl⟩
   ·obtain ⟨rfl, x4, rfl⟩ := hP
    exact ⟨sA, _, _, _, rfl⟩
  ·obtain ⟨sG, x2, x3, x4, rfl⟩ := hP
   exact q _ sG
def xk1 : Sp := fun vs H Q _ => ∃ (size o n : Int) (p : Addr) (x : V), vs = [.int size, .ref p] ∧ H p = some (.tup [.int o, .int n, x]) ∧ max o n ≤ size ∧ Q .non H
theorem xfn (T : Txt K mg a) : xA P w K mg base CX0 1 a.q0y a.uZ ["size", "paper"] xk1 := by
 refine T.yW.ok xbI (fun vs H Q E h => ?_) (fun cdv A outer s H vs Q E hr h => ?_)
 ·obtain ⟨size, o, n, p, x, rfl, _⟩ := h; rfl
 ·obtain ⟨size, o, n, p, x, rfl, hp, hle, k1⟩ := h
  have nd := xbI.nd
  refine ⟨_, (xk (xC (i := 2) nd rfl (Or.inl rfl) (xE (xgg rfl) (by rfl) T.q3k xek (xa (xy xD (cv 1) xh (fun _ _ => rfl)) (xa (xy xD (cv 1) xh (fun _ _ => rfl)) xf))))
  (xl (xN (xJ xgS (cv 0) (cv 2)) (xl xe3) xF))), ?_⟩
  walk_at "w"
  refine ⟨p, _, _, .int o, rfl, rfl, SqT.of hp, rfl, ?_⟩
  walk_at "w"
  refine ⟨p, _, _, .int n, rfl, rfl, SqT.of hp, rfl, ?_⟩
  walk_at "w"
  refine ⟨fun e => absurd (of_decide_eq_true e) (by show ¬ size < max o n; omega), fun e => ?_⟩
  exact k1
def vQ (r : xm) (C : List Int) (d : Int) : List Int := match r with
 | .take to st _ => C.set d.toNat (C.getD (st + d - to).toNat 0)
 | .put to sg => C.set d.toNat (sg.getD (d - to).toNat 0)
def doP (r : xm) (C cs : List Int) : List Int := cs.foldl (vQ r) C
theorem xl4 (r : xm) (C : List Int) (d : Int) : (vQ r C d).length = C.length := by cases r <;> simp [vQ]
theorem xha (r : xm) : ∀ (cs C : List Int), (doP r C cs).length = C.length
 | [], _ => rfl
 | d :: cs, C => by
  show (doP r (vQ r C d) cs).length = _
  rw [xha r cs, xl4]
theorem xm4 {r : xm} {C cs : List Int} {i : Nat} {d : Int} (h : cs[i]? = some d) : doP r C (cs.take (i + 1)) = vQ r (doP r C (cs.take i)) d := by
 unfold doP
 rw [List.take_succ, h]; simp [List.foldl_append]
abbrev xcr : Expr := xc6 1 (xc6 1 (xg3 ((xn0 ((xg zf).getD 0 (.Pass ⟨0, 0, 0, 0⟩))).getD 0 (.Pass ⟨0, 0, 0, 0⟩))))
theorem xj4 : xac ["at", "store"] ["at"] ["store"] (zA xcr) := ⟨rfl, rfl, rfl, by decide +kernel, rfl, by decide +kernel, by decide +kernel, by decide +kernel⟩
abbrev xqs (H : Hp) (f : Addr) (fv : List (Str × V)) : Prop := yJ H f "<lambda>" "do_piece.<locals>.<lambda>" (xai xcr) (.expr (xaj xcr)) (zA xcr) fv
def xj5 (a : Adr) : List (Str × V) → Sp := fun fv vs H Q _ => ∃ (S : SA) (cells : List Int) (notes : List (Option Int)) (n i v : Int) (fl : V), fv = ([("store", .ref S.st)] : List (Str × V)) ∧ vs = [.int i] ∧ uc a H S cells notes n fl ∧ inR cells i ∧ cells[i.toNat]? = some v ∧ Q (.int v) H
theorem xgF (T : Txt K mg a) : xbO P w K mg base CX0 3 "<lambda>" "do_piece.<locals>.<lambda>" (xai xcr) (.expr (xaj xcr)) (zA xcr) ["at"] (xj5 a) := by
 refine xdB xj4 (fun fv vs H Q E h => ?_) (fun _ _ _ _ _ us hl => match us, hl with | [_], _ => rfl) (fun A outer s H f clos cdv fv vs Q E hr h => ?_)
 ·obtain ⟨S, cells, notes, n, i, v, fl, rfl, rfl, _⟩ := h; exact ⟨rfl, rfl⟩
 ·obtain ⟨S, cells, notes, n, i, v, fl, rfl, rfl, hS, hi, hv, k⟩ := h
  have nd := xj4.nd
  refine ⟨_, (xaf (cv 1) T.xU T.xdW (xhT T) (hr.mono (by decide)) T.xaS .nil xr (xa (cv 0) xf)), ?_⟩
  walk_at "w"
  refine ⟨S.st, S.dx, _, rfl, hS.st, rfl, ?_⟩
  exact ⟨S, cells, notes, n, i, v, fl, rfl, hS, hi, hv, k⟩
def xm5 (a : Adr) : Sp := fun vs H Q E => ∃ (p dx u : Addr) (to n cell v : Int) (f : V) (sg : List Int), vs = [.ref p, .int cell, f] ∧ H p = some (.ins a.q0c dx (xfi to u n)) ∧ H u = some (.tup (sg.map V.int)) ∧ 0 ≤ cell - to ∧ sg[(cell - to).toNat]? = some v ∧ Q (.int v) H
def xm6 (a : Adr) : Sp := fun vs H Q _ => ∃ (p dx : Addr) (to st c cell : Int) (f : Addr) (fv : List (Str × V)), vs = [.ref p, .int cell, .ref f] ∧ H p = some (.ins a.q0a dx (xcO to st c)) ∧ xqs H f fv ∧ xj5 a fv [.int (st + cell - to)] H Q E0
theorem xfY (T : Txt K mg a) : xA P w K mg base CX0 4 a.q0n a.vG ["self", "cell", "read"] (xm6 a) := by
 refine T.uu.ok xci (fun vs H Q E h => ?_) (fun cdv A outer s H vs Q E hr h => ?_)
 ·obtain ⟨p, dx, to, st, c, cell, f, fv, rfl, _⟩ := h; rfl
 ·obtain ⟨p, dx, to, st, c, cell, f, fv, rfl, hp, hf, k⟩ := h
  have nd := xci.nd
  refine ⟨_, (xl (xu (xin 2 (xgF T) (hr.mono (by decide)) xr (xa (xaf (cv 0) T.xI T.jj (xbA T) (hr.mono (by decide)) T.zF .nil xr (xa (cv 1) xf)) xf)))), ?_⟩
  walk_at "w"
  refine ⟨f, fv, rfl, hf, ?_⟩
  walk_at "w"
  refine ⟨p, dx, _, rfl, hp, rfl, ?_⟩
  walk_at "w"
  refine ⟨p, dx, to, st, c, cell, rfl, hp, ?_⟩
  walk_at "w"
  exact ⟨hf, k⟩
theorem xgG (T : Txt K mg a) : xA P w K mg base CX0 1 a.q0o a.jz ["self", "cell", "read"] (xm5 a) := by
 refine T.uP.ok xcM (fun vs H Q E h => ?_) (fun cdv A outer s H vs Q E hr h => ?_)
 ·obtain ⟨p, dx, u, to, n, cell, v, f, sg, rfl, _⟩ := h; rfl
 ·obtain ⟨p, dx, u, to, n, cell, v, f, sg, rfl, hp, hu, hi, hv, k⟩ := h
  have nd := xcM.nd
  refine ⟨_, (xl (xu (xy xD (xH (cv 0) rfl) (xp uB (cv 1) (xH (cv 0) rfl)) (fun _ _ => rfl)))), ?_⟩
  walk_at "w"
  refine ⟨p, _, dx, _, .ref u, rfl, hp, T.zx, T.q1c, rfl, ?_⟩
  walk_at "w"
  refine ⟨p, _, dx, _, .int to, rfl, hp, T.zx, T.q1d, rfl, ?_⟩
  walk_at "w"
  exact ⟨u, _, _, .int v, rfl, rfl, SqT.of hu, xem hi hv, k⟩
def xdn (r : xm) (L : Nat) (d : Int) : Prop := 0 ≤ d ∧ d < L ∧ match r with
 | .take to st _ => 0 ≤ st + d - to ∧ st + d - to < L
 | .put to sg => 0 ≤ d - to ∧ d - to < sg.length
theorem StF.mu {H : Hp} {F : FA} {cells : List Int} {notes : List (Option Int)} {k : Nat} (h : StF a H F cells notes k) : ∀ x ∈ SF F, ∃ u, H x = some u ∧ xbF u := by
 intro x hx
 rcases List.mem_cons.mp hx with rfl | hx
 ·obtain ⟨ys, e, _⟩ := h.fl; exact ⟨_, e, trivial⟩
 ·obtain ⟨n, _, hS⟩ := h.st; exact hS.mu x hx
theorem StF.noMu {H : Hp} {F : FA} {cells : List Int} {notes : List (Option Int)} {k : Nat} (h : StF a H F cells notes k) {b : Addr} {u : HO} (e : H b = some u) (m : ¬ xbF u) : b ∉ SF F := fun z => by
 obtain ⟨u', q', m'⟩ := h.mu b z
 rw [e] at q'; cases q'; exact m m'
theorem zO.kpF {H H' : Hp} {F : FA} {cells : List Int} {notes : List (Option Int)} {k : Nat} {o : Addr} {r : xm} (h : zO K a H o r) (hF : StF a H F cells notes k) (hn : o ∉ SF F) (kp : Kp (SF F) H H') : zO K a H' o r := by
 cases r with
 | take to st c => obtain ⟨dx, h⟩ := h; exact ⟨dx, kp _ _ h hn⟩
 | put to sg => obtain ⟨dx, u, h1, h2⟩ := h; exact ⟨dx, u, kp _ _ h1 hn, kp _ _ h2 (hF.noMu h2 (fun z => z))⟩
def ud (cs D cells : List Int) : Prop := cells.length = D.length ∧ ∀ j : Nat, j < D.length → (j : Int) ∉ cs → cells[j]? = D[j]?
theorem ud.refl (cs D : List Int) : ud cs D D := ⟨rfl, fun _ _ _ => rfl⟩
theorem ud.set {cs D cells : List Int} {d v : Int} (h : ud cs D cells) (hd : d ∈ cs) (h0 : 0 ≤ d) : ud cs D (cells.set d.toNat v) := by
 refine ⟨by rw [List.length_set]; exact h.1, fun j hj hn => ?_⟩
 rw [List.getElem?_set, if_neg (fun z => hn (by rw [← z, Int.toNat_of_nonneg h0]; exact hd))]
 exact h.2 j hj hn
theorem ud.step {cs D cells : List Int} {r : xm} {d : Int} (h : ud cs D cells) (hd : d ∈ cs) (h0 : 0 ≤ d) : ud cs D (vQ r cells d) := by
 cases r with
 | take to st c => exact h.set hd h0
 | put to sg => exact h.set hd h0
theorem ud.doP {cs D : List Int} {r : xm} : ∀ {ds cells : List Int}, ud cs D cells → (∀ d ∈ ds, d ∈ cs ∧ 0 ≤ d) → ud cs D (doP r cells ds)
 | [], _, h, _ => h
 | d :: ds, cells, h, k => by
  show ud cs D (K90.doP r (vQ r cells d) ds)
  exact ud.doP (h.step (k d List.mem_cons_self).1 (k d List.mem_cons_self).2) fun x hx => k x (List.mem_cons_of_mem _ hx)
def xjp (K : W.Frag) (a : Adr) : Sp := fun vs H Q E => ∃ (F : FA) (o c : Addr) (r : xm) (cs cells : List Int) (notes : List (Option Int)) (k : Nat), vs = [.ref F.S.st, .ref o, .ref c] ∧ Bs K F ∧ StF a H F cells notes k ∧ k ≤ 30 ∧ zO K a H o r ∧ o ∉ SF F ∧ H c = some (.lst (cs.map V.int)) ∧ c ∉ SF F ∧ (∀ d ∈ cs, xdn r cells.length d) ∧
 (∀ H', Kp (SF F) H H' → StF a H' F (doP r cells cs) notes k → Q .non H') ∧ xiJ a H F k E fun cells' notes' => notes' = notes ∧ ud cs cells cells'
theorem xjq (T : Txt K mg a) : xA P w K mg base (CXE P w) 7 a.q1g a.xaE ["store", "row", "cells"] (xjp K a) := by
 refine T.jC.okXK ["store"] T.xfz xfE (fun vs H Q E h => ?_) (fun A outer s H vs Q E hr h => ?_)
 ·obtain ⟨F, o, c, r, cs, cells, notes, k, rfl, _⟩ := h; rfl
 ·obtain ⟨F, o, c, r, cs, cells, notes, k, rfl, B, hF, hk, ho, hop, hc, hcS, hin, k1, k2⟩ := h
  have nd := xfE.nd
  refine ⟨_, (xbr (x := "store") (i := 0) nd rfl rfl rfl (by kernel_rfl) (xl (yF (PassesOwn.xe ⟨rfl, rfl, rfl⟩) rfl (zo (cv 2)) (xM (i := 3) nd rfl (Or.inl rfl)) (xl (yk (xce ⟨rfl, rfl, rfl⟩ (cv 0) T.xU T.xdb (xg9 T) (hr.mono (by decide)) T.jZ .nil (xa (cv 3) (xa (xb8 (xaf (cv 1) T.zx T.xcL (xgG T) (hr.mono (by decide)) T.jB .nil xr (xa (cv 3) (xa (xbs (c := q0S) (P := uq) (qs := jK) (fns := ["store"]) rfl T.q1t (q := "do_piece.<locals>.<lambda>") (by kernel_rfl) (.head _) (by kernel_rfl) (by kernel_rfl)) xf))) (xaf (cv 1) T.xI T.xch (xfY T) (hr.mono (by decide)) T.vL .nil xr (xa (cv 3) (xa (xbs (c := q0S) (P := uq) (qs := jK) (fns := ["store"]) rfl T.q1t (q := "do_piece.<locals>.<lambda>") (by kernel_rfl) (.head _) (by kernel_rfl) (by kernel_rfl)) xf)))) xf)))))))), ?_⟩
  walk_at "w"
  intro a1 e1 z1 d1
  refine And.intro z1 ?_
  generalize hU1 : upd H a1 _ = H1
  have s1 := xc.of_eq z1 hU1
  have c1 := xq hU1
  clear hU1
  have hF1 := hF.same s1
  have c1 : H1 a1 = some (.cel (some (.ref F.S.st))) := c1
  walk_at "w"
  refine ⟨c, rfl, ⟨_, SqL.of (s1.at hc)⟩, ?_⟩
  refine zH (xs := cs.map V.int) (fun i σ G => Kp (SF F) H1 G ∧ StF a G F (doP r cells (cs.take i)) notes k ∧ ∃ (x3 : Option V), σ = [some (.ref F.S.st), some (.ref o), some (.ref c), x3])
   ⟨Kp.of (xc.refl _), hF1, _, rfl⟩ (fun i σ G hi hP => SqL.of (hP.1 _ _ (s1.at hc) hcS)) (fun i x σ G hx hP => ?_) (fun σ G hP => ?_)
  ·obtain ⟨kp, hFG, x3, rfl⟩ := hP
   rw [List.getElem?_map] at hx
   obtain ⟨d, hd, rfl⟩ := Option.map_eq_some_iff.mp hx
   have hdm := List.mem_of_getElem? hd
   obtain ⟨hd0, hd1, hd2⟩ := hin d hdm
   have hdl := xha r (cs.take i) cells
   have hOG : zO K a G o r := (ho.same s1).kpF hF1 hop kp
   have c1G : G a1 = some (.cel (some (.ref F.S.st))) := kp _ _ c1 (hF1.noMu c1 (fun z => z))
   obtain ⟨n, hn, hSG⟩ := hFG.st
   have hNear : ud cs cells (doP r cells (cs.take i)) := ud.doP (ud.refl _ _) fun x hx => ⟨List.mem_of_mem_take hx, (hin x (List.mem_of_mem_take hx)).1⟩
   have fin : ∀ (G5 : Hp) (v : Int), xc G G5 → vQ r (doP r cells (cs.take i)) d = (doP r cells (cs.take i)).set d.toNat v → xcP K a [.ref F.S.st, .int d, .int v] G5 (fun v' H' => Kp (SF F) H1 H' ∧ StF a H' F (doP r cells (cs.take (i + 1))) notes k ∧ ∃ (x3 : Option V), [some (V.ref F.S.st), some (.ref o), some (.ref c), some (.int d)] = [some (.ref F.S.st), some (.ref o), some (.ref c), x3]) E := fun G5 v s5 e => by
    refine ⟨F, _, notes, d, v, k, rfl, B, hFG.same s5, hk, ⟨hd0, by rw [hdl]; exact hd1⟩, fun G6 k6 h6 => ⟨(kp.same s5).trans k6, ?_, _, rfl⟩, fun hk2 m dd G6 cells' notes' k6 h6 hp hd6 => ?_⟩
    ·rw [xm4 hd, e]; exact h6
    ·obtain ⟨rfl, hp⟩ := hp
     refine k2 hk2 m dd G6 cells' notes' (fun b u eb nb => k6 b u (s5 b u (kp b u (s1 b u eb) nb)) nb) h6 ⟨rfl, ?_⟩ hd6
     rcases hp with rfl | ⟨t, rfl⟩
     ·exact hNear
     ·exact hNear.set hdm hd0
   walk_at "w"
   refine ⟨F.S.st, F.S.dx, _, rfl, hSG.st, rfl, ?_⟩
   walk_at "w"
   cases r with
   | put to sg =>
    obtain ⟨dx, u, q1, q2⟩ := hOG
    have hd2 : 0 ≤ d - to ∧ d - to < sg.length := hd2
    obtain ⟨v, hv⟩ : ∃ v, sg[(d - to).toNat]? = some v := ⟨_, List.getElem?_eq_getElem (by omega)⟩
    left
    refine ⟨o, dx, _, rfl, q1, rfl, ?_⟩
    walk_at "w"
    refine ⟨B.keep hFG.kp B.Pd (fun z => z), [("store", .ref F.S.st)], rfl, fun x v m => ?_, fun f G5 hf s5 hc => ?_⟩
    ·simp only [List.mem_cons, Prod.mk.injEq, List.not_mem_nil, or_false] at m
     obtain ⟨rfl, rfl⟩ := m
     exact ⟨a1, e1, c1G⟩
    walk_at "w"
    refine ⟨o, dx, u, to, _, d, v, _, sg, rfl, s5.at q1, s5.at q2, hd2.1, hv, ?_⟩
    walk_at "w"
    exact fin G5 v s5 (by simp [vQ, List.getD_eq_getElem?_getD, hv])
   | take to st cn =>
    obtain ⟨dx, q1⟩ := hOG
    have hd2 : 0 ≤ st + d - to ∧ st + d - to < cells.length := hd2
    obtain ⟨v, hv⟩ : ∃ v, (doP (.take to st cn) cells (cs.take i))[(st + d - to).toNat]? = some v := ⟨_, List.getElem?_eq_getElem (by rw [hdl]; omega)⟩
    right
    refine ⟨o, dx, _, rfl, q1, rfl, ?_⟩
    walk_at "w"
    refine ⟨B.keep hFG.kp B.Pd (fun z => z), [("store", .ref F.S.st)], rfl, fun x v m => ?_, fun f G5 hf s5 hc => ?_⟩
    ·simp only [List.mem_cons, Prod.mk.injEq, List.not_mem_nil, or_false] at m
     obtain ⟨rfl, rfl⟩ := m
     exact ⟨a1, e1, c1G⟩
    walk_at "w"
    refine ⟨o, dx, to, st, cn, d, f, _, rfl, s5.at q1, hc, F.S, _, notes, n, _, v, .ref F.f, rfl, rfl, hSG.same s5, ⟨hd2.1, by rw [hdl]; exact hd2.2⟩, hv, ?_⟩
    walk_at "w"
    exact fin G5 v s5 (by simp [vQ, List.getD_eq_getElem?_getD, hv])
  ·obtain ⟨kp, hFG, x3, rfl⟩ := hP
   rw [List.length_map, List.take_length] at hFG
   walk_at "w"
   exact k1 G (fun b u e n => kp b u (s1 b u e) n) hFG
theorem xea (T : Txt K mg a) : xA P w K mg base CX0 1 a.q0m a.xay ["self"] (xl0 K) := by
 refine T.vZ.ok xdY (fun vs H Q E h => ?_) (fun cdv A outer s H vs Q E hr h => ?_)
 ·obtain ⟨p, C, dx, fs, to, c, rfl, _⟩ := h; rfl
 ·obtain ⟨p, C, dx, fs, to, c, rfl, hp, cl, n1, n2, l1, l2, k⟩ := h
  have nd := xdY.nd
  refine ⟨_, (xl (xu (uG (xa (xH (cv 0) rfl) (xa (xp yc (xH (cv 0) rfl) (xH (cv 0) rfl)) xf))))), ?_⟩
  walk_at "w"
  refine ⟨p, C, dx, fs, _, rfl, hp, cl, n1, l1, ?_⟩
  walk_at "w"
  refine ⟨p, C, dx, fs, _, rfl, hp, cl, n1, l1, ?_⟩
  walk_at "w"
  refine ⟨p, C, dx, fs, _, rfl, hp, cl, n2, l2, ?_⟩
  walk_at "w"
  exact ⟨by walk_at "side", k⟩
def xiR (to st c : Int) : List Int := if st = to then [] else yy st c.toNat
def xhb (to st c : Int) : List Int := if st = to then [] else yy to c.toNat
def xhG (a : Adr) : Sp := fun vs H Q _ => ∃ (p dx : Addr) (to st c : Int), vs = [.ref p] ∧ H p = some (.ins a.q0a dx (xcO to st c)) ∧ c.toNat ≤ 2 ^ 24 ∧ xfU H Q (xiR to st c)
def xgH (a : Adr) : Sp := fun vs H Q _ => ∃ (p dx : Addr) (to st c : Int), vs = [.ref p] ∧ H p = some (.ins a.q0a dx (xcO to st c)) ∧ c.toNat ≤ 2 ^ 24 ∧ xfU H Q (xhb to st c)
def xhH (a : Adr) : Sp := fun vs H Q _ => ∃ (p dx t : Addr) (to n : Int), vs = [.ref p] ∧ H p = some (.ins a.q0c dx (xfi to t n)) ∧ xfU H Q []
def xgI (a : Adr) : Sp := fun vs H Q _ => ∃ (p dx t : Addr) (to n : Int), vs = [.ref p] ∧ H p = some (.ins a.q0c dx (xfi to t n)) ∧ n.toNat ≤ 2 ^ 24 ∧ xfU H Q (yy to n.toNat)
theorem xhX (T : Txt K mg a) : xA P w K mg base CX0 2 a.q0C a.xaA ["self"] (xhG a) := by
 refine T.jc.ok xd0 (fun vs H Q E h => ?_) (fun cdv A outer s H vs Q E hr h => ?_)
 ·obtain ⟨p, dx, to, st, c, rfl, _⟩ := h; rfl
 ·obtain ⟨p, dx, to, st, c, rfl, hp, hc, k⟩ := h
  have nd := xd0.nd
  refine ⟨_, (xk (xN (uH (xT (cv 0) T.xI T.xaa (xbG T) (hr.mono (by decide)) T.uO .nil xr)) (xl (xu (zk xf))) xF)
  (xl (xu (zl (jQ rfl) (by rfl) T.q1I xa1 (xa (xcu (by rfl) T.q0K (xa (xH (cv 0) rfl) (xa (xp yc (xH (cv 0) rfl) (xH (cv 0) rfl)) xf))) xf))))), ?_⟩
  walk_at "w"
  refine ⟨p, dx, _, rfl, hp, rfl, ?_⟩
  walk_at "w"
  refine ⟨p, dx, to, st, c, rfl, hp, ?_⟩
  walk_at "w"
  refine ⟨fun e => ?_, fun e => ?_⟩
  ·walk_at "w"
   refine ⟨by decide, fun l hl => ?_⟩
   have e' : st = to := of_decide_eq_true e
   exact k l _ (xc.new hl) hl (by rw [xo, xiR, if_pos e']; rfl)
  ·have e' : ¬ st = to := of_decide_eq_false e
   walk_at "w"
   refine ⟨p, _, dx, _, .int st, rfl, hp, T.xI, T.q0k, rfl, ?_⟩
   walk_at "w"
   refine ⟨p, _, dx, _, .int st, rfl, hp, T.xI, T.q0k, rfl, ?_⟩
   walk_at "w"
   refine ⟨p, _, dx, _, .int c, rfl, hp, T.xI, T.q0p, rfl, ?_⟩
   walk_at "w"
   intro r hr1
   walk_at "w"
   have e2 : yo st (st + c) 1 = c.toNat := by rw [yI]; congr 1; omega
   refine ⟨r, st, st + c, rfl, xo, by rw [e2]; exact hc, fun l hl => ?_⟩
   rw [e2, xfj]
   have hl0 : H l = none := xc.free (xc.new hr1) hl
   exact k l _ ((xc.new hr1).put hl0) hl0 (by rw [xo, xiR, if_neg e'])
theorem xhc (T : Txt K mg a) : xA P w K mg base CX0 2 a.q0u a.jT ["self"] (xgH a) := by
 refine T.vn.ok xdh (fun vs H Q E h => ?_) (fun cdv A outer s H vs Q E hr h => ?_)
 ·obtain ⟨p, dx, to, st, c, rfl, _⟩ := h; rfl
 ·obtain ⟨p, dx, to, st, c, rfl, hp, hc, k⟩ := h
  have nd := xdh.nd
  refine ⟨_, (xk (xN (uH (xT (cv 0) T.xI T.xaa (xbG T) (hr.mono (by decide)) T.uO .nil xr)) (xl (xu (zk xf))) xF)
  (xl (xu (xT (cv 0) T.xI T.vP (yY T) (hr.mono (by decide)) T.ym .nil xr)))), ?_⟩
  walk_at "w"
  refine ⟨p, dx, _, rfl, hp, rfl, ?_⟩
  walk_at "w"
  refine ⟨p, dx, to, st, c, rfl, hp, ?_⟩
  walk_at "w"
  refine ⟨fun e => ?_, fun e => ?_⟩
  ·walk_at "w"
   refine ⟨by decide, fun l hl => ?_⟩
   have e' : st = to := of_decide_eq_true e
   exact k l _ (xc.new hl) hl (by rw [xo, xhb, if_pos e']; rfl)
  ·have e' : ¬ st = to := of_decide_eq_false e
   walk_at "w"
   refine ⟨p, dx, _, rfl, hp, rfl, ?_⟩
   walk_at "w"
   refine ⟨p, _, dx, _, to, c, rfl, hp, T.xI, T.q0s, T.q0p, rfl, rfl, hc, fun l H' s1 hl hv => ?_⟩
   exact k l H' s1 hl (by rw [hv, xhb, if_neg e'])
theorem xiS (T : Txt K mg a) : xA P w K mg base CX0 1 a.q0R a.xa8 ["self"] (xhH a) := by
 refine T.jM.ok xeu (fun vs H Q E h => ?_) (fun cdv A outer s H vs Q E hr h => ?_)
 ·obtain ⟨p, dx, t, to, n, rfl, _⟩ := h; rfl
 ·obtain ⟨p, dx, t, to, n, rfl, hp, k⟩ := h
  have nd := xeu.nd
  refine ⟨_, (xl (xu (zk xf))), ?_⟩
  walk_at "w"
  exact ⟨by decide, fun l hl => k l _ (xc.new hl) hl (by rw [xo]; rfl)⟩
theorem xhY (T : Txt K mg a) : xA P w K mg base CX0 2 a.q0D a.xaB ["self"] (xgI a) := by
 refine T.jd.ok xd1 (fun vs H Q E h => ?_) (fun cdv A outer s H vs Q E hr h => ?_)
 ·obtain ⟨p, dx, t, to, n, rfl, _⟩ := h; rfl
 ·obtain ⟨p, dx, t, to, n, rfl, hp, hn, k⟩ := h
  have nd := xd1.nd
  refine ⟨_, (xl (xu (xT (cv 0) T.zx T.uS (yY T) (hr.mono (by decide)) T.ym .nil xr))), ?_⟩
  walk_at "w"
  refine ⟨p, dx, _, rfl, hp, rfl, ?_⟩
  walk_at "w"
  exact ⟨p, _, dx, _, to, n, rfl, hp, T.zx, T.q1d, T.q0Q, rfl, rfl, hn, k⟩
def InD (kvs : List (Key × V)) (seen : List Int) : Prop := ∀ c : Int, (ua kvs (.inl c)).isSome = decide (c ∈ seen)
theorem InD.nil : InD [] [] := fun c => by simp [xmq]
theorem InD.put {kvs : List (Key × V)} {seen : List Int} (h : InD kvs seen) (c : Int) (v : V) : InD (putK kvs (.inl c) v) (c :: seen) := by
 intro x
 rw [xmr]
 by_cases e : x = c
 ·subst e
  rw [if_pos rfl]; simp
 ·rw [if_neg (fun z => e (by cases z; rfl)), h x]
  congr 1
  exact propext ⟨fun z => List.mem_cons_of_mem _ z, fun z => (List.mem_cons.mp z).resolve_left e⟩
theorem xfZ (kvs : List (Key × V)) (k : Key) (v : V) : (putK kvs k v).length ≤ kvs.length + 1 := by
 unfold putK
 split
 ·rw [List.length_map]; omega
 ·rw [List.length_append]; simp
theorem xj6 (T : Txt K mg a) {H : Hp} {o : Addr} {r : xm} {Q : VK} {σ : L2.St} {i : Nat} (ho : zO K a H o r) (hl : r.cv.length ≤ 300)
  (k : ∀ l H', xc H H' → H l = none → H' l = some (.lst (r.cv.map V.int)) → Q (.ref l) H') (hσ : σ[i]? = some (some (.ref o)) := by rfl) :
  zZ a.q0c "covered" (xdK K) [] E0 (uW i) xat σ H Q ∨ zZ a.q0a "covered" (xdK K) [] E0 (uW i) xat σ H Q := by
 cases r with
 | put to sg =>
  obtain ⟨dx, u, h1, h2⟩ := ho
  left
  unfold zZ uW
  rw [hσ]
  have e : (sg.length : Int).toNat = sg.length := by simp
  have hl' : sg.length ≤ 300 := by rw [show xm.cv (.put to sg) = yy to sg.length from rfl, yn] at hl; exact hl
  refine ⟨o, dx, _, rfl, h1, rfl, o, a.q0c, dx, _, to, sg.length, rfl, h1, T.zx, T.q1d, T.q0Q, rfl, rfl, by rw [e]; exact Nat.le_trans hl' (by decide), fun l H' s n eL => k l H' s n ?_⟩
  rw [e] at eL; exact eL
 | take to st c =>
  obtain ⟨dx, h1⟩ := ho
  right
  unfold zZ uW
  rw [hσ]
  have hl' : c.toNat ≤ 300 := by rw [show xm.cv (.take to st c) = yy to c.toNat from rfl, yn] at hl; exact hl
  exact ⟨o, dx, _, rfl, h1, rfl, o, a.q0a, dx, _, to, c, rfl, h1, T.xI, T.q0s, T.q0p, rfl, rfl, Nat.le_trans hl' (by decide), fun l H' s n eL => k l H' s n eL⟩
theorem xm7 (k : Nat) (all : List (List Int)) (cs : List Int) (h : all[0]? = some cs) : num k all = cs.map (fun c => (k, c)) ++ num (k + 1) (all.drop 1) := by
 cases all with
 | nil => simp at h
 | cons x r => simp at h; subst h; rfl
theorem xf0 (T : Txt K mg a) : xA P w K mg base CX0 2 a.q0O a.vK ["rows"] (xmU K a) := by
 refine T.zv.ok xcm (fun vs H Q E h => ?_) (fun cdv A outer s H vs Q E hr h => ?_)
 ·obtain ⟨l, rs, rfl, _⟩ := h; rfl
 ·obtain ⟨l, rs, rfl, ⟨ts, hl, hp⟩, ⟨hr1, hr2⟩, hN, q⟩ := h
  have nd := xcm.nd
  refine ⟨_, (xk (xC (i := 1) nd rfl (Or.inl rfl) xfO)
  (xk (yF PassesOwn.never rfl (xjL (by rfl) T.q1b (xa (cv 0) xf)) (xb6 rfl (yE (xM (i := 2) nd rfl (Or.inl rfl)) (yE (xM (i := 3) nd rfl (Or.inl rfl)) xaX))) (xl (yF PassesOwn.never rfl (zo (xb8 (xT (cv 3) T.zx T.uS (yY T) (hr.mono (by decide)) T.ym .nil xr) (xT (cv 3) T.xI T.vP (yY T) (hr.mono (by decide)) T.ym .nil xr))) (xM (i := 4) nd rfl (Or.inl rfl)) (xk (xN (xkw (xlr (xeV hr) (cv 4) (cv 1)) (by rfl)) xdD xF)
  (xl (xgR (xeV hr) (cv 1) (cv 4) jP rfl))))))
  (xl (xu xbm)))), ?_⟩
  walk_at "w"
  intro d hd'
  generalize hU0 : upd H d _ = H1
  have sH1 := xc.of_eq hd' hU0
  have ed := xq hU0
  clear hU0
  walk_at "w"
  have htl : ts.length = rs.length := hp.length
  refine ⟨l, rfl, ⟨_, sH1.seq hl⟩, ?_⟩
  walk_at "w"
  refine xfv (xs := ts.map V.ref) (fun i σ G => xc H G ∧ (∃ kvs seen, G d = some (.dK kvs) ∧ InD kvs seen ∧ kvs.length ≤ i * 300 ∧ xcq rs = tw (num i ((rs.map xm.cv).drop i)) seen) ∧ ∃ x2 x3 x4, σ = [some (.ref l), some (.ref d), x2, x3, x4]) ⟨sH1, ⟨[], [], ed, InD.nil, by simp, rfl⟩, _, _, _, rfl⟩ (fun i σ G hi hP => hP.1.seq hl) (fun i x σ G T0 hx hP hT0 => ?_) (fun σ G hP => ?_)
  ·obtain ⟨s1, ⟨kvs, seen, hd, hin, hkl, htw⟩, x2, x3, x4, rfl⟩ := hP
   rw [List.getElem?_map] at hx
   obtain ⟨o, ho, rfl⟩ := Option.map_eq_some_iff.mp hx
   have hi : i < ts.length := (List.getElem?_eq_some_iff.mp ho).1
   obtain ⟨r, hr, hob⟩ := Paired.nth hp ho
   generalize hU : upd G T0 _ = G2
   have s2 := xc.of_eq hT0 hU
   have eT := xq hU
   clear hU
   walk_at "w"
   refine ⟨T0, _, rfl, SqT.of eT, rfl, ?_⟩
   walk_at "w"
   refine ⟨_, _, rfl, ?_⟩
   walk_at "w"
   refine ⟨_, _, rfl, ?_⟩
   walk_at "w"
   refine And.intro rfl ?_
   walk_at "w"
   have hrm : r ∈ rs := List.mem_of_getElem? hr
   refine xj6 (K := K) T (r := r) (hob.same (s1.trans s2)) (hr2 r hrm).1 fun L G3 s3 hL eL => ?_
   walk_at "w"
   refine ⟨L, rfl, ⟨_, SqL.of eL⟩, ?_⟩
   walk_at "w"
   have hd3 : G3 d = some (.dK kvs) := s3.at (s2.at hd)
   have nLd : L ≠ d := xar eL hd3 (fun z => by cases z)
   have hdr : ((rs.map xm.cv).drop i)[0]? = some r.cv := by rw [List.getElem?_drop, Nat.add_zero, List.getElem?_map, hr]; rfl
   rw [xm7 i _ _ hdr, List.drop_drop] at htw
   refine zH (xs := r.cv.map V.int) (fun j σ G4 => xc H G4 ∧ G4 L = some (.lst (r.cv.map V.int)) ∧ (∃ kvs seen, G4 d = some (.dK kvs) ∧ InD kvs seen ∧ kvs.length ≤ i * 300 + j ∧ xcq rs = tw ((r.cv.drop j).map (fun c => (i, c)) ++ num (i + 1) ((rs.map xm.cv).drop (i + 1))) seen) ∧ ∃ x4, σ = [some (.ref l), some (.ref d), some (.int i), some (.ref o), x4])
    ⟨s1.trans (s2.trans s3), eL, ⟨kvs, seen, hd3, hin, by omega, by rw [List.drop_zero]; exact htw⟩, _, rfl⟩ (fun j σ G4 hj hQ => SqL.of hQ.2.1) (fun j x σ G4 hx hQ => ?_) (fun σ G4 hQ => ?_)
   ·obtain ⟨s4, eL4, ⟨kvs4, seen4, hd4, hin4, hk4, htw4⟩, x4, rfl⟩ := hQ
    rw [List.getElem?_map] at hx
    obtain ⟨c, hc, rfl⟩ := Option.map_eq_some_iff.mp hx
    have hj : j < r.cv.length := (List.getElem?_eq_some_iff.mp hc).1
    have hb := (hr2 r hrm).1
    have ecut : r.cv.drop j = c :: r.cv.drop (j + 1) := by
     rw [List.drop_eq_getElem_cons hj, (List.getElem?_eq_some_iff.mp hc).2]
    rw [ecut, List.map_cons, List.cons_append, tw] at htw4
    walk_at "w"
    refine ⟨d, _, rfl, xdw.k (k := Sum.inl c) hd4, ?_⟩
    walk_at "w"
    rw [hin4 c]
    refine ⟨fun e => ?_, fun e => ?_⟩
    ·have e' := of_decide_eq_true e
     rw [if_pos e'] at htw4
     rw [htw4] at hN
     cases hN
    ·have e' := of_decide_eq_false e
     rw [if_neg e'] at htw4
     walk_at "w"
     refine ⟨d, _, rfl, xfN.k (k := Sum.inl c) hd4 (by rw [sizeLine_eq]; omega), ?_⟩
     generalize hV : upd G4 d _ = G5
     have s5 : xc H G5 := xc.wr s4 hd' hV
     have eL5 : G5 L = some (.lst (r.cv.map V.int)) := by rw [← hV, xn nLd]; exact eL4
     have hd5 := xq hV
     clear hV
     have := xfZ kvs4 (Sum.inl c) (.bl true)
     exact ⟨s5, eL5, ⟨_, _, hd5, hin4.put c _, by omega, htw4⟩, _, rfl⟩
   ·obtain ⟨s4, eL4, ⟨kvs4, seen4, hd4, hin4, hk4, htw4⟩, x4, rfl⟩ := hQ
    rw [List.length_map] at hk4 htw4
    rw [List.drop_length] at htw4
    have hb := (hr2 r hrm).1
    exact ⟨s4, ⟨kvs4, seen4, hd4, hin4, by omega, htw4⟩, _, _, _, rfl⟩
  ·obtain ⟨s1, ⟨kvs, seen, hd, hin, hkl, htw⟩, x2, x3, x4, rfl⟩ := hP
   have e0 : (rs.map xm.cv).drop (ts.map V.ref).length = [] := by
    rw [List.length_map, htl]
    exact List.drop_eq_nil_of_le (by rw [List.length_map]; exact Nat.le_refl _)
   rw [e0] at htw
   have e1 : xcq rs = none := htw
   rw [e1] at q
   exact q G s1
theorem xon (T : Txt K mg a) {H : Hp} {o : Addr} {r : xm} {Q : VK} {σ : L2.St} {i : Nat} (ho : zO K a H o r) (hc : r.cv.length ≤ 300)
  (k : ∀ l H', xc H H' → H l = none → H' l = some (.lst (r.rds.map V.int)) → Q (.ref l) H') (hσ : σ[i]? = some (some (.ref o)) := by rfl) :
  zZ a.q0c "reads" (xhH a) [] E0 (uW i) xat σ H Q ∨ zZ a.q0a "reads" (xhG a) [] E0 (uW i) xat σ H Q := by
 cases r with
 | put to sg =>
  obtain ⟨dx, u, h1, h2⟩ := ho
  left
  unfold zZ uW
  rw [hσ]
  exact ⟨o, dx, _, rfl, h1, rfl, o, dx, u, to, sg.length, rfl, h1, fun l H' s n eL => k l H' s n eL⟩
 | take to st c =>
  obtain ⟨dx, h1⟩ := ho
  right
  unfold zZ uW
  rw [hσ]
  have hl' : c.toNat ≤ 300 := by rw [show xm.cv (.take to st c) = yy to c.toNat from rfl, yn] at hc; exact hc
  exact ⟨o, dx, _, rfl, h1, rfl, o, dx, to, st, c, rfl, h1, Nat.le_trans hl' (by decide), fun l H' s n eL => k l H' s n eL⟩
theorem xoo (T : Txt K mg a) {H : Hp} {o : Addr} {r : xm} {Q : VK} {σ : L2.St} {i : Nat} (ho : zO K a H o r) (hc : r.cv.length ≤ 300)
  (k : ∀ l H', xc H H' → H l = none → H' l = some (.lst (r.wrs.map V.int)) → Q (.ref l) H') (hσ : σ[i]? = some (some (.ref o)) := by rfl) :
  zZ a.q0c "writes" (xgI a) [] E0 (uW i) xat σ H Q ∨ zZ a.q0a "writes" (xgH a) [] E0 (uW i) xat σ H Q := by
 cases r with
 | put to sg =>
  obtain ⟨dx, u, h1, h2⟩ := ho
  left
  unfold zZ uW
  rw [hσ]
  have e : (sg.length : Int).toNat = sg.length := by simp
  have hl' : sg.length ≤ 300 := by rw [show xm.cv (.put to sg) = yy to sg.length from rfl, yn] at hc; exact hc
  refine ⟨o, dx, _, rfl, h1, rfl, o, dx, u, to, sg.length, rfl, h1, by rw [e]; exact Nat.le_trans hl' (by decide), fun l H' s n eL => k l H' s n ?_⟩
  rw [e] at eL; exact eL
 | take to st c =>
  obtain ⟨dx, h1⟩ := ho
  right
  unfold zZ uW
  rw [hσ]
  have hl' : c.toNat ≤ 300 := by rw [show xm.cv (.take to st c) = yy to c.toNat from rfl, yn] at hc; exact hc
  exact ⟨o, dx, _, rfl, h1, rfl, o, dx, to, st, c, rfl, h1, Nat.le_trans hl' (by decide), fun l H' s n eL => k l H' s n eL⟩
theorem xeF {ls : List Int} {p : Int → Bool} {j : Nat} (h : ∀ i, i < j → ∀ c, ls[i]? = some c → p c = false) : ls.find? p = (ls.drop j).find? p := by
 induction j with
 | zero => rfl
 | succ j ih =>
  rw [ih fun i hi => h i (by omega)]
  by_cases hj : j < ls.length
  ·have hc : ls[j]? = some ls[j] := List.getElem?_eq_getElem hj
   rw [List.drop_eq_getElem_cons hj, List.find?_cons, h j (by omega) _ hc]
  ·rw [List.drop_eq_nil_of_le (by omega), List.drop_eq_nil_of_le (by omega)]
theorem xk2 (T : Txt K mg a) : xA P w K mg base CX0 2 a.q1n a.xcA ["rows", "new"] (xkQ K a) := by
 refine T.xal.ok xgx (fun vs H Q E h => ?_) (fun cdv A outer s H vs Q E hr h => ?_)
 ·obtain ⟨l, rs, new, rfl, _⟩ := h; rfl
 ·obtain ⟨l, rs, new, rfl, ⟨ts, hl, hp⟩, ⟨hr1, hr2⟩, hnew, hN, q⟩ := h
  have nd := xgx.nd
  refine ⟨_, (xk (xC (i := 2) nd rfl (Or.inl rfl) xfO)
  (xk (yF PassesOwn.never rfl (zo (cv 0)) (xM (i := 3) nd rfl (Or.inl rfl)) (xl (yF PassesOwn.never rfl (zo (xb8 (xT (cv 3) T.zx T.uS (yY T) (hr.mono (by decide)) T.ym .nil xr) (xT (cv 3) T.xI T.vP (yY T) (hr.mono (by decide)) T.ym .nil xr))) (xM (i := 4) nd rfl (Or.inl rfl)) (xl (xgR (xeV hr) (cv 2) (cv 4) jP rfl)))))
  (xk (yF PassesOwn.never rfl (ug (by rfl) T.q0K (xa (cv 1) xf)) (xM (i := 4) nd rfl (Or.inl rfl)) (xl (xN (xkw (xls (xeV hr) (cv 4) (cv 2)) (by rfl)) xdD xF)))
  (xl (xu xbm))))), ?_⟩
  walk_at "w"
  intro d hd'
  generalize hU0 : upd H d _ = H1
  have sH1 := xc.of_eq hd' hU0
  have ed := xq hU0
  clear hU0
  walk_at "w"
  have htl : ts.length = rs.length := hp.length
  refine ⟨l, rfl, ⟨_, sH1.seq hl⟩, ?_⟩
  walk_at "w"
  refine zH (xs := ts.map V.ref) (fun i σ G => xc H G ∧ (∃ kvs seen, G d = some (.dK kvs) ∧ InD kvs seen ∧ kvs.length ≤ i * 300 ∧ ∀ c, c ∈ seen ↔ c ∈ ((rs.map xm.cv).take i).flatten) ∧ ∃ x3 x4, σ = [some (.ref l), some (.int new), some (.ref d), x3, x4]) ⟨sH1, ⟨[], [], ed, InD.nil, by simp, fun c => by simp⟩, _, _, rfl⟩ (fun i σ G hi hP => hP.1.seq hl) (fun i x σ G hx hP => ?_) (fun σ G hP => ?_)
  ·obtain ⟨s1, ⟨kvs, seen, hd, hin, hkl, hse⟩, x3, x4, rfl⟩ := hP
   rw [List.getElem?_map] at hx
   obtain ⟨o, ho, rfl⟩ := Option.map_eq_some_iff.mp hx
   obtain ⟨r, hr, hob⟩ := Paired.nth hp ho
   have hrm : r ∈ rs := List.mem_of_getElem? hr
   have hi : i < ts.length := (List.getElem?_eq_some_iff.mp ho).1
   walk_at "w"
   refine xj6 (K := K) T (r := r) (hob.same s1) (hr2 r hrm).1 fun L G3 s3 hL eL => ?_
   walk_at "w"
   refine ⟨L, rfl, ⟨_, SqL.of eL⟩, ?_⟩
   walk_at "w"
   have hd3 : G3 d = some (.dK kvs) := s3.at hd
   have nLd : L ≠ d := xar eL hd3 (fun z => by cases z)
   refine zH (xs := r.cv.map V.int) (fun j σ G4 => xc H G4 ∧ G4 L = some (.lst (r.cv.map V.int)) ∧ (∃ kvs seen, G4 d = some (.dK kvs) ∧ InD kvs seen ∧ kvs.length ≤ i * 300 + j ∧ ∀ c, c ∈ seen ↔ c ∈ ((rs.map xm.cv).take i).flatten ++ r.cv.take j) ∧ ∃ x4, σ = [some (.ref l), some (.int new), some (.ref d), some (.ref o), x4])
    ⟨s1.trans s3, eL, ⟨kvs, seen, hd3, hin, by omega, fun c => by rw [List.take_zero, List.append_nil]; exact hse c⟩, _, rfl⟩ (fun j σ G4 hj hQ => SqL.of hQ.2.1) (fun j x σ G4 hx hQ => ?_) (fun σ G4 hQ => ?_)
   ·obtain ⟨s4, eL4, ⟨kvs4, seen4, hd4, hin4, hk4, hse4⟩, x4, rfl⟩ := hQ
    rw [List.getElem?_map] at hx
    obtain ⟨c, hc, rfl⟩ := Option.map_eq_some_iff.mp hx
    have hj : j < r.cv.length := (List.getElem?_eq_some_iff.mp hc).1
    have hb := (hr2 r hrm).1
    walk_at "w"
    refine ⟨d, _, rfl, xfN.k (k := Sum.inl c) hd4 (by rw [sizeLine_eq]; omega), ?_⟩
    generalize hV : upd G4 d _ = G5
    have s5 : xc H G5 := xc.wr s4 hd' hV
    have eL5 : G5 L = some (.lst (r.cv.map V.int)) := by rw [← hV, xn nLd]; exact eL4
    have hd5 := xq hV
    clear hV
    have := xfZ kvs4 (Sum.inl c) (.bl true)
    refine ⟨s5, eL5, ⟨_, _, hd5, hin4.put c _, by omega, fun y => ?_⟩, _, rfl⟩
    rw [List.take_succ, hc, ← List.append_assoc, List.mem_append, List.mem_cons, hse4 y]
    simp [or_comm]
   ·obtain ⟨s4, eL4, ⟨kvs4, seen4, hd4, hin4, hk4, hse4⟩, x4, rfl⟩ := hQ
    rw [List.length_map] at hk4 hse4
    rw [List.take_length] at hse4
    have hb := (hr2 r hrm).1
    refine ⟨s4, ⟨kvs4, seen4, hd4, hin4, by omega, fun c => ?_⟩, _, _, rfl⟩
    rw [hse4 c, List.take_succ, List.getElem?_map, hr, List.flatten_append]
    simp
  ·obtain ⟨s1, ⟨kvs, seen, hd, hin, hkl, hse⟩, x3, x4, rfl⟩ := hP
   rw [List.length_map] at hse
   have hse' : ∀ c, c ∈ seen ↔ c ∈ (rs.map xm.cv).flatten := fun c => by
    rw [hse c, htl]
    rw [List.take_of_length_le (by rw [List.length_map]; exact Nat.le_refl _)]
   walk_at "w"
   have en : yo 0 ((new : Nat) : Int) 1 = new := by rw [yI]; omega
   rw [en]
   refine xbq (fun i σ G2 => G2 = G ∧ (∀ j, j < i → ((j : Nat) : Int) ∈ (rs.map xm.cv).flatten) ∧ ∃ x4, σ = [some (.ref l), some (.int new), some (.ref d), x3, x4]) ⟨rfl, fun j hj => absurd hj (Nat.not_lt_zero _), _, rfl⟩ (fun i σ G2 hi hQ => ?_) (fun σ G2 hQ => ?_)
   ·obtain ⟨rfl, hall, x4, rfl⟩ := hQ
    have ei : (0 + (i : Int) * 1) = (i : Int) := by omega
    rw [ei]
    walk_at "w"
    refine ⟨d, _, rfl, xdw.k (k := Sum.inl (i : Int)) hd, ?_⟩
    walk_at "w"
    rw [hin]
    refine ⟨fun e => ?_, fun e => ?_⟩
    ·have e' : ¬ (i : Int) ∈ seen := by simpa using e
     have ef : xaU rs new = some (i : Int) := by
      unfold xaU
      rw [xeF (j := i) (fun j hj c hc => ?_), List.drop_eq_getElem_cons (by simp; exact hi), List.find?_cons]
      ·simp only [List.getElem_map, List.getElem_range]
       have : ¬ (i : Int) ∈ (rs.map xm.cv).flatten := fun z => e' ((hse' _).mpr z)
       simp only [decide_eq_false this]
       rfl
      ·rw [List.getElem?_map, List.getElem?_range (by omega)] at hc
       cases hc
       simp only [decide_eq_true (hall j hj)]
       rfl
     rw [ef] at hN
     cases hN
    ·have e' : (i : Int) ∈ seen := by simpa using e
     refine ⟨rfl, fun j hj => ?_, _, rfl⟩
     by_cases hji : j = i
     ·rw [hji]; exact (hse' _).mp e'
     ·exact hall j (by omega)
   ·obtain ⟨rfl, hall, x4, rfl⟩ := hQ
    have ef : xaU rs new = none := by
     unfold xaU
     rw [List.find?_eq_none]
     intro c hc
     obtain ⟨j, hj, rfl⟩ := List.mem_map.mp hc
     simp [hall j (List.mem_range.mp hj)]
    rw [ef] at q
    exact q G2 s1
theorem xk3 (k : Nat) (rs : List xm) (r : xm) (wr : List Int) (h : rs[0]? = some r) : xbl k rs wr = match r.rds.find? fun c => decide (c ∈ wr) with
  | some c => some (k, c)
  | none => xbl (k + 1) (rs.drop 1) (wr ++ r.wrs) := by
 cases rs with
 | nil => simp at h
 | cons x t => simp at h; subst h; rfl
theorem xhI : ∀ (k : Nat) (rs : List xm) (w1 w2 : List Int), (∀ c, c ∈ w1 ↔ c ∈ w2) → xbl k rs w1 = xbl k rs w2
 | _, [], _, _, _ => rfl
 | k, r :: t, w1, w2, h => by
  unfold xbl
  have e : (fun c => decide (c ∈ w1)) = fun c => decide (c ∈ w2) := funext fun c => by congr 1; exact propext (h c)
  rw [e]
  cases r.rds.find? fun c => decide (c ∈ w2) with
  | some c => rfl
  | none => exact xhI (k + 1) t _ _ fun c => by rw [List.mem_append, List.mem_append, h c]
theorem xiT (T : Txt K mg a) : xA P w K mg base CX0 3 a.q09 a.xbd ["rows"] (xoj K a) := by
 refine T.vy.ok xez (fun vs H Q E h => ?_) (fun cdv A outer s H vs Q E hr h => ?_)
 ·obtain ⟨l, rs, rfl, _⟩ := h; rfl
 ·obtain ⟨l, rs, rfl, ⟨ts, hl, hp⟩, ⟨hr1, hr2⟩, q⟩ := h
  have nd := xez.nd
  refine ⟨_, (xk (xC (i := 1) nd rfl (Or.inl rfl) xfO)
  (xk (yF PassesOwn.never rfl (xjL (by rfl) T.q1b (xa (cv 0) xf)) (xb6 rfl (yE (xM (i := 2) nd rfl (Or.inl rfl)) (yE (xM (i := 3) nd rfl (Or.inl rfl)) xaX))) (xk (yF PassesOwn.never rfl (zo (xb8 (xT (cv 3) T.zx T.xes (xiS T) (hr.mono (by decide)) T.xbg .nil xr) (xT (cv 3) T.xI T.xdX (xhX T) (hr.mono (by decide)) T.xaK .nil xr))) (xM (i := 4) nd rfl (Or.inl rfl)) (xl (xN (xkw (xlr (xeV hr) (cv 4) (cv 1)) (by rfl)) (xl (xu (uG (xa xas (xa (cv 2) (xa (cv 4) xf)))))) xF)))
  (xl (yF PassesOwn.never rfl (zo (xb8 (xT (cv 3) T.zx T.xdU (xhY T) (hr.mono (by decide)) T.xaM .nil xr) (xT (cv 3) T.xI T.xde (xhc T) (hr.mono (by decide)) T.jX .nil xr))) (xM (i := 4) nd rfl (Or.inl rfl)) (xl (xgR (xeV hr) (cv 1) (cv 4) jP rfl))))))
  (xl (xu xbm)))), ?_⟩
  walk_at "w"
  intro d hd'
  generalize hU0 : upd H d _ = H1
  have sH1 := xc.of_eq hd' hU0
  have ed := xq hU0
  clear hU0
  walk_at "w"
  have htl : ts.length = rs.length := hp.length
  refine ⟨l, rfl, ⟨_, sH1.seq hl⟩, ?_⟩
  walk_at "w"
  refine xfv (xs := ts.map V.ref) (fun i σ G => xc H G ∧ (∃ kvs seen, G d = some (.dK kvs) ∧ InD kvs seen ∧ kvs.length ≤ i * 300 ∧ xdP rs = xbl i (rs.drop i) seen) ∧ ∃ x2 x3 x4, σ = [some (.ref l), some (.ref d), x2, x3, x4]) ⟨sH1, ⟨[], [], ed, InD.nil, by simp, rfl⟩, _, _, _, rfl⟩ (fun i σ G hi hP => hP.1.seq hl) (fun i x σ G T0 hx hP hT0 => ?_) (fun σ G hP => ?_)
  ·obtain ⟨s1, ⟨kvs, seen, hd, hin, hkl, hla⟩, x2, x3, x4, rfl⟩ := hP
   rw [List.getElem?_map] at hx
   obtain ⟨o, ho, rfl⟩ := Option.map_eq_some_iff.mp hx
   obtain ⟨r, hr, hob⟩ := Paired.nth hp ho
   have hrm : r ∈ rs := List.mem_of_getElem? hr
   generalize hU : upd G T0 _ = G2
   have s2 := xc.of_eq hT0 hU
   have eT := xq hU
   clear hU
   have hdr : (rs.drop i)[0]? = some r := by rw [List.getElem?_drop, Nat.add_zero]; exact hr
   rw [xk3 i _ r seen hdr, List.drop_drop] at hla
   walk_at "w"
   refine ⟨T0, _, rfl, SqT.of eT, rfl, ?_⟩
   walk_at "w"
   refine ⟨_, _, rfl, ?_⟩
   walk_at "w"
   refine ⟨_, _, rfl, ?_⟩
   walk_at "w"
   refine And.intro rfl ?_
   walk_at "w"
   refine xon (K := K) T (r := r) (hob.same (s1.trans s2)) (hr2 r hrm).1 fun L G3 s3 hL eL => ?_
   walk_at "w"
   refine ⟨L, rfl, ⟨_, SqL.of eL⟩, ?_⟩
   walk_at "w"
   have hd3 : G3 d = some (.dK kvs) := s3.at (s2.at hd)
   have s13 : xc H G3 := s1.trans (s2.trans s3)
   refine zH (xs := r.rds.map V.int) (fun j σ G4 => G4 = G3 ∧ (∀ i', i' < j → ∀ c, r.rds[i']? = some c → decide (c ∈ seen) = false) ∧ ∃ x4, σ = [some (.ref l), some (.ref d), some (.int i), some (.ref o), x4])
    ⟨rfl, fun j hj => absurd hj (Nat.not_lt_zero _), _, rfl⟩ (fun j σ G4 hj hQ => by rw [hQ.1]; exact SqL.of eL) (fun j x σ G4 hx hQ => ?_) (fun σ G4 hQ => ?_)
   ·obtain ⟨rfl, hno, x4, rfl⟩ := hQ
    rw [List.getElem?_map] at hx
    obtain ⟨c, hc, rfl⟩ := Option.map_eq_some_iff.mp hx
    have hj : j < r.rds.length := (List.getElem?_eq_some_iff.mp hc).1
    walk_at "w"
    refine ⟨d, _, rfl, xdw.k (k := Sum.inl c) hd3, ?_⟩
    walk_at "w"
    rw [hin c]
    refine ⟨fun e => ?_, fun e => ?_⟩
    ·have ef : r.rds.find? (fun c => decide (c ∈ seen)) = some c := by
      rw [xeF (j := j) hno, List.drop_eq_getElem_cons hj, List.find?_cons, (List.getElem?_eq_some_iff.mp hc).2, e]
     rw [ef] at hla
     rw [hla] at q
     walk_at "w"
     walk_at "ss"
     intro t ht
     exact q t _ (s13.trans (xc.new ht)) xo
    ·refine ⟨rfl, fun i' hi' c' hc' => ?_, _, rfl⟩
     by_cases hji : i' = j
     ·rw [hji, hc] at hc'; cases hc'; exact e
     ·exact hno i' (by omega) c' hc'
   ·obtain ⟨rfl, hno, x4, rfl⟩ := hQ
    rw [List.length_map] at hno
    have ef : r.rds.find? (fun c => decide (c ∈ seen)) = none := by
     rw [xeF (j := r.rds.length) hno, List.drop_length]; rfl
    rw [ef] at hla
    walk_at "w"
    refine xoo (K := K) T (r := r) (hob.same s13) (hr2 r hrm).1 fun L2 G5 s5 hL2 eL2 => ?_
    walk_at "w"
    refine ⟨L2, rfl, ⟨_, SqL.of eL2⟩, ?_⟩
    walk_at "w"
    have hd5 : G5 d = some (.dK kvs) := s5.at hd3
    have nLd : L2 ≠ d := xar eL2 hd5 (fun z => by cases z)
    have hwl := (hr2 r hrm).2.2
    refine zH (xs := r.wrs.map V.int) (fun j σ G6 => xc H G6 ∧ G6 L2 = some (.lst (r.wrs.map V.int)) ∧ (∃ kvs' seen', G6 d = some (.dK kvs') ∧ InD kvs' seen' ∧ kvs'.length ≤ i * 300 + j ∧ ∀ c, c ∈ seen' ↔ c ∈ seen ++ r.wrs.take j) ∧ ∃ x4, σ = [some (.ref l), some (.ref d), some (.int i), some (.ref o), x4])
     ⟨s13.trans s5, eL2, ⟨kvs, seen, hd5, hin, by omega, fun c => by rw [List.take_zero, List.append_nil]⟩, _, rfl⟩ (fun j σ G6 hj hQ => SqL.of hQ.2.1) (fun j x σ G6 hx hQ => ?_) (fun σ G6 hQ => ?_)
    ·obtain ⟨s6, eL6, ⟨kvs6, seen6, hd6, hin6, hk6, hse6⟩, x4, rfl⟩ := hQ
     rw [List.getElem?_map] at hx
     obtain ⟨c, hc, rfl⟩ := Option.map_eq_some_iff.mp hx
     have hj : j < r.wrs.length := (List.getElem?_eq_some_iff.mp hc).1
     have hi : i < ts.length := (List.getElem?_eq_some_iff.mp ho).1
     walk_at "w"
     refine ⟨d, _, rfl, xfN.k (k := Sum.inl c) hd6 (by rw [sizeLine_eq]; omega), ?_⟩
     generalize hV : upd G6 d _ = G7
     have s7 : xc H G7 := xc.wr s6 hd' hV
     have eL7 : G7 L2 = some (.lst (r.wrs.map V.int)) := by rw [← hV, xn nLd]; exact eL6
     have hd7 := xq hV
     clear hV
     have := xfZ kvs6 (Sum.inl c) (.bl true)
     refine ⟨s7, eL7, ⟨_, _, hd7, hin6.put c _, by omega, fun y => ?_⟩, _, rfl⟩
     rw [List.take_succ, hc, ← List.append_assoc, List.mem_append, List.mem_cons, hse6 y]
     simp [or_comm]
    ·obtain ⟨s6, eL6, ⟨kvs6, seen6, hd6, hin6, hk6, hse6⟩, x4, rfl⟩ := hQ
     rw [List.length_map] at hk6 hse6
     rw [List.take_length] at hse6
     refine ⟨s6, ⟨kvs6, seen6, hd6, hin6, by omega, ?_⟩, _, _, _, rfl⟩
     rw [hla]
     exact xhI _ _ _ _ fun c => (hse6 c).symm
  ·obtain ⟨s1, ⟨kvs, seen, hd, hin, hkl, hla⟩, x2, x3, x4, rfl⟩ := hP
   have e0 : rs.drop (ts.map V.ref).length = [] := by
    rw [List.length_map, htl]
    exact List.drop_length
   rw [e0] at hla
   have e1 : xdP rs = none := hla
   rw [e1] at q
   exact q G s1
theorem xeG (T : Txt K mg a) : xA P w K mg base CX0 3 a.q08 a.xbc ["value"] xiK := by
 refine T.uA.ok xey (fun vs H Q E h => ?_) (fun cdv A outer s H vs Q E hr h => ?_)
 ·obtain ⟨i, rfl, _⟩ := h; rfl
 ·obtain ⟨i, rfl, h0, h3, q⟩ := h
  have nd := xey.nd
  refine ⟨_, (xl (xu (vT (xv (zY T) (hr.mono (by decide)) (by rfl) T.zr T.xY.kp T.yu .nil xr (xa xh (xa (cv 0) xf))) (xbn (jJ xfP (cv 0) (xeO (v := .int 300) (by rfl) T.xix ⟨_, rfl⟩)))))), ?_⟩
  walk_at "w"
  refine ⟨_, i, rfl, ?_⟩
  rw [decide_eq_true h0]
  walk_at "w"
  refine ⟨fun _ => ?_, by walk_at "no"⟩
  show Q (.bl (decide (i ≤ 300))) H
  rw [decide_eq_true h3]
  exact q
theorem xgJ (T : Txt K mg a) : xA P w K mg base CX0 4 a.q0T a.jA ["paper"] (xok K) := by
 refine T.zR.ok xcN (fun vs H Q E h => ?_) (fun cdv A outer s H vs Q E hr h => ?_)
 ·obtain ⟨p, o, n, rs, rfl, _⟩ := h; rfl
 ·obtain ⟨p, o, n, rs, rfl, ⟨tt, ts, hp, ht, hts⟩, ho0, ho3, hn0, hn3, hl, q⟩ := h
  have nd := xcN.nd
  refine ⟨_, (xl (xu (vT (xv (xeG T) (hr.mono (by decide)) (by rfl) T.xcY T.uA.kp T.jO .nil xr (xa (xy xD (cv 0) xh (fun _ _ => rfl)) xf)) (vT (xv (xeG T) (hr.mono (by decide)) (by rfl) T.xcY T.uA.kp T.jO .nil xr (xa (xy xD (cv 0) xh (fun _ _ => rfl)) xf)) (xbn (jJ xfP (xE xG (by rfl) T.q0V yv (xa (xy xD (cv 0) xh (fun _ _ => rfl)) xf)) (xeO (v := .int 300) (by rfl) T.xix ⟨_, rfl⟩))))))), ?_⟩
  walk_at "w"
  refine ⟨p, _, _, .int o, rfl, rfl, SqT.of hp, rfl, ?_⟩
  walk_at "w"
  refine ⟨o, rfl, ho0, ho3, ?_⟩
  walk_at "w"
  refine ⟨fun _ => ?_, by walk_at "no"⟩
  walk_at "w"
  refine ⟨p, _, _, .int n, rfl, rfl, SqT.of hp, rfl, ?_⟩
  walk_at "w"
  refine ⟨n, rfl, hn0, hn3, ?_⟩
  walk_at "w"
  refine ⟨fun _ => ?_, by walk_at "no"⟩
  walk_at "w"
  refine ⟨p, _, _, .ref tt, rfl, rfl, SqT.of hp, rfl, ?_⟩
  walk_at "w"
  refine ⟨tt, _, rfl, .inr (SqT.of ht), ?_⟩
  rw [List.length_map, hts.length]
  show Q (.bl (decide ((rs.length : Int) ≤ 300))) H
  rw [decide_eq_true (by omega)]
  exact q
theorem xfo (T : Txt K mg a) : xA P w K mg base CX0 6 a.q0z a.va ["told", "old", "new"] (xkR K) := by
 refine T.yX.ok xbJ (fun vs H Q E h => ?_) (fun cdv A outer s H vs Q E hr h => ?_)
 ·obtain ⟨t, r, old, new, rfl, _⟩ := h; rfl
 ·obtain ⟨t, r, old, new, rfl, ht, hk, hf, q⟩ := h
  have nd := xbJ.nd
  refine ⟨_, (xk (xn3 rfl (xl (xC (i := 3) nd rfl (Or.inl rfl) (xv (xaq T) (hr.mono (by decide)) (by rfl) T.xad T.zV.kp T.vc .nil xr (xa (cv 0) xf)))))
  (xk (xN (PW.pt (xca (uH (xE vU (by rfl) T.q0I zz (xa (cv 3) (xa (xeO (v := .ref a.q0a) (by rfl) T.xgv rfl) xf)))) (xbY (xJ xfQ (xp yc (xH (cv 3) rfl) (xH (cv 3) rfl)) (cv 1))))) (xl (xu jP)) xF)
  (xl (xu (jJ xfP (xy xD (xb8 (xT (cv 3) T.zx T.xdS (xea T) (hr.mono (by decide)) T.ja .nil xr) (xT (cv 3) T.xI T.xdc (xea T) (hr.mono (by decide)) T.ja .nil xr)) xh (fun _ _ => rfl)) (cv 2)))))), ?_⟩
  walk_at "w"
  refine ⟨t, r, rfl, ht, hk, fun o H1 s1 _ ho => ?_⟩
  cases r with
  | take to st c =>
   obtain ⟨dx, ho⟩ := ho
   walk_at "w"
   refine ⟨_, _, _, _, true, rfl, rfl, T.xg2 ho, T.q1i, ?_⟩
   walk_at "w"
   refine ⟨fun _ => ?_, by walk_at "no"⟩
   walk_at "w"
   refine ⟨o, _, dx, _, .int st, rfl, ho, T.xI, T.q0k, rfl, ?_⟩
   walk_at "w"
   refine ⟨o, _, dx, _, .int c, rfl, ho, T.xI, T.q0p, rfl, ?_⟩
   walk_at "w"
   rw [decide_eq_false (show ¬ old < st + c from by have := hf.1; omega)]
   refine ⟨by walk_at "no", fun _ => ?_⟩
   walk_at "w"
   refine Or.inr ?_
   walk_at "w"
   refine ⟨o, dx, _, rfl, ho, rfl, ?_⟩
   walk_at "w"
   refine ⟨o, a.q0a, dx, _, to, c, rfl, ho, T.xI, T.q0s, T.q0p, rfl, rfl, ?_⟩
   intro t3 ht3
   generalize hUt3 : upd H1 t3 _ = H3
   have sH3 := xc.of_eq ht3 hUt3
   have et3 := xq hUt3
   clear hUt3
   walk_at "w"
   refine ⟨t3, _, _, .int (to + c), rfl, rfl, SqT.of et3, rfl, ?_⟩
   show Q (.bl (decide (to + c ≤ new))) H3
   rw [decide_eq_true hf.2]
   exact q H3 (s1.trans sH3)
  | put to sg =>
   obtain ⟨dx, u, ho, hu⟩ := ho
   walk_at "w"
   refine ⟨_, _, _, _, false, rfl, rfl, T.xiw ho, T.q1v, ?_⟩
   walk_at "w"
   refine ⟨by walk_at "no", fun _ => ?_⟩
   walk_at "w"
   refine ⟨by walk_at "no", fun _ => ?_⟩
   walk_at "w"
   refine Or.inl ?_
   walk_at "w"
   refine ⟨o, dx, _, rfl, ho, rfl, ?_⟩
   walk_at "w"
   refine ⟨o, a.q0c, dx, _, to, sg.length, rfl, ho, T.zx, T.q1d, T.q0Q, rfl, rfl, ?_⟩
   intro t3 ht3
   generalize hUt3 : upd H1 t3 _ = H3
   have sH3 := xc.of_eq ht3 hUt3
   have et3 := xq hUt3
   clear hUt3
   walk_at "w"
   refine ⟨t3, _, _, .int (to + sg.length), rfl, rfl, SqT.of et3, rfl, ?_⟩
   show Q (.bl (decide (to + (sg.length : Int) ≤ new))) H3
   rw [decide_eq_true (show to + (sg.length : Int) ≤ new from hf)]
   exact q H3 (s1.trans sH3)
theorem xeH (T : Txt K mg a) : xA P w K mg base CX0 7 a.q0r a.uD ["paper"] (xmV K) := by
 refine T.yU.ok xbx (fun vs H Q E h => ?_) (fun cdv A outer s H vs Q E hr h => ?_)
 ·obtain ⟨p, o, n, rs, rfl, _⟩ := h; rfl
 ·obtain ⟨p, o, n, rs, rfl, ⟨tt, ts, hp, ht, hts⟩, hk, hl, q⟩ := h
  have nd := xbx.nd
  refine ⟨_, (xk (yF PassesOwn.never rfl (xmI (by rfl) T.q1b (xa (xy xD (cv 0) xh (fun _ _ => rfl)) xf)) (xb6 rfl (yE (xM (i := 1) nd rfl (Or.inl rfl)) (yE (xM (i := 2) nd rfl (Or.inl rfl)) xaX))) (xl (xN (xec (uH (xv (xfo T) (hr.mono (by decide)) (by rfl) T.xcg T.yX.kp T.vf .nil xr (xa (cv 2) (xa (xy xD (cv 0) xh (fun _ _ => rfl)) (xa (xy xD (cv 0) xh (fun _ _ => rfl)) xf)))))) (xl (xu (cv 1))) xF)))
  (xl (xu xbm))), ?_⟩
  walk_at "w"
  refine ⟨p, _, _, .ref tt, rfl, rfl, SqT.of hp, rfl, ?_⟩
  walk_at "w"
  refine ⟨tt, rfl, ⟨_, SqT.of ht⟩, ?_⟩
  walk_at "w"
  refine xjd (xs := ts.map V.ref) (fun i σ H1 => xc H H1 ∧ ∃ x1 x2, σ = [some (.ref p), x1, x2]) ⟨xc.refl _, _, _, rfl⟩ (fun i σ H1 hi hP => hP.1.seqT (SqT.of ht)) (fun i x σ H1 T0 hx hP hT0 => ?_) (fun σ H1 hP => ?_)
  ·obtain ⟨s1, x1, x2, rfl⟩ := hP
   rw [List.getElem?_map] at hx
   obtain ⟨t0, ht0, rfl⟩ := Option.map_eq_some_iff.mp hx
   obtain ⟨r, hr0, pr⟩ := xcU hts ht0
   obtain ⟨k1, k2⟩ := hk r (List.mem_of_getElem? hr0)
   generalize hU : upd H1 T0 _ = H2
   have s2 := xc.of_eq hT0 hU
   have eT := xq hU
   clear hU
   have s02 := s1.trans s2
   walk_at "w"
   refine ⟨T0, _, rfl, SqT.of eT, rfl, ?_⟩
   walk_at "w"
   refine ⟨_, _, rfl, ?_⟩
   walk_at "w"
   refine ⟨_, _, rfl, ?_⟩
   walk_at "w"
   refine And.intro rfl ?_
   walk_at "w"
   refine ⟨p, _, _, .int o, rfl, rfl, SqT.of (s02.at hp), rfl, ?_⟩
   walk_at "w"
   refine ⟨p, _, _, .int n, rfl, rfl, SqT.of (s02.at hp), rfl, ?_⟩
   walk_at "w"
   refine ⟨t0, r, o, n, rfl, pr.same s02, k1, k2, fun H3 s3 => ?_⟩
   walk_at "w"
   refine ⟨by walk_at "no", fun _ => ?_⟩
   exact ⟨s02.trans s3, _, _, rfl⟩
  ·obtain ⟨s1, x1, x2, rfl⟩ := hP
   exact q H1 s1
theorem xm8 {old new : Int} {r : xm} (hk : r.ok) (hn : new ≤ 300) (h : Fit old new r) : r.cv.length ≤ 300 ∧ r.rds.length ≤ 300 ∧ r.wrs.length ≤ 300 := by
 cases r with
 | take to st c =>
  obtain ⟨k1, k2, k3⟩ := hk
  have h2 := h.2
  refine ⟨by simp only [xm.cv, yn]; omega, ?_, ?_⟩
  ·simp only [xm.rds]; split
   ·simp
   ·rw [yn]; omega
  ·simp only [xm.wrs]; split
   ·simp
   ·rw [yn]; omega
 | put to sg =>
  have h2 : to + (sg.length : Int) ≤ new := h
  have k1 := hk.1
  refine ⟨by simp only [xm.cv, yn]; omega, by simp [xm.rds], by simp only [xm.wrs, yn]; omega⟩
theorem xm9 (T : Txt K mg a) : xA P w K mg base CX0 8 a.q1R a.xe6 ["paper"] (xmW K) := by
 refine T.xb1.ok xiz (fun vs H Q E h => ?_) (fun cdv A outer s H vs Q E hr h => ?_)
 ·obtain ⟨p, o, n, rs, rfl, _⟩ := h; rfl
 ·obtain ⟨p, o, n, rs, rfl, hP, ho, hn, hl, hk, h1, h2, q⟩ := h
  have nd := xiz.nd
  refine ⟨_, (xk (xN (xec (uH (xv (xgJ T) (hr.mono (by decide)) (by rfl) T.xc7 T.zR.kp T.jD .nil xr (xa (cv 0) xf)))) xdD xF)
  (xk (xC (i := 1) nd rfl (Or.inl rfl) (xv (xeH T) (hr.mono (by decide)) (by rfl) T.xbH T.yU.kp T.uE .nil xr (xa (cv 0) xf)))
  (xk (xN (xgX (cv 1)) xdD xF)
  (xk (xbN (i := 2) (uJ (cap := []) (ys := []) rfl rfl rfl rfl rfl trivial (by decide +kernel)) rfl nd rfl rfl (xf7 (xy xD (cv 0) xh (fun _ _ => rfl))) (fun _ _ _ _ => (xv (xaq T) (hr.mono (by decide)) (by rfl) T.xad T.zV.kp T.vc .nil xr (xa (cv 0) xf))) (fun _ _ _ _ => uK))
  (xk (xC (i := 3) nd rfl (Or.inl rfl) (xv (xf0 T) (hr.mono (by decide)) (by rfl) T.xcH T.zv.kp T.vO .nil xr (xa (cv 2) xf)))
  (xk (xav (xN (xgh (cv 3)) (xl (xC (i := 3) nd rfl (Or.inl rfl) (xv (xk2 T) (hr.mono (by decide)) (by rfl) T.xhC T.xal.kp T.xcI .nil xr (xa (cv 2) (xa (xy xD (cv 0) xh (fun _ _ => rfl)) xf))))) xF))
  (xk (xav (xN (xgh (cv 3)) (xl (xC (i := 3) nd rfl (Or.inl rfl) (xv (xiT T) (hr.mono (by decide)) (by rfl) T.xfA T.vy.kp T.xbj .nil xr (xa (cv 2) xf)))) xF))
  (xl (xu (cv 3)))))))))), ?_⟩
  walk_at "w"
  refine ⟨p, o, n, rs, rfl, hP, ho.1, ho.2, hn.1, hn.2, hl, ?_⟩
  walk_at "w"
  refine ⟨by walk_at "no", fun _ => ?_⟩
  walk_at "w"
  refine ⟨p, o, n, rs, rfl, hP, hk, hl, fun H1 s1 => ?_⟩
  walk_at "w"
  refine ⟨by walk_at "no", fun _ => ?_⟩
  obtain ⟨tt, ts, hp, ht, hts⟩ := hP.same s1
  walk_at "w"
  refine ⟨p, _, _, .ref tt, rfl, rfl, SqT.of hp, rfl, ?_⟩
  walk_at "w"
  refine ⟨tt, rfl, ⟨_, SqT.of ht⟩, ?_⟩
  refine xhx (fun i acc G => ∃ (os : List Addr), acc = os.map V.ref ∧ Paired (zO K a G) os (rs.take i)) (SqT.of ht) (by rw [List.length_map, hts.length, sizeLine_eq]; omega) ⟨[], rfl, .nil⟩ (fun i x acc H3 H3' hx s3 s3' hP R hR => ?_) (fun D acc H3 H3' hD hD3 s3 s3' hP hel he => ?_)
  ·obtain ⟨os, rfl, hpr⟩ := hP
   rw [List.getElem?_map] at hx
   obtain ⟨t0, ht0, rfl⟩ := Option.map_eq_some_iff.mp hx
   obtain ⟨r, hr0, pr⟩ := xcU hts ht0
   walk_at "w"
   refine ⟨t0, r, rfl, pr.same (s3.trans s3'), (hk r (List.mem_of_getElem? hr0)).1, fun o H6' s6 hno hob => hR _ _ s6 fun H6 sx kx => ⟨os ++ [o], by simp, ?_⟩⟩
   rw [List.take_succ, hr0]
   exact vA (L2.Paired.imp' (fun _ _ z => z.same sx) hpr) (hob.mv kx)
  obtain ⟨os, rfl, hpr⟩ := hP
  rw [List.length_map, hts.length, List.take_length] at hpr
  have hpr' := L2.Paired.imp' (fun _ _ (z : zO K a H3 _ _) => z.same s3') hpr
  have sA : xc H H3' := s1.trans (s3.trans s3')
  have hrok : xgC rs := ⟨hl, fun r hrm => xm8 (hk r hrm).1 hn.2 (hk r hrm).2⟩
  have hp3 := (s3.trans s3').at hp
  clear hel hD3 s3 s3' hpr hts ht hp
  walk_at "w"
  refine ⟨D, rs, rfl, ⟨os, SqL.of he, hpr'⟩, hrok, h1, ?_⟩
  rw [h1]
  intro H4 s4
  walk_at "w"
  refine ⟨fun σ' G => σ' = [some (.ref p), some .non, some (.ref D), some .non] ∧ xc H3' G, ?_, ?_⟩
  ·walk_at "w"
   refine ⟨fun _ => ?_, by walk_at "no"⟩
   walk_at "w"
   refine ⟨p, _, _, .int n, rfl, rfl, SqT.of (s4.at hp3), rfl, ?_⟩
   walk_at "w"
   refine ⟨D, rs, n.toNat, by rw [Int.toNat_of_nonneg hn.1]; rfl, ⟨os, SqL.of (s4.at he), L2.Paired.imp' (fun _ _ z => z.same s4) hpr'⟩, hrok, by omega, h2, ?_⟩
   rw [h2]
   intro H5 s5
   exact ⟨rfl, s4.trans s5⟩
  rintro σ' G ⟨rfl, sG⟩
  walk_at "w"
  refine ⟨fun σ' G2 => ∃ v, σ' = [some (.ref p), some .non, some (.ref D), some v] ∧ Q v G2, ?_, ?_⟩
  ·walk_at "w"
   refine ⟨fun _ => ?_, by walk_at "no"⟩
   walk_at "w"
   refine ⟨D, rs, rfl, ⟨os, SqL.of (sG.at he), L2.Paired.imp' (fun _ _ z => z.same sG) hpr'⟩, hrok, ?_⟩
   cases hlt : xdP rs with
   | none =>
    rw [hlt] at q
    intro H5 s5
    exact ⟨_, rfl, q H5 (sA.trans (sG.trans s5))⟩
   | some kc =>
    rw [hlt] at q
    intro t H5 s5 e5
    exact ⟨_, rfl, q t H5 (sA.trans (sG.trans s5)) e5⟩
  rintro σ' G2 ⟨v, rfl, qv⟩
  exact qv
def doL (C : List Int) (xs : List (xm × List Int)) : List Int := xs.foldl (fun C x => doP x.1 C x.2) C
theorem vC : ∀ (xs : List (xm × List Int)) (C : List Int), (doL C xs).length = C.length
 | [], _ => rfl
 | x :: xs, C => by
  show (doL (doP x.1 C x.2) xs).length = _
  rw [vC xs, xha]
theorem xiU {C : List Int} {xs : List (xm × List Int)} {i : Nat} {x : xm × List Int} (h : xs[i]? = some x) : doL C (xs.take (i + 1)) = doP x.1 (doL C (xs.take i)) x.2 := by
 unfold doL
 rw [List.take_succ, h]; simp [List.foldl_append]
def vD (L : Nat) (x : xm × List Int) : Prop := x.1.ok ∧ x.2.length ≤ 300 ∧ ∀ d ∈ x.2, xdn x.1 L d
theorem xl5 (xs : List V) (i : Nat) : xcS xs (some (i : Int)) none = xs.drop i := by
 unfold xcS
 rw [xip (by omega), HT.xfM, Int.toNat_natCast]
 by_cases h : i ≤ xs.length
 ·rw [Nat.min_eq_left h]
  exact List.take_of_length_le (by rw [List.length_drop]; omega)
 ·rw [Nat.min_eq_right (by omega), List.drop_eq_nil_of_le (Nat.le_refl _), List.drop_eq_nil_of_le (by omega)]; simp
theorem xfJ {α β : Type} {F : α → β → Prop} : ∀ {l₁ : List α} {l₂ : List β} (n : Nat), Paired F l₁ l₂ → Paired F (l₁.drop n) (l₂.drop n)
 | _, _, 0, h => h
 | _, _, n + 1, .nil => .nil
 | _, _, n + 1, .cons _ t => xfJ n t
theorem xl6 {r : xm} {L : Nat} {cs : List Int} (h : ∀ d ∈ cs, xdn r L d) : ∀ p ∈ zy r cs, p < (L : Int) := by
 intro p hp
 unfold zy at hp
 obtain ⟨d, hd, hp⟩ := List.mem_flatMap.mp hp
 have h1 := h d hd
 cases r with
 | take to st c =>
  have h2 : 0 ≤ st + d - to ∧ st + d - to < L := h1.2.2
  simp only [plc, List.mem_cons, List.not_mem_nil, or_false] at hp
  rcases hp with rfl | rfl
  ·exact h2.2
  ·exact h1.2.1
 | put to sg =>
  simp only [plc, List.mem_singleton] at hp
  rw [hp]; exact h1.2.1
theorem TupAt.kpS {K : W.Frag} {H H' : Hp} {t : Addr} {r : xm} (h : TupAt K H t r) (k : ∀ b u, H b = some u → ¬ xbF u → H' b = some u) : TupAt K H' t r := by
 cases r with
 | take to st c => exact k _ _ h (fun z => z)
 | put to sg => obtain ⟨u, h1, h2⟩ := h; exact ⟨u, k _ _ h1 (fun z => z), k _ _ h2 (fun z => z)⟩
theorem jE {u : Nat → Nat → List Int} {d k j : Nat} {p : List Int} (h : (chs u d k)[j]? = some p) : j < cN d k ∧ p = u k j := by
 unfold chs at h
 rw [List.getElem?_map] at h
 obtain ⟨i, hi, rfl⟩ := Option.map_eq_some_iff.mp h
 have hj : j < cN d k := by
  have := (List.getElem?_eq_some_iff.mp hi).1
  simpa using this
 rw [List.getElem?_range hj] at hi
 cases hi
 exact ⟨hj, rfl⟩
theorem xcs {lo : Int} {n i : Nat} {d : Int} (h : (yy lo n)[i]? = some d) : i < n ∧ d = lo + i := by
 unfold yy at h
 rw [List.getElem?_map] at h
 obtain ⟨j, hj, rfl⟩ := Option.map_eq_some_iff.mp h
 have hi : i < n := by
  have := (List.getElem?_eq_some_iff.mp hj).1
  simpa using this
 rw [List.getElem?_range hi] at hj
 cases hj
 exact ⟨hi, rfl⟩
theorem xhJ {lo x : Int} {n i : Nat} (h : x ∈ (yy lo n).take i) : lo ≤ x ∧ x < lo + i := by
 obtain ⟨j, hj⟩ := List.mem_iff_getElem?.mp h
 rw [List.getElem?_take] at hj
 split at hj
 ·have := xcs hj
  omega
 ·cases hj
theorem xdR {to : Int} {d k j : Nat} {x : Int} (h : x ∈ uch to d k j) : to + (j * d : Nat) ≤ x ∧ x < to + (j * d : Nat) + d ∧ x < to + k := by
 unfold uch at h
 have := zC.mp h
 omega
theorem xbX {e : Int} {d k j : Nat} {x : Int} (h : x ∈ dch e d k j) : e - ((j + 1) * d : Nat) ≤ x ∧ x < e - (j * d : Nat) ∧ e - k ≤ x := by
 unfold dch at h
 have := zC.mp h
 have e1 : (j + 1) * d = j * d + d := Nat.succ_mul j d
 omega
theorem xhK {xss : List (List Int)} {k : Nat} {x : Int} (h : x ∈ (xss.take k).flatten) : ∃ j p, j < k ∧ xss[j]? = some p ∧ x ∈ p := by
 obtain ⟨p, hp, hx⟩ := List.mem_flatten.mp h
 obtain ⟨j, hj⟩ := List.mem_iff_getElem?.mp hp
 rw [List.getElem?_take] at hj
 split at hj
 ·rename_i hlt
  exact ⟨j, p, hlt, hj, hx⟩
 ·cases hj
theorem xk4 {to st c : Int} (hc : 1 ≤ c) {k i : Nat} {p : List Int} {d x : Int} (hp : (yr to st c)[k]? = some p) (hd : p[i]? = some d) (hx : x ∈ ((yr to st c).take k).flatten ++ p.take i) : x ≠ st + d - to := by
 unfold yr at hp hx
 split at hp
 ·simp at hp
 rename_i hne
 rw [if_neg hne] at hx
 split at hp
 ·rename_i hlt
  rw [if_pos hlt] at hx
  obtain ⟨hk, rfl⟩ := jE hp
  unfold uch at hd
  have h1 := xcs hd
  rcases List.mem_append.mp hx with hx | hx
  ·obtain ⟨j, q, hj, hq, hxq⟩ := xhK hx
   obtain ⟨_, rfl⟩ := jE hq
   have h2 := xdR hxq
   have h3 : (j + 1) * (st - to).toNat ≤ k * (st - to).toNat := Nat.mul_le_mul_right _ hj
   have e1 : (j + 1) * (st - to).toNat = j * (st - to).toNat + (st - to).toNat := Nat.succ_mul _ _
   omega
  ·have h2 := xhJ hx
   omega
 ·rename_i hlt
  rw [if_neg hlt] at hx
  obtain ⟨hk, rfl⟩ := jE hp
  unfold dch at hd
  have h1 := xcs hd
  have ek : (k + 1) * (to - st).toNat = k * (to - st).toNat + (to - st).toNat := Nat.succ_mul _ _
  rcases List.mem_append.mp hx with hx | hx
  ·obtain ⟨j, q, hj, hq, hxq⟩ := xhK hx
   obtain ⟨_, rfl⟩ := jE hq
   have h2 := xbX hxq
   have h3 : (j + 1) * (to - st).toNat ≤ k * (to - st).toNat := Nat.mul_le_mul_right _ hj
   omega
  ·unfold dch at hx
   have h2 := xhJ hx
   omega
theorem xj7 {u : Nat → Nat → List Int} {d k j : Nat} (h : j < cN d k) : u k j ∈ chs u d k := List.mem_map.mpr ⟨j, List.mem_range.mpr h, rfl⟩
theorem xnB {d k m : Nat} (hd : 0 < d) (h : m < k) : m / d < cN d k := by
 unfold cN
 rw [Nat.div_lt_iff_lt_mul hd]
 have h1 := Nat.div_add_mod (k + d - 1) d
 have h2 := Nat.mod_lt (k + d - 1) hd
 have e1 : (k + d - 1) / d * d = d * ((k + d - 1) / d) := Nat.mul_comm _ _
 omega
theorem xgK {to st c : Int} (hc : 1 ≤ c) {x : Int} : x ∈ (yr to st c).flatten ↔ st ≠ to ∧ to ≤ x ∧ x < to + c := by
 unfold yr
 by_cases hne : st = to
 ·rw [if_pos hne]; simp [hne]
 rw [if_neg hne]
 by_cases hlt : to < st
 ·rw [if_pos hlt, List.mem_flatten]
  constructor
  ·rintro ⟨p, hp, hx⟩
   obtain ⟨j, hj⟩ := List.mem_iff_getElem?.mp hp
   obtain ⟨_, rfl⟩ := jE hj
   have := xdR hx
   exact ⟨hne, by omega, by omega⟩
  ·rintro ⟨_, h1, h2⟩
   have hd : 0 < (st - to).toNat := by omega
   generalize (st - to).toNat = d at hd
   have hm := Nat.div_add_mod (x - to).toNat d
   have hr := Nat.mod_lt (x - to).toNat hd
   have ec : (x - to).toNat / d * d = d * ((x - to).toNat / d) := Nat.mul_comm _ _
   refine ⟨_, xj7 (xnB hd (show (x - to).toNat < c.toNat by omega)), ?_⟩
   unfold uch
   rw [zC]
   omega
 ·rw [if_neg hlt, List.mem_flatten]
  constructor
  ·rintro ⟨p, hp, hx⟩
   obtain ⟨j, hj⟩ := List.mem_iff_getElem?.mp hp
   obtain ⟨_, rfl⟩ := jE hj
   have := xbX hx
   exact ⟨hne, by omega, by omega⟩
  ·rintro ⟨_, h1, h2⟩
   have hd : 0 < (to - st).toNat := by omega
   generalize (to - st).toNat = d at hd
   have hm := Nat.div_add_mod (to + c - 1 - x).toNat d
   have hr := Nat.mod_lt (to + c - 1 - x).toNat hd
   have ec : (to + c - 1 - x).toNat / d * d = d * ((to + c - 1 - x).toNat / d) := Nat.mul_comm _ _
   have ed : ((to + c - 1 - x).toNat / d + 1) * d = (to + c - 1 - x).toNat / d * d + d := Nat.succ_mul _ _
   refine ⟨_, xj7 (xnB hd (show (to + c - 1 - x).toNat < c.toNat by omega)), ?_⟩
   unfold dch
   rw [zC]
   omega
theorem xiV {to st c : Int} {p : List Int} (hp : p ∈ yr to st c) : p.length ≤ (st - to).natAbs := by
 unfold yr at hp
 split at hp
 ·simp at hp
 split at hp
 all_goals
  obtain ⟨j, hj⟩ := List.mem_iff_getElem?.mp hp
  obtain ⟨_, rfl⟩ := jE hj
  first | unfold uch | unfold dch
  rw [yn]
  omega
theorem xna {old new : Int} {L : Nat} {r : xm} {c : List Int} (hk : r.ok) (hs : Sm r) (hf : xeC old new r) (h1 : old ≤ L) (h2 : new ≤ L) (hc : c ∈ vB r) : vD L (r, c) := by
 cases r with
 | take to st n =>
  obtain ⟨k1, k2, k3⟩ := hk
  obtain ⟨s1, s2, s3⟩ := hs
  obtain ⟨f1, f2⟩ := hf
  have hc : c ∈ yr to st n := hc
  have hl := xiV hc
  refine ⟨⟨k1, k2, k3⟩, by show c.length ≤ 300; omega, fun d hd => ?_⟩
  have hm := (xgK k3).mp (List.mem_flatten.mpr ⟨c, hc, hd⟩)
  exact ⟨by omega, by omega, by omega, by omega⟩
 | put to sg =>
  have hk' := hk
  obtain ⟨k1, k2, k3, k4⟩ := hk
  have s2 : sg.length ≤ 9 := hs.2
  have f1 : to + sg.length ≤ new := hf
  have hc : c ∈ [yy to sg.length] := hc
  rw [List.mem_singleton.mp hc]
  refine ⟨hk', by show (yy to sg.length).length ≤ 300; rw [yn]; omega, fun d hd => ?_⟩
  have hm := zC.mp hd
  exact ⟨by omega, by omega, by omega, by omega⟩
theorem xpk {H : Hp} {us : List Addr} {rs : List xm} {old new : Int} {L : Nat} (hp : Paired (GT K H) us rs) (hf : ∀ r ∈ rs, xeC old new r) (h1 : old ≤ L) (h2 : new ≤ L) : ∀ x ∈ yd rs, vD L x := by
 intro x hx
 unfold yd at hx
 obtain ⟨r, hr, hx⟩ := List.mem_flatMap.mp hx
 obtain ⟨c, hc, rfl⟩ := List.mem_map.mp hx
 obtain ⟨u, _, hg⟩ := Paired.mem2 hp hr
 exact xna hg.2.1 hg.2.2 (hf r hr) h1 h2 hc
theorem xl7 {C cur : List Int} {r : xm} {D : List Int} {d : Int} (h : Part C r D cur) (hc : xdn r C.length d) (hs : ∀ to st c, r = .take to st c → st + d - to ∉ D) : Part C r (D ++ [d]) (vQ r cur d) := by
 obtain ⟨hl, hv⟩ := h
 obtain ⟨h0, h1, h2⟩ := hc
 have key : ∀ v : Int, xkS C r d = some v → vQ r cur d = cur.set d.toNat v → Part C r (D ++ [d]) (vQ r cur d) := fun v e1 e2 => by
  rw [e2]
  refine ⟨by rw [List.length_set]; exact hl, fun j hj => ?_⟩
  rw [List.getElem?_set]
  by_cases e : d.toNat = j
  ·have ej : (j : Int) = d := by omega
   rw [if_pos e, if_pos (by omega), if_pos (List.mem_append_right _ (by simp [ej])), ej, e1]
  ·rw [if_neg e, hv j hj]
   by_cases hm : (j : Int) ∈ D
   ·rw [if_pos hm, if_pos (List.mem_append_left _ hm)]
   ·rw [if_neg hm, if_neg]
    intro z
    rcases List.mem_append.mp z with z | z
    ·exact hm z
    ·have := List.mem_singleton.mp z; omega
 cases r with
 | take to st c =>
  obtain ⟨h3, h4⟩ := h2
  have hlt : (st + d - to).toNat < C.length := by omega
  have e := hv (st + d - to).toNat hlt
  rw [Int.toNat_of_nonneg h3, if_neg (hs to st c rfl), List.getElem?_eq_getElem hlt] at e
  refine key C[(st + d - to).toNat] (List.getElem?_eq_getElem hlt) ?_
  show cur.set d.toNat (cur.getD (st + d - to).toNat 0) = _
  rw [List.getD_eq_getElem?_getD, e]; rfl
 | put to sg =>
  obtain ⟨h3, h4⟩ := h2
  have hlt : (d - to).toNat < sg.length := by omega
  refine key sg[(d - to).toNat] (List.getElem?_eq_getElem hlt) ?_
  show cur.set d.toNat (sg.getD (d - to).toNat 0) = _
  rw [List.getD_eq_getElem?_getD, List.getElem?_eq_getElem hlt]; rfl
theorem xeI {C : List Int} {r : xm} : ∀ (ds : List Int) {D cur : List Int}, Part C r D cur → (∀ d ∈ ds, xdn r C.length d) → (∀ (i : Nat) (d : Int), ds[i]? = some d → ∀ to st c, r = .take to st c → st + d - to ∉ D ++ ds.take i) → Part C r (D ++ ds) (doP r cur ds)
 | [], D, cur, h, _, _ => by rw [List.append_nil]; exact h
 | d :: ds, D, cur, h, hc, ho => by
  have h1 := xl7 h (hc d List.mem_cons_self) fun to st c e => by
   have := ho 0 d rfl to st c e
   simpa using this
  have h2 := xeI ds h1 (fun x hx => hc x (List.mem_cons_of_mem _ hx)) fun i x hx to st c e => by
   have := ho (i + 1) x hx to st c e
   simpa using this
  rw [List.append_assoc] at h2
  exact h2
theorem xj8 : ∀ {xss : List (List Int)} {i : Nat} {d : Int}, xss.flatten[i]? = some d → ∃ (k m : Nat) (p : List Int), xss[k]? = some p ∧ p[m]? = some d ∧ xss.flatten.take i = (xss.take k).flatten ++ p.take m
 | [], i, d, h => by simp at h
 | p :: xss, i, d, h => by
  rw [List.flatten_cons] at h ⊢
  by_cases hi : i < p.length
  ·rw [List.getElem?_append_left hi] at h
   exact ⟨0, i, p, rfl, h, by rw [List.take_append_of_le_length (Nat.le_of_lt hi)]; rfl⟩
  ·rw [List.getElem?_append_right (by omega)] at h
   obtain ⟨k, m, q, h1, h2, h3⟩ := xj8 h
   refine ⟨k + 1, m, q, h1, h2, ?_⟩
   rw [List.take_append, h3, List.take_of_length_le (by omega), List.take_succ_cons, List.flatten_cons, List.append_assoc]
theorem xj9 (r : xm) : ∀ (cs : List (List Int)) (C : List Int), doL C (cs.map fun c => (r, c)) = doP r C cs.flatten
 | [], _ => rfl
 | c :: cs, C => by
  rw [List.flatten_cons]
  show doL (doP r C c) (cs.map fun c => (r, c)) = (c ++ cs.flatten).foldl (vQ r) C
  rw [List.foldl_append, xj9 r cs]; rfl
theorem xk5 (C : List Int) (xs ys : List (xm × List Int)) : doL C (xs ++ ys) = doL (doL C xs) ys := by
 unfold doL; rw [List.foldl_append]
theorem xl8 (r : xm) : vB r = pcs r := by cases r <;> rfl
theorem xnb {C : List Int} {r : xm} (hk : r.ok) (hc : ∀ c ∈ vB r, vD C.length (r, c)) : Part C r (pcs r).flatten (doL C ((vB r).map fun c => (r, c))) := by
 rw [xj9, xl8]
 have := xeI (C := C) (r := r) (pcs r).flatten (D := []) (cur := C) ⟨rfl, fun j hj => by simp⟩ (fun d hd => by
  obtain ⟨p, hp, hd⟩ := List.mem_flatten.mp hd
  exact (hc p (by rw [xl8]; exact hp)).2.2 d hd) fun i d hd to st c e => by
   subst e
   obtain ⟨k, m, p, h1, h2, h3⟩ := xj8 hd
   rw [List.nil_append, h3]
   intro z
   exact xk4 hk.2.2 h1 h2 z rfl
 rw [List.nil_append] at this
 exact this
theorem xnc {rs : List xm} {j : Nat} {r : xm} (h : rs[j]? = some r) : yd (rs.take (j + 1)) = yd (rs.take j) ++ (vB r).map fun c => (r, c) := by
 unfold yd
 rw [List.take_succ, h, List.flatMap_append]; simp
theorem xpl {rs : List xm} {C0 : List Int} (hk : ∀ r ∈ rs, r.ok) (hc : ∀ x ∈ yd rs, vD C0.length x) : xnA rs C0 (fun k => doL C0 (yd (rs.take k))) rs.length := by
 refine ⟨rfl, fun j => vC _ _, fun j r _ hr => ?_⟩
 show Part (doL C0 (yd (rs.take j))) r _ (doL C0 (yd (rs.take (j + 1))))
 rw [xnc hr, xk5]
 have hm := List.mem_of_getElem? hr
 refine xnb (hk r hm) fun c h => ?_
 rw [vC]
 exact hc (r, c) (List.mem_flatMap.mpr ⟨r, hm, List.mem_map.mpr ⟨c, h, rfl⟩⟩)
def ux (notes : List (Option Int)) (m : Nat) : Prop := notes.length = 2 ∧ notes[m % 2]? = some (some (m : Int)) ∧ ∀ x : Int, some x ∈ notes → x ≤ m
theorem ux.max {notes : List (Option Int)} {m : Nat} (h : ux notes m) : xfm notes m := by
 have hm : (m : Int) ∈ notes.filterMap id := List.mem_filterMap.mpr ⟨some (m : Int), List.mem_of_getElem? h.2.1, rfl⟩
 refine ⟨(fun z => by rw [z] at hm; cases hm), fun _ => ⟨hm, fun x hx => ?_⟩⟩
 obtain ⟨y, hy, hyx⟩ := List.mem_filterMap.mp hx
 have hyx : y = some x := hyx
 subst hyx
 exact h.2.2 x hy
theorem xl9 (m : Nat) : (((m : Int) + 1) % 2).toNat = (m + 1) % 2 := by omega
theorem ux.mark {notes : List (Option Int)} {m : Nat} (h : ux notes m) : ux (notes.set (((m : Int) + 1) % 2).toNat (some ((m : Int) + 1))) (m + 1) := by
 obtain ⟨h1, h2, h3⟩ := h
 rw [xl9]
 refine ⟨by rw [List.length_set]; exact h1, by rw [List.getElem?_set_self (by omega)]; rfl, fun x hx => ?_⟩
 rcases List.mem_or_eq_of_mem_set hx with z | z
 ·have := h3 x z; omega
 ·have := Option.some.inj z; omega
theorem ux.torn {notes : List (Option Int)} {m : Nat} (h : ux notes m) : ux (notes.set (((m : Int) + 1) % 2).toNat none) m := by
 obtain ⟨h1, h2, h3⟩ := h
 rw [xl9]
 refine ⟨by rw [List.length_set]; exact h1, by rw [List.getElem?_set_ne (by omega)]; exact h2, fun x hx => ?_⟩
 rcases List.mem_or_eq_of_mem_set hx with z | z
 ·exact h3 x z
 ·cases z
def Apart (x : xm × List Int) : Prop := ∀ d ∈ x.2, ∀ to st c, x.1 = .take to st c → st + d - to ∉ x.2
theorem xma {rs : List xm} : ∀ x ∈ yd rs, Apart x := by
 intro x hx d hd to st c e hs
 unfold yd at hx
 obtain ⟨r, hr, hx⟩ := List.mem_flatMap.mp hx
 obtain ⟨p, hp, rfl⟩ := List.mem_map.mp hx
 have e : r = .take to st c := e
 subst e
 have hd : d ∈ p := hd
 have hs : st + d - to ∈ p := hs
 have hp : p ∈ yr to st c := hp
 unfold yr at hp
 split at hp
 ·cases hp
 rename_i hne
 obtain ⟨j, hj⟩ := List.mem_iff_getElem?.mp hp
 split at hj
 ·obtain ⟨_, rfl⟩ := jE hj
  have h1 := xdR hd
  have h2 := xdR hs
  omega
 ·obtain ⟨_, rfl⟩ := jE hj
  have h1 := xbX hd
  have h2 := xbX hs
  have e1 : (j + 1) * (to - st).toNat = j * (to - st).toNat + (to - st).toNat := Nat.succ_mul _ _
  omega
theorem xgL {A : List Int} {x : xm × List Int} (hp : vD A.length x) (ha : Apart x) : Part A x.1 x.2 (doP x.1 A x.2) := by
 have := xeI (C := A) (r := x.1) x.2 (D := []) (cur := A) ⟨rfl, fun j hj => by simp⟩ hp.2.2 fun i d hd to st c e z => by
  rw [List.nil_append] at z
  exact ha d (List.mem_of_getElem? hd) to st c e (List.mem_of_mem_take z)
 rw [List.nil_append] at this
 exact this
theorem xjr {D cells : List Int} {x : xm × List Int} (h : ud x.2 D cells) (hp : vD D.length x) (ha : Apart x) : doP x.1 cells x.2 = doP x.1 D x.2 := by
 have h1 := xgL hp ha
 have h2 := xgL (A := cells) (x := x) (by rw [h.1]; exact hp) ha
 apply List.ext_getElem?
 intro j
 by_cases hj : j < D.length
 ·rw [h1.2 j hj, h2.2 j (by rw [h.1]; exact hj)]
  by_cases hm : (j : Int) ∈ x.2
  ·rw [if_pos hm, if_pos hm]
   obtain ⟨r, cs⟩ := x
   cases r with
   | put to sg => rfl
   | take to st c =>
    obtain ⟨_, _, c1, c2⟩ := hp.2.2 j hm
    show cells[(st + (j : Int) - to).toNat]? = D[(st + (j : Int) - to).toNat]?
    refine h.2 _ (by omega) ?_
    rw [Int.toNat_of_nonneg c1]
    exact ha j hm to st c rfl
  ·rw [if_neg hm, if_neg hm]
   exact h.2 j hj hm
 ·rw [List.getElem?_eq_none (by rw [h2.1, h.1]; omega), List.getElem?_eq_none (by rw [h1.1]; omega)]
def zj (X : List (xm × List Int)) (m : Nat) (C0 cells : List Int) : Prop := cells.length = C0.length ∧ ∀ j : Nat, j < C0.length → (∀ x, X[m]? = some x → (j : Int) ∉ x.2) → cells[j]? = (doL C0 (X.take m))[j]?
theorem zj.near {X : List (xm × List Int)} {m : Nat} {C0 cells : List Int} {x : xm × List Int} (h : zj X m C0 cells) (hx : X[m]? = some x) : ud x.2 (doL C0 (X.take m)) cells :=
 ⟨by rw [h.1, vC], fun j hj hn => h.2 j (by rw [vC] at hj; exact hj) fun y hy => by rw [hx] at hy; cases hy; exact hn⟩
theorem zj.of {X : List (xm × List Int)} {m : Nat} {C0 cells : List Int} {x : xm × List Int} (h : ud x.2 (doL C0 (X.take m)) cells) (hx : X[m]? = some x) : zj X m C0 cells :=
 ⟨by rw [h.1, vC], fun j hj hn => h.2 j (by rw [vC]; exact hj) (hn x hx)⟩
theorem zj.refl (X : List (xm × List Int)) (m : Nat) (C0 : List Int) : zj X m C0 (doL C0 (X.take m)) := ⟨vC _ _, fun _ _ _ => rfl⟩
theorem zj.all {X : List (xm × List Int)} {C0 cells : List Int} (h : zj X X.length C0 cells) : cells = doL C0 X := by
 have e : X.take X.length = X := List.take_length
 apply List.ext_getElem?
 intro j
 by_cases hj : j < C0.length
 ·rw [h.2 j hj fun x hx => by simp at hx, e]
 ·rw [List.getElem?_eq_none (by rw [h.1]; omega), List.getElem?_eq_none (by rw [vC]; omega)]
theorem zj.next {X : List (xm × List Int)} {m : Nat} {C0 cells : List Int} {x : xm × List Int} (h : zj X m C0 cells) (hx : X[m]? = some x) (hp : vD C0.length x) (ha : Apart x) : doP x.1 cells x.2 = doL C0 (X.take (m + 1)) := by
 rw [xiU hx]
 exact xjr (h.near hx) (by rw [vC]; exact hp) ha
theorem zj.back {X : List (xm × List Int)} {m : Nat} {C0 : List Int} {x : xm × List Int} (hx : X[m]? = some x) (hp : vD C0.length x) : zj X m C0 (doL C0 (X.take (m + 1))) := by
 rw [xiU hx]
 exact zj.of (ud.doP (ud.refl _ _) fun d hd => ⟨hd, (hp.2.2 d hd).1⟩) hx
def xnd (K : W.Frag) (a : Adr) : Sp := fun vs H Q E => ∃ (F : FA) (p tt : Addr) (o n : Int) (us : List Addr) (rs : List xm) (cells C0 : List Int) (notes : List (Option Int)) (k m : Nat), vs = [.ref F.S.st, .ref p] ∧ Bs K F ∧ StF a H F cells notes k ∧ k ≤ 30 ∧ H p = some (.tup [.int o, .int n, .ref tt]) ∧ H tt = some (.tup (us.map V.ref)) ∧ Paired (GT K H) us rs ∧ us.length ≤ 58 ∧ max o n ≤ C0.length ∧ (∀ x ∈ yd rs, vD C0.length x) ∧ ux notes m ∧ m ≤ (yd rs).length ∧ m ≤ 10000 ∧ zj (yd rs) m C0 cells ∧
 (∀ v H' notes', Kp (SF F) H H' → StF a H' F (doL C0 (yd rs)) notes' k → ux notes' (yd rs).length → Q v H') ∧ xiJ a H F k E fun cells' notes' => ∃ m', ux notes' m' ∧ m' ≤ (yd rs).length ∧ zj (yd rs) m' C0 cells'
theorem xne (T : Txt K mg a) : xA P w K mg base (CXE P w) 8 a.q1Q a.xe5 ["store", "paper"] (xnd K a) := by
 refine T.xb0.okX xiy (fun vs H Q E h => ?_) (fun cdv A outer s H vs Q E hr h => ?_)
 ·obtain ⟨F, p, tt, o, n, us, rs, cells, C0, notes, k, m, rfl, _⟩ := h; rfl
 ·obtain ⟨F, p, tt, o, n, us, rs, cells, C0, notes, k, m, rfl, B, hF, hk, hp, ht, hus, hul, hle, hok, hno, hm, hm4, hnr, k1, k2⟩ := h
  have nd := xiy.nd
  refine ⟨_, (xk (xC (i := 2) nd rfl (Or.inl rfl) (xE xG (by rfl) T.q0V yv (xa (xy xD (xT (cv 0) T.xU T.xbE (xd8 T) (hr.mono (by decide)) T.ji .nil xr) xh (fun _ _ => rfl)) xf)))
  (xk (yk (xv (xfn T) (hr.mono (by decide)) (by rfl) T.xcf T.yW.kp T.ve .nil xr (xa (cv 2) (xa (cv 1) xf))))
  (xk (xC (i := 3) nd rfl (Or.inl rfl) (xv (xeD T) (hr.mono (by decide)) (by rfl) T.xcX T.uz.kp T.jN .nil xr (xa (cv 1) xf)))
  (xk (xC (i := 4) nd rfl (Or.inl rfl) (xT (cv 0) T.xU T.xa5 (xdl T) (hr.mono (by decide)) T.vt .nil xr))
  (xk (xC (i := 5) nd rfl (Or.inl rfl) (xdt xc3 (cv 3) (xbZ (cv 4)) xeU))
  (xk (yk (xv (xfX T) (hr.mono (by decide)) (by rfl) T.xcF T.zt.kp T.vM .nil xr (xa (cv 2) (xa (cv 5) xf))))
  (xk (yF (PassesOwn.xe ⟨rfl, rfl, rfl⟩) rfl (xmO (by rfl) T.q1b (xa (cv 5) xf) (cv 4)) (xb6 rfl (yE (xM (i := 6) nd rfl (Or.inl rfl)) (yE (xM (i := 7) nd rfl (Or.inl rfl)) xaX))) (xk (yk (xir ⟨rfl, rfl, rfl⟩ (xjq T) (hr.mono (by decide)) (by rfl) T.xgr T.jC.kp T.xbV .nil (xa (cv 0) (xa (xv (xaq T) (hr.mono (by decide)) (by rfl) T.xad T.zV.kp T.vc .nil xr (xa (xy xD (cv 7) xh (fun _ _ => rfl)) xf)) (xa (xy xD (cv 7) xh (fun _ _ => rfl)) xf)))))
  (xl (yk (xce ⟨rfl, rfl, rfl⟩ (cv 0) T.xU T.xdV (xhW T) (hr.mono (by decide)) T.xaT .nil (xa (xp yc (cv 6) xh) xf))))))
  (xl (xu (xE xG (by rfl) T.q0V yv (xa (cv 5) xf))))))))))), ?_⟩
  obtain ⟨cnt, _, hS⟩ := hF.st
  have hcl : cells.length = C0.length := hnr.1
  walk_at "w"
  refine ⟨F.S.st, F.S.dx, _, rfl, hS.st, rfl, ?_⟩
  walk_at "w"
  refine ⟨F.S, cells, notes, cnt, .ref F.f, rfl, hS, fun t c m' H1 s1 hc hm' ncm et ec em => ?_⟩
  walk_at "w"
  refine ⟨t, _, _, .ref c, rfl, rfl, SqT.of et, rfl, ?_⟩
  walk_at "w"
  refine ⟨c, _, rfl, .inl (SqL.of ec), ?_⟩
  walk_at "w"
  refine ⟨_, o, n, p, _, rfl, s1.at hp, by rw [List.length_map, hcl]; exact hle, ?_⟩
  have hF1 := hF.same s1
  have hS1 := hS.same s1
  walk_at "w"
  refine ⟨p, tt, .int o, .int n, us, rs, rfl, s1.at hp, s1.at ht, L2.Paired.imp' (fun _ _ z => z.same s1) hus, hul, fun l ws H2 s2 hl el hws => ?_⟩
  have hS2 := hS1.same s2
  walk_at "w"
  refine ⟨F.S.st, F.S.dx, _, rfl, hS2.st, rfl, ?_⟩
  walk_at "w"
  refine ⟨F.S, cells, notes, cnt, .ref F.f, rfl, hS2, hno.1, fun m2 H3 s3 hmx' => ?_⟩
  obtain rfl := xfm.uniq hmx' hno.max
  have hS3 := hS2.same s3
  walk_at "w"
  refine ⟨(m : Int), rfl, ?_⟩
  walk_at "w"
  refine ⟨l, _, rfl, SqL.of (s3.at el), ?_⟩
  intro lf hlf
  generalize hUlf : upd H3 lf _ = H4
  have sH4 := xc.of_eq hlf hUlf
  have elf := xq hUlf
  clear hUlf
  walk_at "w"
  rw [xl5, ← List.map_drop] at elf
  have hws4 : Paired (zS K H1 l H4) (ws.drop m) ((yd rs).drop m) := xfJ m (L2.Paired.imp' (fun _ _ z => (z.same s3).same sH4) hws)
  obtain ⟨X, hX⟩ : ∃ X, X = yd rs := ⟨_, rfl⟩
  rw [← hX] at hws4 k1 k2 hm hnr hok
  have hap : ∀ x ∈ X, Apart x := by rw [hX]; exact xma
  have hwl : (ws.drop m).length = X.length - m := by rw [hws4.length, List.length_drop]
  refine ⟨_, H1, lf, l, ws.drop m, X.drop m, rfl, elf, hws4, fun x hx => ⟨(hok x (List.mem_of_mem_drop hx)).1, (hok x (List.mem_of_mem_drop hx)).2.1, by rw [List.length_map, hcl]; exact xl6 (hok x (List.mem_of_mem_drop hx)).2.2⟩, fun H5 s5 => ?_⟩
  have s15 : xc H1 H5 := s2.trans (s3.trans (sH4.trans s5))
  have hF5 := hF1.same s15
  have s05 : xc H H5 := s1.trans s15
  have nlf : lf ∉ SF F := (hF1.same (s2.trans s3)).nin hlf
  walk_at "w"
  refine ⟨lf, m, rfl, rfl, by omega, ⟨_, SqL.of (s5.at elf)⟩, ?_⟩
  refine xjh (xs := (ws.drop m).map V.ref) (fun i σ G => Kp (SF F) H5 G ∧ (∃ cells' notes', StF a G F cells' notes' k ∧ ux notes' (m + i) ∧ zj X (m + i) C0 cells') ∧ ∃ (x6 x7 : Option V), σ = [some (.ref F.S.st), some (.ref p), some (.int ((cells.map V.int).length : Nat)), some (.ref l), some (.int m), some (.ref lf), x6, x7])
   ⟨Kp.of (xc.refl _), ⟨cells, notes, hF5, hno, hnr⟩, _, _, rfl⟩ (fun i σ G hi hP => SqL.of (hP.1 _ _ (s5.at elf) nlf)) (fun i x σ G Tt hx hP hTt => ?_) (fun σ G hP => ?_)
  ·obtain ⟨kp, ⟨cells', notes', hFG, hnoG, hnrG⟩, x6, x7, rfl⟩ := hP
   rw [List.getElem?_map] at hx
   obtain ⟨u, hu, rfl⟩ := Option.map_eq_some_iff.mp hx
   obtain ⟨⟨r, cs⟩, hr', t', c', ⟨nc1, nc2⟩, h1, h2, h3⟩ := Paired.nth hws4 hu
   rw [List.getElem?_drop] at hr'
   have hpo := hok _ (List.mem_of_getElem? hr')
   obtain ⟨hk', hcl', hcells⟩ := hpo
   have hapx := hap _ (List.mem_of_getElem? hr')
   have kG : ∀ b u, H5 b = some u → ¬ xbF u → G b = some u := fun b u e mm => kp b u e (hF5.noMu e mm)
   have ncS : c' ∉ SF F := hF1.nin nc2
   have hcG : G c' = some (.lst (cs.map V.int)) := kp _ _ (s5.at h3) ncS
   have huG := kG _ _ (s5.at h1) (fun z => z)
   have htG : TupAt K G t' r := TupAt.kpS (h2.same s5) kG
   have back : ∀ {G' : Hp}, Kp (SF F) G G' → Kp (SF F) H G' := fun {G'} z b u e nb => z b u (kp b u (s05 b u e) nb) nb
   generalize hU : upd G Tt _ = G1
   have sT := xc.of_eq hTt hU
   have eT := xq hU
   clear hU
   walk_at "w"
   refine ⟨Tt, _, rfl, SqT.of eT, rfl, ?_⟩
   walk_at "w"
   refine ⟨_, _, rfl, ?_⟩
   walk_at "w"
   refine ⟨_, _, rfl, ?_⟩
   walk_at "w"
   refine And.intro rfl ?_
   walk_at "w"
   refine ⟨u, _, _, .ref t', rfl, rfl, SqT.of (sT.at huG), rfl, ?_⟩
   walk_at "w"
   refine ⟨t', r, rfl, htG.same sT, hk', fun ob G2 s2' hob hO => ?_⟩
   walk_at "w"
   refine ⟨u, _, _, .ref c', rfl, rfl, SqT.of (s2'.at (sT.at huG)), rfl, ?_⟩
   walk_at "w"
   have sT2 := sT.trans s2'
   have kT2 : Kp (SF F) H G2 := back (Kp.of sT2)
   refine ⟨F, ob, c', r, cs, cells', notes', k, rfl, B, hFG.same sT2, hk, hO, (hFG.same sT).nin hob, sT2.at hcG, ncS, (fun d hd => by rw [hnrG.1]; exact hcells d hd), fun G3 kp3 hF3 => ?_, fun hk2 nn dd G3 cells2 notes2 kp3 hF3 hh hd3 => ?_⟩
   ·rw [hnrG.next hr' ⟨hk', hcl', hcells⟩ hapx] at hF3
    obtain ⟨n3, _, hS3'⟩ := hF3.st
    walk_at "w"
    refine ⟨F.S.st, F.S.dx, _, rfl, hS3'.st, rfl, ?_⟩
    walk_at "w"
    have em : (m : Int) + (i : Int) = ((m + i : Nat) : Int) := by omega
    refine ⟨F, _, notes', _, k, rfl, B, hF3, hk, hnoG.1, fun G4 kp4 hF4 => ?_, fun hk2 nn dd G4 cells2 notes2 kp4 hF4 hh hd4 => ?_⟩
    ·walk_at "w"
     refine ⟨((kp.same sT2).trans kp3).trans kp4, ⟨_, _, hF4, ?_, zj.refl X (m + i + 1) C0⟩, _, _, rfl⟩
     exact hnoG.mark
    ·obtain ⟨rfl, hh⟩ := hh
     refine k2 hk2 nn dd G4 _ notes2 ((kT2.trans kp3).trans kp4) hF4 ⟨m + i, ?_, ?_, zj.back hr' ⟨hk', hcl', hcells⟩⟩ hd4
     ·rcases hh with rfl | rfl
      ·exact hnoG
      ·exact hnoG.torn
     ·have := (List.getElem?_eq_some_iff.mp hr').1; omega
   ·obtain ⟨rfl, hh⟩ := hh
    refine k2 hk2 nn dd G3 cells2 _ (kT2.trans kp3) hF3 ⟨m + i, hnoG, ?_, ?_⟩ hd3
    ·have := (List.getElem?_eq_some_iff.mp hr').1; omega
    ·have hn0 := hnrG.near hr'
     refine zj.of (x := (r, cs)) ⟨by rw [hh.1]; exact hn0.1, fun j hj hn => ?_⟩ hr'
     rw [hh.2 j (by rw [hn0.1]; exact hj) hn]
     exact hn0.2 j hj hn
  ·obtain ⟨kp, ⟨cells', notes', hFG, hnoG, hnrG⟩, x6, x7, rfl⟩ := hP
   rw [List.length_map, hwl, show m + (X.length - m) = X.length by omega] at hnoG hnrG
   walk_at "w"
   refine ⟨lf, _, rfl, .inl (SqL.of (kp _ _ (s5.at elf) nlf)), ?_⟩
   walk_at "w"
   rw [hnrG.all] at hFG
   exact k1 _ G notes' (fun b u e n => kp b u (s05 b u e) n) hFG hnoG
theorem xop (lo : Int) (n : Nat) : (yy lo n).Pairwise (· < ·) := by
 rw [List.pairwise_iff_getElem]
 intro i j hi hj hij
 have h1 := xcs (List.getElem?_eq_getElem hi)
 have h2 := xcs (List.getElem?_eq_getElem hj)
 omega
theorem xgM {r : xm} {c : Int} : c ∈ r.cv ↔ r.to ≤ c ∧ c < r.to + r.cnt := by
 cases r with
 | take to st n => exact zC
 | put to sg => exact zC
theorem xgN {r : xm} {c : Int} (h : c ∈ r.wrs) : c ∈ r.cv := by
 cases r with
 | take to st n =>
  simp only [xm.wrs] at h
  split at h
  ·cases h
  ·exact h
 | put to sg => exact h
theorem xpZ (r : xm) : r.cv.Nodup := by
 have h : ∀ lo n, (yy lo n).Nodup := fun lo n => (xop lo n).imp (fun h => by omega)
 cases r with
 | take to st n => exact h _ _
 | put to sg => exact h _ _
theorem Tl.facts {old at' : Int} {rs : List xm} (h : Tl old rs at') : 0 ≤ at' ∧ (rs.map xm.cv).flatten.Nodup ∧ (∀ x, x ∈ (rs.map xm.cv).flatten ↔ 0 ≤ x ∧ x < at') ∧ ∀ r ∈ rs, Good old r ∧ r.to + r.cnt ≤ at' := by
 induction h with
 | nil => exact ⟨Int.le_refl _, List.nodup_nil, fun x => ⟨fun z => by simp at z, fun z => by omega⟩, fun r z => by cases z⟩
 | @snoc rs at' n r _ hg ht hn ih =>
  obtain ⟨h1, h2, h3, h4⟩ := ih
  have e : ((rs ++ [r]).map xm.cv).flatten = (rs.map xm.cv).flatten ++ r.cv := by simp
  have hc : ∀ x, x ∈ r.cv ↔ at' ≤ x ∧ x < at' + n := fun x => by rw [xgM, ht, hn]
  refine ⟨by omega, ?_, fun x => ?_, fun s hs => ?_⟩
  ·rw [e, List.nodup_append]
   exact ⟨h2, xpZ r, fun x hx y hy => by have := (h3 x).mp hx; have := (hc y).mp hy; omega⟩
  ·rw [e, List.mem_append, h3, hc]; omega
  ·rcases List.mem_append.mp hs with hs | hs
   ·obtain ⟨z1, z2⟩ := h4 s hs
    exact ⟨z1, by omega⟩
   ·rw [List.mem_singleton.mp hs]; exact ⟨hg, by omega⟩
theorem xka : ∀ (l : List (Nat × Int)) (seen : List Int), (l.map Prod.snd).Nodup → (∀ x ∈ l.map Prod.snd, x ∉ seen) → tw l seen = none
 | [], _, _, _ => rfl
 | (k, c) :: r, seen, h1, h2 => by
  have h3 : c ∉ r.map Prod.snd ∧ (r.map Prod.snd).Nodup := List.nodup_cons.mp h1
  have h4 : c ∉ seen := h2 c (by simp)
  show (if c ∈ seen then some (k, c) else tw r (c :: seen)) = none
  rw [if_neg h4]
  refine xka r (c :: seen) h3.2 fun x hx z => ?_
  rcases List.mem_cons.mp z with rfl | z
  ·exact h3.1 hx
  ·exact h2 x (List.mem_cons_of_mem _ hx) z
theorem xkb : ∀ (k : Nat) (xss : List (List Int)), (num k xss).map Prod.snd = xss.flatten
 | _, [] => rfl
 | k, cs :: r => by simp [num, xkb (k + 1) r, Function.comp_def]
def Dis (rs : List xm) : Prop := ∀ (i j : Nat) (r s : xm), rs[i]? = some r → rs[j]? = some s → ∀ c, c ∈ r.cv → c ∈ s.cv → i = j
theorem xpm {rs : List xm} (h : (rs.map xm.cv).flatten.Nodup) : Dis rs := by
 have h1 := (List.pairwise_flatten.mp h).2
 rw [List.pairwise_map, List.pairwise_iff_getElem] at h1
 have key : ∀ (i j : Nat) (r s : xm), rs[i]? = some r → rs[j]? = some s → ∀ c, c ∈ r.cv → c ∈ s.cv → ¬ i < j := by
  intro i j r s hi hj c hc1 hc2 hij
  obtain ⟨li, ei⟩ := List.getElem?_eq_some_iff.mp hi
  obtain ⟨lj, ej⟩ := List.getElem?_eq_some_iff.mp hj
  exact h1 i j li lj hij c (by rw [ei]; exact hc1) c (by rw [ej]; exact hc2) rfl
 intro i j r s hi hj c hc1 hc2
 have h2 := key i j r s hi hj c hc1 hc2
 have h3 := key j i s r hj hi c hc2 hc1
 omega
def Wr (wr : List Int) (rs : List xm) (k : Nat) (x : Int) : Prop := x ∈ wr ∨ ∃ j r, j < k ∧ rs[j]? = some r ∧ x ∈ r.wrs
theorem Wr.step {wr : List Int} {r : xm} {rs : List xm} {k : Nat} {x : Int} : Wr wr (r :: rs) (k + 1) x ↔ Wr (wr ++ r.wrs) rs k x := by
 unfold Wr
 constructor
 ·rintro (h | ⟨j, s, h1, h2, h3⟩)
  ·exact .inl (List.mem_append_left _ h)
  ·cases j with
   | zero => cases h2; exact .inl (List.mem_append_right _ h3)
   | succ j => exact .inr ⟨j, s, by omega, h2, h3⟩
 ·rintro (h | ⟨j, s, h1, h2, h3⟩)
  ·rcases List.mem_append.mp h with h | h
   ·exact .inl h
   ·exact .inr ⟨0, r, by omega, rfl, h⟩
  ·exact .inr ⟨j + 1, s, by omega, h2, h3⟩
theorem Wr.zero {wr : List Int} {rs : List xm} {x : Int} : Wr wr rs 0 x ↔ x ∈ wr := ⟨fun h => h.elim id fun ⟨_, _, z, _⟩ => absurd z (Nat.not_lt_zero _), .inl⟩
theorem xgO : ∀ {rs : List xm} {n : Nat} {wr : List Int}, xbl n rs wr = none → ∀ k r, rs[k]? = some r → ∀ x ∈ r.rds, ¬ Wr wr rs k x
 | [], _, _, _, _, _, h, _, _ => by simp at h
 | r0 :: rs, n, wr, h, k, r, hr, x, hx => by
  simp only [xbl] at h
  split at h
  ·cases h
  ·rename_i hf
   cases k with
   | zero =>
    cases hr
    rw [Wr.zero]
    simpa using List.find?_eq_none.mp hf x hx
   | succ k =>
    rw [Wr.step]
    exact xgO h k r hr x hx
theorem xhd {r : xm} (ok : r.ok) {x : Int} : x ∈ (pcs r).flatten ↔ x ∈ r.wrs := by
 cases r with
 | take to st c =>
  obtain ⟨k1, k2, k3⟩ := ok
  show x ∈ (yr to st c).flatten ↔ _
  rw [xgK k3]
  simp only [xm.wrs]
  split
  ·rename_i h; simp [h]
  ·rename_i h
   rw [zC, Int.toNat_of_nonneg (by omega)]
   exact ⟨fun z => z.2, fun z => ⟨h, z⟩⟩
 | put to sg => simp [pcs, xm.wrs]
structure xaV (es C0 : List Int) (rs : List xm) (Cs : Nat → List Int) : Prop where
 z : ∃ z, C0 = es ++ z
 run : xnA rs C0 Cs rs.length
 good : ∀ r ∈ rs, Good es.length r ∧ r.to + r.cnt ≤ C0.length
 dis : Dis rs
theorem xaV.keep {es C0 : List Int} {rs : List xm} {Cs : Nat → List Int} (h : xaV es C0 rs Cs) {x : Nat} (hx : x < C0.length) : ∀ {k : Nat}, k ≤ rs.length → ¬ Wr [] rs k x → (Cs k)[x]? = C0[x]?
 | 0, _, _ => by rw [h.run.1]
 | k + 1, hk, hw => by
  obtain ⟨r, hr⟩ : ∃ r, rs[k]? = some r := ⟨_, List.getElem?_eq_getElem (by omega)⟩
  have ok := (h.good r (List.mem_of_getElem? hr)).1.1
  have h1 := (h.run.2.2 k r (by omega) hr).2 x (by rw [h.run.2.1]; exact hx)
  rw [h1, if_neg (fun z => hw (.inr ⟨k, r, by omega, hr, (xhd ok).mp z⟩))]
  refine h.keep hx (by omega) fun z => hw ?_
  rcases z with z | ⟨j, s, z1, z2, z3⟩
  ·cases z
  ·exact .inr ⟨j, s, by omega, z2, z3⟩
theorem xaV.wrote {es C0 : List Int} {rs : List xm} {Cs : Nat → List Int} (h : xaV es C0 rs Cs) {x : Nat} (hx : x < C0.length) {j : Nat} {r : xm} (hr : rs[j]? = some r) (hw : (x : Int) ∈ r.wrs) : ∀ {k : Nat}, j < k → k ≤ rs.length → (Cs k)[x]? = xkS (Cs j) r x
 | 0, z, _ => absurd z (Nat.not_lt_zero _)
 | k + 1, hj, hk => by
  obtain ⟨s, hs⟩ : ∃ r, rs[k]? = some r := ⟨_, List.getElem?_eq_getElem (by omega)⟩
  have ok := (h.good s (List.mem_of_getElem? hs)).1.1
  have h1 := (h.run.2.2 k s (by omega) hs).2 x (by rw [h.run.2.1]; exact hx)
  by_cases e : j = k
  ·subst e
   rw [hr] at hs; cases hs
   rw [h1, if_pos ((xhd ok).mpr hw)]
  ·rw [h1, if_neg (fun z => e (h.dis j k r s hr hs x (xgN hw) (xgN ((xhd ok).mp z))))]
   exact h.wrote hx hr hw (by omega) (by omega)
theorem xaV.told {es C0 : List Int} {rs : List xm} {Cs : Nat → List Int} (h : xaV es C0 rs Cs) {x : Nat} {j : Nat} {r : xm} (hr : rs[j]? = some r) (hw : (x : Int) ∈ r.wrs) (hno : ∀ y ∈ r.rds, ¬ Wr [] rs j y) : xkS (Cs j) r x = (r.sg es)[((x : Int) - r.to).toNat]? := by
 obtain ⟨⟨ok, _, hin⟩, hto⟩ := h.good r (List.mem_of_getElem? hr)
 obtain ⟨z, hz⟩ := h.z
 have hj : j < rs.length := (List.getElem?_eq_some_iff.mp hr).1
 cases r with
 | put to sg => rfl
 | take to st c =>
  obtain ⟨k1, k2, k3⟩ := ok
  have hin : st + c ≤ es.length := hin
  simp only [xm.wrs] at hw
  split at hw
  ·cases hw
  rename_i hne
  have hx := zC.mp hw
  have hy : st + x - to ∈ xm.rds (.take to st c) := by
   simp only [xm.rds]
   rw [if_neg hne]
   exact zC.mpr (by omega)
  have e1 : ((st + x - to).toNat : Int) = st + x - to := by omega
  have h1 := h.keep (x := (st + x - to).toNat) (by rw [hz, List.length_append]; omega) (Nat.le_of_lt hj) (by rw [e1]; exact hno _ hy)
  show (Cs j)[(st + x - to).toNat]? = ((es.drop st.toNat).take c.toNat)[((x : Int) - to).toNat]?
  rw [h1, hz, List.getElem?_append_left (by omega), List.getElem?_take, if_pos (by omega), List.getElem?_drop]
  congr 1; omega
theorem xaV.fine {es C0 nw : List Int} {rs : List xm} {Cs : Nat → List Int} (h : xaV es C0 rs Cs) (hl : xdP rs = none) (hC : nw.length ≤ C0.length) (ht : ∀ r ∈ rs, Tells es nw r) (hc : ∀ j, j < nw.length → ∃ r ∈ rs, jk r j) : (Cs rs.length).take nw.length = nw := by
 have hno := xgO (n := 0) (wr := []) hl
 obtain ⟨z, hz⟩ := h.z
 have hzl : C0.length = es.length + z.length := by rw [hz]; simp
 apply List.ext_getElem?
 intro j
 rw [List.getElem?_take]
 by_cases hj : j < nw.length
 ·rw [if_pos hj]
  obtain ⟨r, hr, hcv⟩ := hc j hj
  obtain ⟨i, hi⟩ := List.mem_iff_getElem?.mp hr
  have hil : i < rs.length := (List.getElem?_eq_some_iff.mp hi).1
  obtain ⟨t1, t2, t3, t4⟩ := ht r hr
  have hto := t1.to
  have e2 := t4 ((j : Int) - r.to).toNat (by have := hcv.1; have := hcv.2; omega)
  rw [show (r.to + (((j : Int) - r.to).toNat : Nat)).toNat = j by have := hcv.1; omega] at e2
  rw [e2]
  by_cases hw : (j : Int) ∈ r.wrs
  ·rw [h.wrote (by omega) hi hw hil (Nat.le_refl _), h.told hi hw (hno i r hi)]
  ·have hn : ¬ Wr [] rs rs.length (j : Int) := by
    rintro (z | ⟨i', s, _, h2, h3⟩)
    ·cases z
    have := h.dis i i' r s hi h2 j (xgM.mpr hcv) (xgN h3)
    subst this
    rw [hi] at h2; cases h2
    exact hw h3
   rw [h.keep (by omega) (Nat.le_refl _) hn]
   cases r with
   | put to sg => exact absurd (zC.mpr hcv) hw
   | take to st c =>
    simp only [xm.wrs] at hw
    split at hw
    ·rename_i est
     subst est
     obtain ⟨c1, c2⟩ := hcv
     have c1 : st ≤ (j : Int) := c1
     have c2 : (j : Int) < st + (c.toNat : Nat) := c2
     have t2 : st + c ≤ es.length := t2
     have hto : 0 ≤ st := hto
     show _ = ((es.drop st.toNat).take c.toNat)[((j : Int) - st).toNat]?
     rw [hz, List.getElem?_append_left (by omega), List.getElem?_take, if_pos (by omega), List.getElem?_drop]
     congr 1; omega
    ·exact absurd (zC.mpr hcv) hw
 ·rw [if_neg hj, List.getElem?_eq_none (by omega)]
theorem xaV.rest {es C0 nw : List Int} {rs : List xm} {Cs : Nat → List Int} (h : xaV es C0 rs Cs) (ht : ∀ r ∈ rs, Tells es nw r) : (Cs rs.length).drop nw.length = C0.drop nw.length := by
 apply List.ext_getElem?
 intro j
 rw [List.getElem?_drop, List.getElem?_drop]
 by_cases hj : nw.length + j < C0.length
 ·have hn : ¬ Wr [] rs rs.length ((nw.length + j : Nat) : Int) := by
   rintro (z | ⟨i', s, _, h2, h3⟩)
   ·cases z
   have h4 := xgM.mp (xgN h3)
   have h5 := (ht s (List.mem_of_getElem? h2)).2.2.1
   omega
  rw [h.keep hj (Nat.le_refl _) hn]
 ·rw [List.getElem?_eq_none (by rw [h.run.2.1]; omega), List.getElem?_eq_none (by omega)]
theorem Tl.nw {old at' : Int} {rs : List xm} {es : List Int} (h : Tl old rs at') (he : (es.length : Int) = old) : ∃ nw : List Int, (nw.length : Int) = at' ∧ ∀ r ∈ rs, Tells es nw r := by
 induction h with
 | nil => exact ⟨[], rfl, fun r z => by cases z⟩
 | @snoc rs at' n r h1 hg ht hn ih =>
  obtain ⟨nw, i1, i2⟩ := ih
  have fit : r.fits es := by
   cases r with
   | put to sg => trivial
   | take to st c => have := hg.2.2; have : st + c ≤ old := this; show st + c ≤ _; omega
  have hsl := xm.sg_len hg.1 fit
  refine ⟨nw ++ r.sg es, by rw [List.length_append]; omega, fun s hs => ?_⟩
  rcases List.mem_append.mp hs with hs | hs
  ·obtain ⟨t1, t2, t3, t4⟩ := i2 s hs
   refine ⟨t1, t2, by rw [List.length_append]; omega, fun i hi => ?_⟩
   have := t1.to
   rw [List.getElem?_append_left (by omega)]
   exact t4 i hi
  ·rw [List.mem_singleton.mp hs]
   refine ⟨hg.1, fit, by rw [List.length_append]; omega, fun i hi => ?_⟩
   have h0 : (r.to + i).toNat = nw.length + i := by omega
   rw [h0, List.getElem?_append_right (by omega)]
   congr 1; omega
theorem xnC {old new : Int} {rs rs0 : List xm} {es : List Int} (hp : rs.Perm rs0) (h : Tl old rs0 new) (he : (es.length : Int) = old) : ∃ nw : List Int, (nw.length : Int) = new ∧ (∀ r ∈ rs, Tells es nw r) ∧ (∀ j, j < nw.length → ∃ r ∈ rs, jk r j) ∧ (∀ r ∈ rs, Good old r ∧ r.to + r.cnt ≤ new) ∧ Dis rs ∧ xcq rs = none ∧ xaU rs new.toNat = none := by
 obtain ⟨nw, h1, h2⟩ := h.nw he
 obtain ⟨f1, f2, f3, f4⟩ := h.facts
 have hpf : ((rs.map xm.cv).flatten).Perm ((rs0.map xm.cv).flatten) := (hp.map xm.cv).flatten
 have hnd : (rs.map xm.cv).flatten.Nodup := hpf.nodup_iff.mpr f2
 have hm : ∀ x, x ∈ (rs.map xm.cv).flatten ↔ 0 ≤ x ∧ x < new := fun x => by rw [hpf.mem_iff, f3]
 refine ⟨nw, h1, fun r hr => h2 r (hp.mem_iff.mp hr), fun j hj => ?_, fun r hr => f4 r (hp.mem_iff.mp hr), xpm hnd, ?_, ?_⟩
 ·have := (hm j).mpr ⟨by omega, by omega⟩
  obtain ⟨cs, hc1, hc2⟩ := List.mem_flatten.mp this
  obtain ⟨r, hr, rfl⟩ := List.mem_map.mp hc1
  exact ⟨r, hr, xgM.mp hc2⟩
 ·exact xka _ _ (by rw [xkb]; exact hnd) fun x _ z => by cases z
 ·unfold xaU
  rw [List.find?_eq_none]
  intro c hc
  obtain ⟨i, hi, rfl⟩ := List.mem_map.mp hc
  have := List.mem_range.mp hi
  simp only [Bool.not_eq_true', decide_eq_false_iff_not, Classical.not_not]
  exact (hm _).mpr (by omega)
def uT (S : Nat → Prop) (ys : List V) (nw : List Int) : Prop := ys.length = nw.length ∧ ∀ j, S j → ys[j]? = (nw.map V.int)[j]?
theorem uT.set {S S' : Nat → Prop} {ys : List V} {nw : List Int} {c : Nat} {v : Int} (h : uT S ys nw) (hv : nw[c]? = some v) (hS : ∀ j, S' j → S j ∨ j = c) : uT S' (ys.set c (.int v)) nw := by
 refine ⟨by rw [List.length_set]; exact h.1, fun j hj => ?_⟩
 have hc : c < nw.length := (List.getElem?_eq_some_iff.mp hv).1
 rw [List.getElem?_set]
 by_cases e : c = j
 ·subst e
  rw [if_pos rfl, if_pos (by rw [h.1]; exact hc), List.getElem?_map, hv]; rfl
 ·rw [if_neg e]
  rcases hS j hj with z | z
  ·exact h.2 j z
  ·exact absurd z.symm e
theorem uT.all {S : Nat → Prop} {ys : List V} {nw : List Int} (h : uT S ys nw) (k : ∀ j, j < nw.length → S j) : ys = nw.map V.int := by
 apply List.ext_getElem?
 intro j
 by_cases hj : j < nw.length
 ·exact h.2 j (k j hj)
 ·rw [List.getElem?_eq_none (by rw [h.1]; omega), List.getElem?_eq_none (by rw [List.length_map]; omega)]
def xmb (K : W.Frag) : Sp := fun vs H Q _ => ∃ (p e : Addr) (o : Int) (rs : List xm) (es nw : List Int), vs = [.ref p, .ref e] ∧ xcQ K H p o nw.length rs ∧ H e = some (.lst (es.map V.int)) ∧ (∀ r ∈ rs, Tells es nw r) ∧ (∀ j, j < nw.length → ∃ r ∈ rs, jk r j) ∧ nw.length ≤ 1000 ∧ xfU H Q nw
theorem xnf (T : Txt K mg a) : xA P w K mg base CX0 1 a.q1V a.xfa ["_law_paper_here", "_law_elder_here"] (xmb K) := by
 refine T.xb4.ok xiD (fun vs H Q E h => ?_) (fun cdv A outer s H vs Q E hr h => ?_)
 ·obtain ⟨p, e, o, rs, es, nw, rfl, _⟩ := h; rfl
 ·obtain ⟨p, e, o, rs, es, nw, rfl, ⟨t, ts, hp, ht, hts⟩, he, htl, hcv, hnw, k⟩ := h
  have nd := xiD.nd
  refine ⟨_, (xk (xC (i := 2) nd rfl (Or.inl rfl) (xp xoV (zk (xa xbm xf)) (xy xD (cv 0) xh (fun _ _ => rfl))))
  (xk (yF PassesOwn.never rfl (xf7 (xy xD (cv 0) xh (fun _ _ => rfl))) (xM (i := 3) nd rfl (Or.inl rfl)) (xl (xN (xJ xic (xy xD (cv 3) xh (fun _ _ => rfl)) xas) (xl (yF PassesOwn.never rfl (ug (by rfl) T.q0K (xa (xy xD (cv 3) xh (fun _ _ => rfl)) xf)) (xM (i := 4) nd rfl (Or.inl rfl)) (xl (xed (xy zq (cv 1) (xp yc (xy xD (cv 3) xh (fun _ _ => rfl)) (cv 4)) (fun _ _ => rfl)) (xf6 (cv 2) (xp yc (xy xD (cv 3) xh (fun _ _ => rfl)) (cv 4)) set_list))))) (xl (yF PassesOwn.never rfl (ug (by rfl) T.q0K (xa (xE xG (by rfl) T.q0V yv (xa (xy xD (cv 3) xh (fun _ _ => rfl)) xf)) xf)) (xM (i := 4) nd rfl (Or.inl rfl)) (xl (xed (xy xD (xy xD (cv 3) xh (fun _ _ => rfl)) (cv 4) (fun _ _ => rfl)) (xf6 (cv 2) (xp yc (xy xD (cv 3) xh (fun _ _ => rfl)) (cv 4)) set_list))))))))
  (xl (xu (cv 2))))), ?_⟩
  have tl : ts.length = rs.length := hts.length
  walk_at "w"
  walk_at "ss"
  intro l0 hl0
  generalize hUl0 : upd H l0 _ = H1
  have sH1 := xc.of_eq hl0 hUl0
  have el0 := xq hUl0
  clear hUl0
  walk_at "w"
  refine ⟨p, _, _, .int nw.length, rfl, rfl, SqT.of (sH1.at hp), rfl, ?_⟩
  walk_at "w"
  refine ⟨l0, _, _, rfl, rfl, el0, by omega, by omega, by simp [sizeLine_eq]; omega, ?_⟩
  intro nl hnl
  generalize hUnl : upd H1 nl _ = H2
  have sH2 := xc.of_eq hnl hUnl
  have enl := xq hUnl
  clear hUnl
  walk_at "w"
  have ef : (List.replicate ((nw.length : Nat) : Int).toNat [V.non]).flatten = List.replicate nw.length V.non := by
   rw [List.flatten_replicate_singleton, Int.toNat_natCast]
  rw [ef] at enl
  have s2 : xc H H2 := sH1.trans sH2
  have hnl0 : H nl = none := sH1.back hnl
  refine ⟨p, _, _, .ref t, rfl, rfl, SqT.of (s2.at hp), rfl, ?_⟩
  walk_at "w"
  refine ⟨t, rfl, ⟨_, SqT.of (s2.at ht)⟩, ?_⟩
  refine xhu (xs := ts.map V.ref) (fun k σ G => xc H G ∧ ∃ ys x3 x4, σ = [some (.ref p), some (.ref e), some (.ref nl), x3, x4] ∧ G nl = some (.lst ys) ∧ uT (fun j => ∃ r ∈ rs.take k, jk r j) ys nw) ⟨s2, _, _, _, rfl, enl, by simp, fun j hj => ?_⟩ (fun i σ G hi hP1 => ?_) (fun k0 x σ G hx hP1 => ?_) (fun σ G hP1 => ?_)
  ·obtain ⟨r, hr1, _⟩ := hj; simp at hr1
  ·exact SqT.of (hP1.1.at ht)
  ·obtain ⟨sG, ys, x3, x4, rfl, enl', hag⟩ := hP1
   rw [List.getElem?_map] at hx
   obtain ⟨t0, hb, rfl⟩ := Option.map_eq_some_iff.mp hx
   obtain ⟨r, hr0, pr⟩ := Paired.nth hts hb
   obtain ⟨g1, g2, g3, g4⟩ := htl r (List.mem_of_getElem? hr0)
   have gto := g1.to
   have tk : rs.take (k0 + 1) = rs.take k0 ++ [r] := by rw [List.take_succ, hr0]; rfl
   have stp : ∀ {G5 : Hp} {ys5 : List V} {i : Nat}, xc H G5 → G5 nl = some (.lst ys5) → uT (fun j => (∃ r ∈ rs.take k0, jk r j) ∨ (r.to ≤ j ∧ (j : Int) < r.to + i)) ys5 nw → ∀ v, (r.sg es)[i]? = some v → i < r.cnt → ∀ G6, upd G5 nl (.lst (ys5.set (r.to + i).toNat (.int v))) = G6 →
     xc H G6 ∧ G6 nl = some (.lst (ys5.set (r.to + i).toNat (.int v))) ∧ uT (fun j => (∃ r ∈ rs.take k0, jk r j) ∨ (r.to ≤ j ∧ (j : Int) < r.to + ((i + 1 : Nat) : Int))) (ys5.set (r.to + i).toNat (.int v)) nw := fun {G5 ys5 i} s5 e5 hag5 v hv hil G6 hU => by
    refine ⟨xc.wr s5 hnl0 hU, by rw [← hU, xo], hag5.set ((g4 i hil).trans hv) fun j hj => ?_⟩
    rcases hj with z | z
    ·exact .inl (.inl z)
    ·by_cases hlt : (j : Int) < r.to + i
     ·exact .inl (.inr ⟨z.1, hlt⟩)
     ·exact .inr (by omega)
   have fin : ∀ {G5 : Hp} {ys5 : List V}, xc H G5 → G5 nl = some (.lst ys5) → uT (fun j => (∃ r ∈ rs.take k0, jk r j) ∨ (r.to ≤ j ∧ (j : Int) < r.to + r.cnt)) ys5 nw → uT (fun j => ∃ r ∈ rs.take (k0 + 1), jk r j) ys5 nw := fun {G5 ys5} s5 e5 hag5 => by
    refine ⟨hag5.1, fun j hj => ?_⟩
    obtain ⟨r', hr', hc'⟩ := hj
    rw [tk] at hr'
    rcases List.mem_append.mp hr' with z | z
    ·exact hag5.2 j (.inl ⟨r', z, hc'⟩)
    ·rw [List.mem_singleton.mp z] at hc'
     exact hag5.2 j (.inr ⟨hc'.1, hc'.2⟩)
   have h00 : uT (fun j => (∃ r ∈ rs.take k0, jk r j) ∨ (r.to ≤ j ∧ (j : Int) < r.to + ((0 : Nat) : Int))) ys nw := ⟨hag.1, fun j hj => by
    rcases hj with z | z
    ·exact hag.2 j z
    ·omega⟩
   walk_at "w"
   cases r with
   | put to sg =>
    obtain ⟨u, q1, q2⟩ := pr
    refine ⟨t0, _, _, .str "put", rfl, rfl, SqT.of (sG.at q1), rfl, ?_⟩
    walk_at "w"
    refine ⟨by walk_at "no", fun _ => ?_⟩
    walk_at "w"
    refine ⟨t0, _, _, .ref u, rfl, rfl, SqT.of (sG.at q1), rfl, ?_⟩
    walk_at "w"
    refine ⟨u, _, rfl, .inr (SqT.of (sG.at q2)), ?_⟩
    walk_at "w"
    have er : yo 0 (((sg.map V.int).length : Nat) : Int) 1 = sg.length := by rw [yI, List.length_map]; omega
    rw [er]
    refine xbq (fun i σ G => xc H G ∧ ∃ ys x4, σ = [some (.ref p), some (.ref e), some (.ref nl), some (.ref t0), x4] ∧ G nl = some (.lst ys) ∧ uT (fun j => (∃ r ∈ rs.take k0, jk r j) ∨ (to ≤ j ∧ (j : Int) < to + i)) ys nw)
     ⟨sG, ys, _, rfl, enl', h00⟩ (fun i σ G5 hi hP2 => ?_) (fun σ G5 hP2 => ?_)
    ·obtain ⟨s5, ys5, y4, rfl, enl5, hag5⟩ := hP2
     have ei : (0 : Int) + (i : Int) * 1 = (i : Int) := by omega
     obtain ⟨v, hv⟩ : ∃ v, sg[i]? = some v := ⟨_, List.getElem?_eq_getElem hi⟩
     walk_at "w"
     rw [ei]
     refine ⟨t0, _, _, .ref u, rfl, rfl, SqT.of (s5.at q1), rfl, ?_⟩
     walk_at "w"
     refine ⟨u, _, _, .int v, rfl, rfl, SqT.of (s5.at q2), xag (by rw [List.getElem?_map, hv]; rfl), ?_⟩
     walk_at "w"
     refine ⟨t0, _, _, .int to, rfl, rfl, SqT.of (s5.at q1), rfl, ?_⟩
     walk_at "w"
     refine ⟨nl, _, _, (to + i).toNat, rfl, rfl, enl5, xgk (by have : 0 ≤ to := gto; omega) (by rw [hag5.1]; have : to + (sg.length : Nat) ≤ nw.length := g3; omega), ?_⟩
     generalize hU : upd G5 nl _ = G6
     obtain ⟨k1, k2, k3⟩ := stp s5 enl5 hag5 v hv hi G6 hU
     exact ⟨k1, _, _, rfl, k2, k3⟩
    ·obtain ⟨s5, ys5, y4, rfl, enl5, hag5⟩ := hP2
     exact ⟨s5, _, _, _, rfl, enl5, fin s5 enl5 hag5⟩
   | take to st c =>
    obtain ⟨b1, b2, b3⟩ := g1
    have q1 : H t0 = some (.tup [.str "take", .int to, .int st, .int c]) := pr
    refine ⟨t0, _, _, .str "take", rfl, rfl, SqT.of (sG.at q1), rfl, ?_⟩
    walk_at "w"
    refine ⟨fun _ => ?_, by walk_at "no"⟩
    walk_at "w"
    refine ⟨t0, _, _, .int c, rfl, rfl, SqT.of (sG.at q1), rfl, ?_⟩
    walk_at "w"
    have er : yo 0 c 1 = c.toNat := by rw [yI]; omega
    rw [er]
    refine xbq (fun i σ G => xc H G ∧ ∃ ys x4, σ = [some (.ref p), some (.ref e), some (.ref nl), some (.ref t0), x4] ∧ G nl = some (.lst ys) ∧ uT (fun j => (∃ r ∈ rs.take k0, jk r j) ∨ (to ≤ j ∧ (j : Int) < to + i)) ys nw)
     ⟨sG, ys, _, rfl, enl', h00⟩ (fun i σ G5 hi hP2 => ?_) (fun σ G5 hP2 => ?_)
    ·obtain ⟨s5, ys5, y4, rfl, enl5, hag5⟩ := hP2
     have ei : (0 : Int) + (i : Int) * 1 = (i : Int) := by omega
     obtain ⟨v, hv⟩ : ∃ v, (xm.sg es (.take to st c))[i]? = some v := ⟨_, List.getElem?_eq_getElem (by rw [xm.sg_len (r := .take to st c) ⟨b1, b2, b3⟩ g2]; exact hi)⟩
     have hv2 : es[(st + i).toNat]? = some v := by
      have hv : ((es.drop st.toNat).take c.toNat)[i]? = some v := hv
      rw [List.getElem?_take_of_lt hi, List.getElem?_drop] at hv
      rw [← hv]; congr 1; omega
     walk_at "w"
     rw [ei]
     refine ⟨t0, _, _, .int st, rfl, rfl, SqT.of (s5.at q1), rfl, ?_⟩
     walk_at "w"
     refine ⟨e, _, _, .int v, rfl, rfl, SqL.of (s5.at he), xem (by omega) hv2, ?_⟩
     walk_at "w"
     refine ⟨t0, _, _, .int to, rfl, rfl, SqT.of (s5.at q1), rfl, ?_⟩
     walk_at "w"
     refine ⟨nl, _, _, (to + i).toNat, rfl, rfl, enl5, xgk (by omega) (by rw [hag5.1]; have : to + (c.toNat : Nat) ≤ nw.length := g3; omega), ?_⟩
     generalize hU : upd G5 nl _ = G6
     obtain ⟨k1, k2, k3⟩ := stp s5 enl5 hag5 v hv hi G6 hU
     exact ⟨k1, _, _, rfl, k2, k3⟩
    ·obtain ⟨s5, ys5, y4, rfl, enl5, hag5⟩ := hP2
     exact ⟨s5, _, _, _, rfl, enl5, fin s5 enl5 hag5⟩
  ·obtain ⟨sG, ys, x3, x4, rfl, enl', hag⟩ := hP1
   have e : ys = nw.map V.int := hag.all fun j hj => by
    obtain ⟨r, h1, h2⟩ := hcv j hj
    refine ⟨r, ?_, h2⟩
    rw [List.take_of_length_le (by simp; omega)]
    exact h1
   rw [e] at enl'
   exact k nl G sG hnl0 enl'
def xng : Sp := fun vs H Q _ => ∃ c n : Int, vs = [.int c, .int n] ∧ 0 ≤ n ∧ n ≤ 1000 ∧ ∀ (l : Addr) (es : List Int) (H' : Hp), xc H H' → H l = none → H' l = some (.lst (es.map V.int)) → es.length = n.toNat → Q (.ref l) H'
theorem xnh (T : Txt K mg a) : xA P w K mg base CX0 2 a.q1W a.xfb ["_law_cell", "_law_size"] xng := by
 refine T.xb5.ok xiE (fun vs H Q E h => ?_) (fun cdv A outer s H vs Q E hr h => ?_)
 ·obtain ⟨c, n, rfl, _⟩ := h; rfl
 ·obtain ⟨c, n, rfl, hn0, hn1, q⟩ := h
  have nd := xiE.nd
  refine ⟨_, (xk (xN (xJ xau (xp ye (cv 0) xh) xh) (xl (xu (jo (uJ (cap := [0]) (ys := ["_law_cell"]) rfl rfl rfl rfl rfl ⟨⟨rfl, rfl, .inl rfl⟩, trivial⟩ (by decide +kernel)) rfl (ug (by rfl) T.q0K (xa (cv 1) xf)) (fun _ _ _ _ => (xp ye (xv (vg T) (hr.mono (by decide)) (by rfl) T.vz T.zw.kp T.uf .nil xr (xa (cv 1) (xa (cv 0) xf))) xh)) (fun _ _ _ _ => uK)))) xF)
  (xl (xu (jo (uJ (cap := [0]) (ys := ["_law_cell"]) rfl rfl rfl rfl rfl ⟨⟨rfl, rfl, .inl rfl⟩, trivial⟩ (by decide +kernel)) rfl (ug (by rfl) T.q0K (xa (cv 1) xf)) (fun _ _ _ _ => (xp yc (xp uB (xp ye (xp yc (xp xbo (cv 1) (xp yc (cv 0) xh)) (xv (vg T) (hr.mono (by decide)) (by rfl) T.vz T.zw.kp T.uf .nil xr (xa (cv 1) (xa (cv 0) xf)))) (xp uB (xp xeW xh (xp xeX xh xh)) xh)) (xp xeX xh xh)) xh)) (fun _ _ _ _ => uK))))), ?_⟩
  have er : yo 0 n 1 = n.toNat := by rw [yI]; omega
  walk_at "w"
  walk_at "ss"
  refine ⟨fun e1 => ?_, fun e1 => ?_⟩
  ·walk_at "w"
   rw [er]
   refine vX (fun i acc _ => ∃ sg : List Int, acc = sg.map V.int ∧ sg.length = i) (by rw [sizeLine_eq]; omega) ⟨[], rfl, rfl⟩ (fun i acc H3 H3' hi s3 s3' hP R hR => ?_) (fun D acc H3 H3' hD hD3 s3 s3' hP hl hv => ?_)
   ·obtain ⟨sg, rfl, hsl⟩ := hP
    walk_at "w"
    refine ⟨_, _, rfl, ?_⟩
    generalize mixed _ _ = mx
    walk_at "w"
    walk_at "ss"
    exact hR _ _ (xc.refl _) fun H6 _ _ => ⟨sg ++ [mx % 3], by simp, by simp [hsl]⟩
   ·obtain ⟨sg, rfl, hsl⟩ := hP
    exact q D sg H3' (s3.trans s3') hD hv hsl
  ·walk_at "w"
   rw [er]
   refine vX (fun i acc _ => ∃ sg : List Int, acc = sg.map V.int ∧ sg.length = i) (by rw [sizeLine_eq]; omega) ⟨[], rfl, rfl⟩ (fun i acc H3 H3' hi s3 s3' hP R hR => ?_) (fun D acc H3 H3' hD hD3 s3 s3' hP hl hv => ?_)
   ·obtain ⟨sg, rfl, hsl⟩ := hP
    walk_at "w"
    refine And.intro ⟨by omega, ?_⟩ ?_
    ·have h1 : (0 + (i : Int) * 1 + 1).natAbs < 2 ^ 64 := by omega
     have h2 : (0 + (i : Int) * 1 + 1).natAbs.log2 < 64 := (Nat.log2_lt (by omega)).mpr h1
     omega
    walk_at "w"
    refine ⟨_, _, rfl, ?_⟩
    generalize mixed _ _ = mx
    walk_at "w"
    walk_at "ss"
    refine hR _ _ (xc.refl _) fun H6 _ _ => ⟨sg ++ [(c / (0 + (i : Int) * 1 + 1) + mx) % (2 * 10 ^ Int.toNat 60 - 1) - 10 ^ Int.toNat 60 + 1], ?_, by simp [hsl]⟩
    rw [List.map_append]; rfl
   ·obtain ⟨sg, rfl, hsl⟩ := hP
    exact q D sg H3' (s3.trans s3') hD hv hsl
def xoq (K : W.Frag) (a : Adr) : Sp := fun vs H Q _ => ∃ (F : FA) (p tt : Addr) (o n : Int) (us : List Addr) (rs : List xm) (C0 : List Int), vs = [.ref F.S.st, .ref p] ∧ Bs K F ∧ StF a H F C0 [some 0, some 0] 0 ∧ H p = some (.tup [.int o, .int n, .ref tt]) ∧ H tt = some (.tup (us.map V.ref)) ∧ Paired (GT K H) us rs ∧ us.length ≤ 58 ∧ max o n ≤ C0.length ∧ (∀ x ∈ yd rs, vD C0.length x) ∧ (yd rs).length ≤ 10000 ∧
 ∀ H' notes' k, Kp (SF F) H H' → StF a H' F (doL C0 (yd rs)) notes' k → ux notes' (yd rs).length → Q (.bl true) H'
theorem GT.kpF {H H' : Hp} {F : FA} {cells : List Int} {notes : List (Option Int)} {k : Nat} {u : Addr} {r : xm} (h : GT K H u r) (hF : StF a H F cells notes k) (kp : Kp (SF F) H H') : GT K H' u r :=
 ⟨TupAt.kpS h.1 fun b u e m => kp b u e (hF.noMu e m), h.2⟩
theorem xos (T : Txt K mg a) : xA P w K mg base CX0 9 a.q2s a.xgp ["_law_store", "_law_paper_here"] (xoq K a) := by
 refine T.xda.ok xjY (fun vs H Q E h => ?_) (fun cdv A outer s H vs Q E hr h => ?_)
 ·obtain ⟨F, p, tt, o, n, us, rs, C0, rfl, _⟩ := h; rfl
 ·obtain ⟨F, p, tt, o, n, us, rs, C0, rfl, B, hF, hp, ht, hus, hul, hle, hok, hX4, q⟩ := h
  have nd := xjY.nd
  refine ⟨_, (xk (yF PassesOwn.never rfl (ug (by rfl) T.q0K (xa xh xf)) (xM (i := 2) nd rfl (Or.inl rfl)) (xk (xC (i := 3) nd rfl (Or.inl rfl) jP)
  (xk (xpc ⟨rfl, rfl, rfl⟩ T.q2q (by rfl) T.xfT (fun _ _ => (xl (yk (xir ⟨rfl, rfl, rfl⟩ (xne T) (hr.mono (by decide)) (by rfl) T.xjQ T.xb0.kp T.xfc .nil (xa (cv 0) (xa (cv 1) xf)))))) (fun _ _ _ => (xl (xC (i := 3) nd rfl (Or.inl rfl) jP))))
  (xl (xN (uH (cv 3)) (xl (xu jP)) xF)))))
  (xl (xu jP))), ?_⟩
  walk_at "w"
  have er : yo 0 31 1 = 31 := by decide
  rw [er]
  refine xbq (fun i σ G => Kp (SF F) H G ∧ i ≤ 30 ∧ (∃ (cells : List Int) (notes : List (Option Int)) (m : Nat), StF a G F cells notes i ∧ ux notes m ∧ m ≤ (yd rs).length ∧ zj (yd rs) m C0 cells) ∧ ∃ (x2 x3 : Option V), σ = [some (.ref F.S.st), some (.ref p), x2, x3])
   ⟨Kp.of (xc.refl _), by omega, ⟨C0, [some 0, some 0], 0, hF, ⟨rfl, rfl, fun x hx => by simp at hx; omega⟩, by omega, zj.refl _ 0 C0⟩, _, _, rfl⟩ (fun i σ G hi hP => ?_) (fun σ G hP => ?_)
  ·obtain ⟨kp, hi30, ⟨cells, notes, m, hFG, hno, hm, hnr⟩, x2, x3, rfl⟩ := hP
   have kG : ∀ b u, H b = some u → ¬ xbF u → G b = some u := fun b u e mm => kp b u e (hF.noMu e mm)
   walk_at "w"
   refine ⟨F, p, tt, o, n, us, rs, cells, C0, notes, i, m, rfl, B, hFG, hi30, kG _ _ hp (fun z => z), kG _ _ ht (fun z => z), L2.Paired.imp' (fun _ _ z => z.kpF hF kp) hus, hul, hle, hok, hno, hm, by omega, hnr, fun v G2 notes2 k2 hF2 hno2 => ?_, fun hk nn d G2 cells2 notes2 k2 hF2 hh hd => ?_⟩
   ·walk_at "w"
    refine ⟨fun _ => ?_, by walk_at "no"⟩
    exact q G2 notes2 i (kp.trans k2) hF2 hno2
   ·obtain ⟨m', hno', hm', hnr'⟩ := hh
    walk_at "w"
    refine ⟨a.q0d, rfl, T.q04, fun ea hea => ?_⟩
    walk_at "w"
    refine ⟨by walk_at "no", fun _ => ?_⟩
    exact ⟨kp.trans k2, by omega, ⟨cells2, notes2, m', hF2, hno', hm', hnr'⟩, _, _, rfl⟩
  ·obtain ⟨kp, hi30, _⟩ := hP
   omega
theorem xmc {G H' : Hp} {x dx : Addr} {C : Addr} (hx : G x = none) (hd : G dx = none) (k : Kp [x] (upd (upd G dx (.own x)) x (.ins C dx [])) H') : xc G H' := fun b u e =>
 k b u (by rw [xn (xB e hx), xn (xB e hd)]; exact e) (by simp; exact xB e hx)
theorem xeJ {G : Hp} {x dx b : Addr} {C : Addr} (hx : G x = none) (hd : G dx = none) (e : upd (upd G dx (.own x)) x (.ins C dx []) b = none) : G b = none := by
 by_cases h : b = x
 ·rw [h]; exact hx
 ·rw [xn h] at e
  by_cases h2 : b = dx
  ·rw [h2]; exact hd
  ·rw [xn h2] at e; exact e
def xiW (K : W.Frag) : Sp := fun vs H Q _ => ∃ (l : Addr) (ns : List Int), vs = [.ref l] ∧ SqL K H l (ns.map V.int) ∧ ns.length ≤ 63 ∧ H uq = some (.tbl jK) ∧ H zB = some (.tbl jy) ∧ H yt = some (.tbl ur) ∧ H xe4 = some (.tbl xiv) ∧ ∀ H', Q (.bl true) H'
theorem xpn (sg : List Int) {n : Int} (h : 0 ≤ n) : xcS (sg.map V.int) none (some n) = (sg.take n.toNat).map V.int := by
 rw [xhy, xip h, HT.xfM]
 simp [← List.take_eq_take_min]
theorem xiX (sg : List Int) {n : Int} (h : 0 ≤ n) : xcS (sg.map V.int) (some n) none = (sg.drop n.toNat).map V.int := by
 rw [xhy, xip h, HT.xfM]
 congr 1
 rcases Nat.le_total n.toNat sg.length with z | z
 ·rw [Nat.min_eq_left z, List.take_of_length_le (by simp)]
 ·rw [Nat.min_eq_right z, List.drop_of_length_le z, List.drop_length]; simp
theorem xpo {old new : Int} {r : xm} (g : Good old r) (h : r.to + r.cnt ≤ new) : Fit old new r := by
 cases r with
 | take to st c =>
  have h1 : st + c ≤ old := g.2.2
  have h2 : to + (c.toNat : Nat) ≤ new := h
  exact ⟨h1, by omega⟩
 | put to sg => exact h
theorem xot {H : Hp} {us : List Addr} {rs : List xm} (h : Paired (GT K H) us rs) : (yd rs).length ≤ 9 * us.length := by
 induction h with
 | nil => simp [yd]
 | cons hg t ih =>
  have := xfI hg.2.1 hg.2.2
  unfold yd at ih ⊢
  rw [List.flatMap_cons, List.length_append, List.length_map, List.length_cons]
  omega
def NC (u : HO) : Prop := ∀ c, u ≠ .cel c
def Sk (H H' : Hp) : Prop := ∀ b u, H b = some u → NC u → H' b = some u
theorem Sk.of {H H' : Hp} (s : xc H H') : Sk H H' := fun b u e _ => s b u e
theorem Sk.trans {H H1 H2 : Hp} (h : Sk H H1) (g : Sk H1 H2) : Sk H H2 := fun b u e n => g b u (h b u e n) n
theorem Sk.wr {H H' : Hp} {f : Addr} {c : Option V} {o : HO} (hf : H f = some (.cel c)) (hU : upd H f o = H') : Sk H H' := fun b u e n => by
 rw [← hU, xn (fun z => by rw [z, hf] at e; cases e; exact n _ rfl)]; exact e
theorem Sk.lst {H H' : Hp} (s : Sk H H') {b : Addr} {xs : List V} (e : H b = some (.lst xs)) : H' b = some (.lst xs) := s b _ e (fun c z => by cases z)
theorem Sk.tup {H H' : Hp} (s : Sk H H') {b : Addr} {xs : List V} (e : H b = some (.tup xs)) : H' b = some (.tup xs) := s b _ e (fun c z => by cases z)
theorem Sk.tbl {H H' : Hp} (s : Sk H H') {b : Addr} {q : List (Pos × Str)} (e : H b = some (.tbl q)) : H' b = some (.tbl q) := s b _ e (fun c z => by cases z)
theorem Sk.row {H H' : Hp} (s : Sk H H') {t : Addr} {r : xm} (h : TupAt K H t r) : TupAt K H' t r := by
 cases r with
 | take to st c => exact s.tup h
 | put to sg => obtain ⟨u, h1, h2⟩ := h; exact ⟨u, s.tup h1, s.tup h2⟩
theorem Sk.seq {H H' : Hp} (s : Sk H H') {l : Addr} {xs : List V} (h : SqL K H l xs) : SqL K H' l xs := by
 rcases h with (h | ⟨ob, h⟩) | h
 ·exact .inl (.inl (s.lst h))
 ·exact .inl (.inr ⟨ob, s _ _ h (fun c z => by cases z)⟩)
 ·exact .inr h
theorem xpp (T : Txt K mg a) : xA P w K mg base CX0 10 a.q34 a.xgq ["_law_script"] (xiW K) := by
 refine T.xgu.okC ["_law_script", "_law_due", "_law_elder_here", "_law_falls"] T.xlS xlV (fun vs H Q E h => ?_) (fun A outer s H vs Q E hr h => ?_)
 ·obtain ⟨l, ns, rfl, _⟩ := h; rfl
 ·obtain ⟨l, ns, rfl, hl, hns, hPd, hPw, hPn, hPl, q⟩ := h
  have nd := xlV.nd
  refine ⟨_, (xbr (x := "_law_due") (i := 4) nd rfl rfl rfl (by kernel_rfl) (xbr (x := "_law_elder_here") (i := 3) nd rfl rfl rfl (by kernel_rfl) (xbr (x := "_law_falls") (i := 7) nd rfl rfl rfl (by kernel_rfl) (xbr (x := "_law_script") (i := 0) nd rfl rfl rfl (by kernel_rfl) (xk (xC (i := 1) nd rfl (Or.inl rfl) (xv (xm3 T) (hr.mono (by decide)) (by rfl) T.xjT T.xb3.kp T.xff .nil xr (xa (cv 0) xf)))
  (xk (xC (i := 2) nd rfl (Or.inl rfl) (xv (xm9 T) (hr.mono (by decide)) (by rfl) T.xjR T.xb1.kp T.xfd .nil xr (xa (cv 1) xf)))
  (xk (xN (xgX (cv 2)) (xl (xu (jJ xic (xy xD (cv 2) xh (fun _ _ => rfl)) xas))) xF)
  (xk (xgY (i := 3) nd rfl rfl rfl (by kernel_rfl) (xv (xnh T) (hr.mono (by decide)) (by rfl) T.xjV T.xb5.kp T.xfh .nil xr (xa (xv (uw T) (hr.mono (by decide)) (by rfl) T.uv T.yG.kp T.zm .nil xr (xa (cv 0) (xa xh xf))) (xa (xy xD (cv 1) xh (fun _ _ => rfl)) xf))))
  (xk (xgY (i := 4) nd rfl rfl rfl (by kernel_rfl) (xv (xnf T) (hr.mono (by decide)) (by rfl) T.xjU T.xb4.kp T.xfg .nil xr (xa (cv 1) (xa (cv 3) xf))))
  (xk (xC (i := 5) nd rfl (Or.inl rfl) (xE (xgg rfl) (by rfl) T.q3k xek (xa (xy xD (cv 1) xh (fun _ _ => rfl)) (xa (xy xD (cv 1) xh (fun _ _ => rfl)) xf))))
  (xk (xbN (i := 6) (uJ (cap := []) (ys := []) rfl rfl rfl rfl rfl trivial (by decide +kernel)) rfl nd rfl rfl (ug (by rfl) T.q0K (xa (xp yc (xp uB (cv 5) (xy xD (cv 1) xh (fun _ _ => rfl))) (xp ye (xv (uw T) (hr.mono (by decide)) (by rfl) T.uv T.yG.kp T.zm .nil xr (xa (cv 0) (xa xh xf))) xh)) xf)) (fun _ _ _ _ => (xp yc xh (cv 0))) (fun _ _ _ _ => uK))
  (xk (xgY (i := 7) nd rfl rfl rfl (by kernel_rfl) (zk xf))
  (xk (xC (i := 8) nd rfl (Or.inl rfl) (xeT T.q2T (xhS T) (hr.mono (by decide)) (by rfl) T.xjW T.xaR .nil xr (xa (xp xeg (cv 3) (cv 6)) (xa (xbs (c := q2b) (P := xe4) (qs := xiv) (fns := ["_law_due", "_law_elder_here", "_law_falls", "_law_script"]) rfl T.q5f (q := "law.<locals>.<lambda>") (by kernel_rfl) (.head _) (by kernel_rfl) (by kernel_rfl)) xf))))
  (xk (xN (xec (uH (xv (xos T) (hr.mono (by decide)) (by rfl) T.xlR T.xda.kp T.xgt .nil xr (xa (cv 8) (xa (cv 1) xf))))) (xl (xu jP)) xF)
  (xk (xed (xT (cv 8) T.xU T.xbE (xd8 T) (hr.mono (by decide)) T.ji .nil xr) (xb6 rfl (yE (xM (i := 9) nd rfl (Or.inl rfl)) (yE (xM (i := 10) nd rfl (Or.inl rfl)) (yE (xM (i := 11) nd rfl (Or.inl rfl)) xaX)))))
  (xk (xN (PW.pt (xdx (xJ (xgf hr.units) (xdt xc3 (cv 9) xeU (xbZ (xy xD (cv 1) xh (fun _ _ => rfl)))) (cv 4)) (xeb (xJ (xgf hr.units) (xdt xc3 (cv 9) (xbZ (xy xD (cv 1) xh (fun _ _ => rfl))) xeU) (xdt xc3 (xp xeg (cv 3) (cv 6)) (xbZ (xy xD (cv 1) xh (fun _ _ => rfl))) xeU))))) (xl (xu jP)) xF)
  (xl (xu (jJ xau (xT (cv 8) T.xU T.xa5 (xdl T) (hr.mono (by decide)) T.vt .nil xr) (xE xG (by rfl) T.q0V yv (xa (xv (xeD T) (hr.mono (by decide)) (by rfl) T.xcX T.uz.kp T.jN .nil xr (xa (cv 1) xf)) xf))))))))))))))))))))), ?_⟩
  walk_at "w"
  intro f1 e1 z1 d1
  refine And.intro z1 ?_
  generalize hU1 : upd H f1 _ = H1
  have s1 := xc.of_eq z1 hU1
  have c1 : H1 f1 = some (.cel none) := xq hU1
  have b1 : ∀ b, b ≠ f1 → H1 b = H b := fun b hb => by rw [← hU1, xn hb]
  clear hU1
  walk_at "w"
  intro f2 e2 z2 d2
  have n12 : f1 ≠ f2 := d2 _ _ e1 (by decide)
  have z2' : H1 f2 = none := by rw [b1 _ (Ne.symm n12)]; exact z2
  refine And.intro z2' ?_
  generalize hU2 : upd H1 f2 _ = H2
  have s2 := xc.of_eq z2' hU2
  have c2 : H2 f2 = some (.cel none) := xq hU2
  have b2 : ∀ b, b ≠ f2 → H2 b = H1 b := fun b hb => by rw [← hU2, xn hb]
  clear hU2
  walk_at "w"
  intro f3 e3 z3 d3
  have n13 : f1 ≠ f3 := d3 _ _ e1 (by decide)
  have n23 : f2 ≠ f3 := d3 _ _ e2 (by decide)
  have z3' : H2 f3 = none := by rw [b2 _ (Ne.symm n23), b1 _ (Ne.symm n13)]; exact z3
  refine And.intro z3' ?_
  generalize hU3 : upd H2 f3 _ = H3
  have s3 := xc.of_eq z3' hU3
  have c3 : H3 f3 = some (.cel none) := xq hU3
  have b3 : ∀ b, b ≠ f3 → H3 b = H2 b := fun b hb => by rw [← hU3, xn hb]
  clear hU3
  walk_at "w"
  intro f4 e4 z4 d4
  have n14 : f1 ≠ f4 := d4 _ _ e1 (by decide)
  have n24 : f2 ≠ f4 := d4 _ _ e2 (by decide)
  have n34 : f3 ≠ f4 := d4 _ _ e3 (by decide)
  have z4' : H3 f4 = none := by rw [b3 _ (Ne.symm n34), b2 _ (Ne.symm n24), b1 _ (Ne.symm n14)]; exact z4
  refine And.intro z4' ?_
  generalize hU4 : upd H3 f4 _ = H4
  have s4 := xc.of_eq z4' hU4
  have c4 : H4 f4 = some (.cel (some (.ref l))) := xq hU4
  clear hU4
  have s04 : xc H H4 := s1.trans (s2.trans (s3.trans s4))
  have c1 : H4 f1 = some (.cel none) := s4.at (s3.at (s2.at c1))
  have c2 : H4 f2 = some (.cel none) := s4.at (s3.at c2)
  have c3 : H4 f3 = some (.cel none) := s4.at c3
  clear b1 b2 b3 z2' z3' z4' s1 s2 s3 s4 d1 d2 d3 d4
  walk_at "w"
  refine ⟨l, ns, rfl, s04.seq hl, fun p tt us rs old new H5 s5 ep ett hus hul hfit hpt o0 o1 n0 n1 => ?_⟩
  obtain ⟨rs0, hpm, hTl⟩ := hpt
  obtain ⟨nw0, hnw0, _, _, hgood, hdis, htw, hlk⟩ := xnC (es := List.replicate old.toNat 0) hpm hTl (by rw [List.length_replicate]; omega)
  have hus' : Paired (TupAt K H5) us rs := L2.Paired.imp' (fun _ _ z => z.1) hus
  have hel : us.length = rs.length := hus.length
  have hpap : xcQ K H5 p old new rs := ⟨tt, us, ep, ett, hus'⟩
  walk_at "w"
  refine ⟨p, old, new, rs, rfl, hpap, ⟨o0, by omega⟩, ⟨n0, by omega⟩, by omega, fun r hr => ⟨(hgood r hr).1.1, xpo (hgood r hr).1 (hgood r hr).2⟩, htw, hlk, ?_⟩
  cases hlt : xdP rs with
  | some kc =>
   obtain ⟨k, c⟩ := kc
   intro t H6 s6 et
   walk_at "w"
   refine ⟨fun _ => ?_, by walk_at "no"⟩
   walk_at "w"
   refine ⟨t, _, _, .str "late", rfl, rfl, SqT.of et, rfl, ?_⟩
   exact q _
  | none =>
  intro H6 s6
  have s46 : xc H4 H6 := s5.trans s6
  have s06 : xc H H6 := s04.trans s46
  walk_at "w"
  refine ⟨by walk_at "no", fun _ => ?_⟩
  walk_at "w"
  refine ⟨l, ns, 2, rfl, s06.seq hl, by decide, ?_⟩
  walk_at "w"
  refine ⟨p, _, _, .int old, rfl, rfl, SqT.of (s6.at ep), rfl, ?_⟩
  walk_at "w"
  refine ⟨_, old, rfl, o0, by omega, fun el es H7 s7 hel0 eel hesl => ?_⟩
  walk_at "w"
  have c2 := s7.at (s46.at c2)
  refine ⟨f2, e2, c2, ?_⟩
  generalize hU : upd H7 f2 _ = H8
  have k78 : Sk H7 H8 := Sk.wr c2 hU
  have c2 : H8 f2 = some (.cel (some (.ref el))) := by rw [← hU, xo]
  have c1 : H8 f1 = some (.cel none) := by rw [← hU, xn n12]; exact s7.at (s46.at c1)
  have c3 : H8 f3 = some (.cel none) := by rw [← hU, xn (Ne.symm n23)]; exact s7.at (s46.at c3)
  have c4 : H8 f4 = some (.cel (some (.ref l))) := by rw [← hU, xn (Ne.symm n24)]; exact s7.at (s46.at c4)
  clear hU
  have k58 : Sk H5 H8 := (Sk.of (s6.trans s7)).trans k78
  have k08 : Sk H H8 := (Sk.of (s04.trans s5)).trans k58
  have eel8 := k78.lst eel
  obtain ⟨nw, hnw, htell, hcov, _, _, _, _⟩ := xnC (es := es) hpm hTl (by omega)
  walk_at "w"
  refine ⟨p, el, old, rs, es, nw, rfl, ⟨tt, us, by rw [hnw]; exact k58.tup ep, k58.tup ett, L2.Paired.imp' (fun _ _ z => k58.row z) hus'⟩, eel8, htell, hcov, by omega, fun du H9 s9 hdu edu => ?_⟩
  walk_at "w"
  have c1 := s9.at c1
  refine ⟨f1, e1, c1, ?_⟩
  generalize hU : upd H9 f1 _ = H10
  have k910 : Sk H9 H10 := Sk.wr c1 hU
  have c1 : H10 f1 = some (.cel (some (.ref du))) := by rw [← hU, xo]
  have c2 : H10 f2 = some (.cel (some (.ref el))) := by rw [← hU, xn (Ne.symm n12)]; exact s9.at c2
  have c3 : H10 f3 = some (.cel none) := by rw [← hU, xn (Ne.symm n13)]; exact s9.at c3
  have c4 : H10 f4 = some (.cel (some (.ref l))) := by rw [← hU, xn (Ne.symm n14)]; exact s9.at c4
  clear hU
  have k810 : Sk H8 H10 := (Sk.of s9).trans k910
  have k510 : Sk H5 H10 := k58.trans k810
  have k010 : Sk H H10 := k08.trans k810
  have edu10 := k910.lst edu
  have eel10 := k810.lst eel8
  clear k58 k08 k810 k910 s9 k78 s7 s6 s46 s5
  walk_at "w"
  refine ⟨p, _, _, .int old, rfl, rfl, SqT.of (k510.tup ep), rfl, ?_⟩
  walk_at "w"
  refine ⟨p, _, _, .int new, rfl, rfl, SqT.of (k510.tup ep), rfl, ?_⟩
  walk_at "w"
  refine ⟨p, _, _, .int old, rfl, rfl, SqT.of (k510.tup ep), rfl, ?_⟩
  walk_at "w"
  refine ⟨l, ns, 3, rfl, k010.seq hl, by decide, ?_⟩
  walk_at "w"
  walk_at "ss"
  have m0 := Int.emod_nonneg (cellAt ns 3) (show (10 : Int) ≠ 0 by decide)
  have m1 := Int.emod_lt_of_pos (cellAt ns 3) (show (0 : Int) < 10 by decide)
  obtain ⟨R, hR⟩ : ∃ R : Nat, R = yo 0 (max old new - old + cellAt ns 3 % 10) 1 := ⟨_, rfl⟩
  rw [← hR]
  rw [yI] at hR
  refine vX (fun i acc _ => ∃ sg : List Int, acc = sg.map V.int ∧ sg.length = i) (by rw [sizeLine_eq]; omega) ⟨[], rfl, rfl⟩ (fun i acc G G' hi sg' sg'' hP R hR => ?_) (fun rl acc H11 H11' hD hD3 s11 s11' hP hacc erl => ?_)
  ·obtain ⟨sg, rfl, hsl⟩ := hP
   walk_at "w"
   exact hR _ _ (xc.refl _) fun H6 _ _ => ⟨sg ++ [7 + (0 + (i : Int) * 1)], by simp, by simp [hsl]⟩
  obtain ⟨rest, rfl, hrl⟩ := hP
  have s1011 : xc H10 H11' := s11.trans s11'
  clear hacc hD3 s11 s11'
  walk_at "w"
  walk_at "ss"
  intro fa hfa
  generalize hUfa : upd H11' fa _ = H12
  have sH12 := xc.of_eq hfa hUfa
  have efa := xq hUfa
  clear hUfa
  walk_at "w"
  have s1012 : xc H10 H12 := s1011.trans sH12
  have c3 := s1012.at c3
  refine ⟨f3, e3, c3, ?_⟩
  generalize hU : upd H12 f3 _ = H13
  have k1213 : Sk H12 H13 := Sk.wr c3 hU
  have c3 : H13 f3 = some (.cel (some (.ref fa))) := by rw [← hU, xo]
  have c1 : H13 f1 = some (.cel (some (.ref du))) := by rw [← hU, xn n13]; exact s1012.at c1
  have c2 : H13 f2 = some (.cel (some (.ref el))) := by rw [← hU, xn n23]; exact s1012.at c2
  have c4 : H13 f4 = some (.cel (some (.ref l))) := by rw [← hU, xn (Ne.symm n34)]; exact s1012.at c4
  clear hU
  have k1013 : Sk H10 H13 := (Sk.of s1012).trans k1213
  have efa13 := k1213.lst efa
  have erl13 := k1213.lst (sH12.at erl)
  have nfdu : fa ≠ du := fun z => by rw [z, s1011.at edu10] at hfa; cases hfa
  have nfel : fa ≠ el := fun z => by rw [z, s1011.at eel10] at hfa; cases hfa
  have eel13 := k1013.lst eel10
  have edu13 := k1013.lst edu10
  walk_at "w"
  refine ⟨el, rl, _, _, rfl, rfl, eel13, erl13, by rw [sizeLine_eq]; simp; omega, ?_⟩
  intro cl hcl
  generalize hUcl : upd H13 cl _ = H14
  have sH14 := xc.of_eq hcl hUcl
  have ecl := xq hUcl
  clear hUcl
  walk_at "w"
  rw [← List.map_append] at ecl
  obtain ⟨C0, hC0⟩ : ∃ C0, C0 = es ++ rest := ⟨_, rfl⟩
  rw [← hC0] at ecl
  have k014 : Sk H H14 := k010.trans (k1013.trans (Sk.of sH14))
  have k514 : Sk H5 H14 := k510.trans (k1013.trans (Sk.of sH14))
  refine ⟨k014.tbl hPl, [("_law_due", .ref du), ("_law_elder_here", .ref el), ("_law_falls", .ref fa), ("_law_script", .ref l)], rfl, fun x v m => ?_, fun f H15 hf s15 hc => ?_⟩
  ·simp only [List.mem_cons, Prod.mk.injEq, List.not_mem_nil, or_false] at m
   rcases m with ⟨rfl, rfl⟩ | ⟨rfl, rfl⟩ | ⟨rfl, rfl⟩ | ⟨rfl, rfl⟩
   ·exact ⟨f1, e1, sH14.at c1⟩
   ·exact ⟨f2, e2, sH14.at c2⟩
   ·exact ⟨f3, e3, sH14.at c3⟩
   ·exact ⟨f4, e4, sH14.at c4⟩
  walk_at "w"
  intro x dx hx hdx nx
  have ecl15 := s15.at ecl
  refine ⟨x, dx, cl, C0, .ref f, rfl, xo, by rw [xn (xB ecl15 hx), xn (xB ecl15 hdx)]; exact ecl15, fun S H16 hst kp hS b1 b2 b3 => ⟨rfl, ?_⟩⟩
  have s1516 : xc H15 H16 := xmc hx hdx kp
  have g1 := xeJ hx hdx b1
  have g2 := xeJ hx hdx b2
  have g3 := xeJ hx hdx b3
  have g4 : H15 S.st = none := by rw [hst]; exact hx
  clear kp b1 b2 b3 hx hdx nx
  subst hst
  have k1316 : Sk H13 H16 := (Sk.of (sH14.trans (s15.trans s1516)))
  have k1315 : Sk H13 H15 := (Sk.of (sH14.trans s15))
  have k016 : Sk H H16 := k014.trans (Sk.of (s15.trans s1516))
  have k516 : Sk H5 H16 := k514.trans (Sk.of (s15.trans s1516))
  have fS : ∀ b ∈ SS S, H15 b = none := by
   intro b hb
   simp only [List.mem_cons, List.not_mem_nil, or_false] at hb
   rcases hb with rfl | rfl | rfl
   ·exact g1
   ·exact g2
   ·exact g3
  have nin : ∀ {b : Addr} {u : HO}, H15 b = some u → b ≠ fa → b ∉ fa :: SS S := fun {b u} e n z => by
   rcases List.mem_cons.mp z with z | z
   ·exact n z
   ·rw [fS b z] at e; cases e
  have k015 : Sk H H15 := k014.trans (Sk.of s15)
  have k011 : Sk H H11' := k010.trans (Sk.of s1011)
  have B : Bs K ⟨S, f, fa, l, du, el, ns, nw, es, H16⟩ := by
   refine ⟨hc.same s1516, fun G kG => ?_, hns, k1316.lst edu13, k1316.lst eel13, nin (k1315.lst edu13) (Ne.symm nfdu), nin (k1315.lst eel13) (Ne.symm nfel), fun x hx => ?_, fun z => ?_, fun z => ?_, k016.tbl hPd, k016.tbl hPw, k016.tbl hPn⟩
   ·rcases hl with (h | ⟨ob, h⟩) | h
    ·exact .inl (.inl (kG _ _ (k016.lst h) (nin (k015.lst h) (fun z => by rw [← z, k011.lst h] at hfa; cases hfa))))
    ·have h16 := k016 _ _ h (fun c z => by cases z)
     have h15 := k015 _ _ h (fun c z => by cases z)
     have h11 := k011 _ _ h (fun c z => by cases z)
     exact .inl (.inr ⟨ob, kG _ _ h16 (nin h15 (fun z => by rw [← z, h11] at hfa; cases hfa))⟩)
    ·exact .inr h
   ·rcases List.mem_cons.mp hx with rfl | hx
    ·exact ⟨_, k1316.lst efa13, trivial⟩
    ·exact hS.mu x hx
   ·have := k1315.lst efa13
    rw [fS _ z] at this; cases this
   ·have h1 := k1315.lst efa13
    have z : fa = S.st := z
    rw [z, g4] at h1; cases h1
  have hF16 : StF a H16 ⟨S, f, fa, l, du, el, ns, nw, es, H16⟩ C0 [some 0, some 0] 0 := ⟨⟨0, by omega, hS⟩, Kp.of (xc.refl _), ⟨[], k1316.lst efa13, rfl⟩⟩
  obtain ⟨F, hFd⟩ : ∃ F : FA, F = ⟨S, f, fa, l, du, el, ns, nw, es, H16⟩ := ⟨_, rfl⟩
  have hFS : S = F.S := by rw [hFd]
  have hdu' : F.du = du := by rw [hFd]
  have hel' : F.el = el := by rw [hFd]
  have hH0 : F.H0 = H16 := by rw [hFd]
  rw [← hFd] at B hF16
  have hst : S.st = F.S.st := by rw [hFS]
  have hC0l : (C0.length : Int) = max old new + cellAt ns 3 % 10 := by rw [hC0, List.length_append]; omega
  have hdue := xpk hus hfit (L := C0.length) (by omega) (by omega)
  have hdl : (yd rs).length ≤ 10000 := by have := xot hus; omega
  have run := xpl (C0 := C0) (fun r hr => (hgood r hr).1.1) hdue
  have sc : xaV es C0 rs _ := ⟨⟨rest, hC0⟩, run, fun r hr => ⟨by rw [hesl, Int.toNat_of_nonneg o0]; exact (hgood r hr).1, by have := (hgood r hr).2; omega⟩, hdis⟩
  have hrt : rs.take rs.length = rs := List.take_length
  have fine := sc.fine hlt (by omega) htell hcov
  have rst := sc.rest htell
  simp only [hrt] at fine rst
  have hnn : new.toNat = nw.length := by omega
  rw [hst]
  walk_at "w"
  refine ⟨F, p, tt, old, new, us, rs, C0, rfl, B, hF16, k516.tup ep, k516.tup ett, L2.Paired.imp' (fun _ _ z => ⟨k516.row z.1, z.2⟩) hus, hul, by omega, hdue, hdl, fun H17 notes' k k17 hF17 hno => ?_⟩
  obtain ⟨cnt, _, hS17⟩ := hF17.st
  have t17 : ∀ {b : Addr} {xs : List V}, H16 b = some (.tup xs) → H17 b = some (.tup xs) := fun {b xs} e => k17 _ _ e (hF16.noMu e (fun z => z))
  have edu17 : H17 du = some (.lst (nw.map V.int)) := k17 _ _ (k1316.lst edu13) (by rw [← hdu']; exact B.ndu)
  have eel17 : H17 el = some (.lst (es.map V.int)) := k17 _ _ (k1316.lst eel13) (by rw [← hel']; exact B.nel)
  have erl17 : H17 rl = some (.lst (rest.map V.int)) := k17 _ _ (k1316.lst erl13) (by
   have := nin (k1315.lst erl13) (fun z => by rw [z] at erl; rw [erl] at hfa; cases hfa)
   rw [hFd]; exact this)
  have ep17 := t17 (k516.tup ep)
  have hus17 : Paired (GT K H17) us rs := L2.Paired.imp' (fun _ _ z => GT.kpF ⟨k516.row z.1, z.2⟩ hF16 k17) hus
  walk_at "w"
  refine ⟨by walk_at "no", fun _ => ?_⟩
  walk_at "w"
  refine ⟨F.S.st, F.S.dx, _, rfl, hS17.st, rfl, ?_⟩
  walk_at "w"
  refine ⟨F.S, _, _, cnt, _, rfl, hS17, fun t c m H18 s18 hc hm ncm et ec em => ?_⟩
  walk_at "w"
  refine ⟨t, _, rfl, SqT.of et, rfl, ?_⟩
  walk_at "w"
  refine ⟨_, _, rfl, ?_⟩
  walk_at "w"
  refine ⟨_, _, rfl, ?_⟩
  walk_at "w"
  refine ⟨_, _, rfl, ?_⟩
  walk_at "w"
  refine And.intro rfl ?_
  walk_at "w"
  refine ⟨p, _, _, .int new, rfl, rfl, SqT.of (s18.at ep17), rfl, ?_⟩
  walk_at "w"
  refine ⟨new, rfl, ?_⟩
  walk_at "w"
  refine ⟨c, _, rfl, SqL.of ec, ?_⟩
  intro k1 hk1
  generalize hUk1 : upd H18 k1 _ = H19
  have sH19 := xc.of_eq hk1 hUk1
  have ek1 := xq hUk1
  clear hUk1
  walk_at "w"
  rw [xpn _ n0, hnn, fine] at ek1
  refine xe1 (f := fun b => !b) ⟨k1, du, nw, nw, rfl, rfl, SqL.of ek1, SqL.of (sH19.at (s18.at edu17)), ?_⟩
  walk_at "w"
  rw [decide_eq_true rfl]
  refine ⟨by walk_at "no", fun _ => ?_⟩
  walk_at "w"
  refine ⟨p, _, _, .int new, rfl, rfl, SqT.of (sH19.at (s18.at ep17)), rfl, ?_⟩
  walk_at "w"
  refine ⟨new, rfl, ?_⟩
  walk_at "w"
  refine ⟨c, _, rfl, SqL.of (sH19.at ec), ?_⟩
  intro k2 hk2
  generalize hUk2 : upd H19 k2 _ = H20
  have sH20 := xc.of_eq hk2 hUk2
  have ek2 := xq hUk2
  clear hUk2
  walk_at "w"
  have s1820 := sH19.trans sH20
  refine ⟨el, rl, _, _, rfl, rfl, s1820.at (s18.at eel17), s1820.at (s18.at erl17), by rw [sizeLine_eq]; simp; omega, ?_⟩
  intro k3 hk3
  generalize hUk3 : upd H20 k3 _ = H21
  have sH21 := xc.of_eq hk3 hUk3
  have ek3 := xq hUk3
  clear hUk3
  walk_at "w"
  rw [← List.map_append, ← hC0] at ek3
  refine ⟨p, _, _, .int new, rfl, rfl, SqT.of (sH21.at (s1820.at (s18.at ep17))), rfl, ?_⟩
  walk_at "w"
  refine ⟨new, rfl, ?_⟩
  walk_at "w"
  refine ⟨k3, _, rfl, SqL.of ek3, ?_⟩
  intro k4 hk4
  generalize hUk4 : upd H21 k4 _ = H22
  have sH22 := xc.of_eq hk4 hUk4
  have ek4 := xq hUk4
  clear hUk4
  walk_at "w"
  rw [xiX _ n0, hnn, rst] at ek2
  rw [xiX _ n0, hnn] at ek4
  have s1722 : xc H17 H22 := s18.trans (s1820.trans (sH21.trans sH22))
  refine xe1 (f := fun b => !b) ⟨k2, k4, _, _, rfl, rfl, SqL.of (sH22.at (sH21.at ek2)), SqL.of ek4, ?_⟩
  walk_at "w"
  rw [decide_eq_true rfl]
  refine ⟨by walk_at "no", fun _ => ?_⟩
  have hS22 := hS17.same s1722
  walk_at "w"
  refine ⟨F.S.st, F.S.dx, _, rfl, hS22.st, rfl, ?_⟩
  walk_at "w"
  refine ⟨F.S, _, _, cnt, _, rfl, hS22, hno.1, fun mx H23 s23 hmx => ?_⟩
  obtain rfl := hmx.uniq hno.max
  have s1723 := s1722.trans s23
  walk_at "w"
  refine ⟨p, tt, _, _, us, rs, rfl, s1723.at ep17, s1723.at (t17 (k516.tup ett)), L2.Paired.imp' (fun _ _ z => z.same s1723) hus17, hul, fun pl ws H24 s24 hpl epl hws => ?_⟩
  walk_at "w"
  refine ⟨pl, _, rfl, .inl (SqL.of epl), ?_⟩
  walk_at "w"
  have hwl : ws.length = (yd rs).length := hws.length
  show Q (.bl (decide (((yd rs).length : Int) = ((ws.map V.ref).length : Nat)))) H24
  rw [List.length_map, hwl, decide_eq_true rfl]
  exact q _
end
theorem xhe (kV doc pm : Value) (an : Option Addr) (cdv ct : Value) (us : List Value) (hl : us.length = 2) : bindArgs (W.fnOf "__init__" "Fallen.__init__" (xj yz) (xg yz) (xb yz) .none kV doc pm an cdv ct) ⟨us, []⟩ = pure ((["self", "count"] : List Str).zip us) := match us, hl with | [_, _], _ => rfl
theorem xjs (kV doc pm : Value) (an : Option Addr) (cdv ct : Value) (us : List Value) (hl : us.length = 2) : bindArgs (W.fnOf "__init__" "Row.__init__" (xj zI) (xg zI) (xb zI) .none kV doc pm an cdv ct) ⟨us, []⟩ = pure ((["self", "to"] : List Str).zip us) := match us, hl with | [_, _], _ => rfl
theorem xhZ (kV doc pm : Value) (an : Option Addr) (cdv ct : Value) (us : List Value) (hl : us.length = 1) : bindArgs (W.fnOf "covers" "Row.covers" (xj yK) (xg yK) (xb yK) .none kV doc pm an cdv ct) ⟨us, []⟩ = pure ((["self"] : List Str).zip us) := match us, hl with | [_], _ => rfl
theorem xhf (kV doc pm : Value) (an : Option Addr) (cdv ct : Value) (us : List Value) (hl : us.length = 1) : bindArgs (W.fnOf "covered" "Row.covered" (xj yA) (xg yA) (xb yA) .none kV doc pm an cdv ct) ⟨us, []⟩ = pure ((["self"] : List Str).zip us) := match us, hl with | [_], _ => rfl
theorem xiY (kV doc pm : Value) (an : Option Addr) (cdv ct : Value) (us : List Value) (hl : us.length = 4) : bindArgs (W.fnOf "__init__" "Take.__init__" (xj za) (xg za) (xb za) .none kV doc pm an cdv ct) ⟨us, []⟩ = pure ((["self", "to", "start", "count"] : List Str).zip us) := match us, hl with | [_, _, _, _], _ => rfl
theorem xh0 (kV doc pm : Value) (an : Option Addr) (cdv ct : Value) (us : List Value) (hl : us.length = 1) : bindArgs (W.fnOf "stays" "Take.stays" (xj yL) (xg yL) (xb yL) .none kV doc pm an cdv ct) ⟨us, []⟩ = pure ((["self"] : List Str).zip us) := match us, hl with | [_], _ => rfl
theorem xh1 (kV doc pm : Value) (an : Option Addr) (cdv ct : Value) (us : List Value) (hl : us.length = 1) : bindArgs (W.fnOf "reads" "Take.reads" (xj yM) (xg yM) (xb yM) .none kV doc pm an cdv ct) ⟨us, []⟩ = pure ((["self"] : List Str).zip us) := match us, hl with | [_], _ => rfl
theorem xhg (kV doc pm : Value) (an : Option Addr) (cdv ct : Value) (us : List Value) (hl : us.length = 1) : bindArgs (W.fnOf "writes" "Take.writes" (xj yB) (xg yB) (xb yB) .none kV doc pm an cdv ct) ⟨us, []⟩ = pure ((["self"] : List Str).zip us) := match us, hl with | [_], _ => rfl
theorem xhh (kV doc pm : Value) (an : Option Addr) (cdv ct : Value) (us : List Value) (hl : us.length = 1) : bindArgs (W.fnOf "pieces" "Take.pieces" (xj yC) (xg yC) (xb yC) .none kV doc pm an cdv ct) ⟨us, []⟩ = pure ((["self"] : List Str).zip us) := match us, hl with | [_], _ => rfl
theorem xeK (kV doc pm : Value) (an : Option Addr) (cdv ct : Value) (us : List Value) (hl : us.length = 2) : bindArgs (W.fnOf "source_for" "Take.source_for" (xj xV) (xg xV) (xb xV) .none kV doc pm an cdv ct) ⟨us, []⟩ = pure ((["self", "cell"] : List Str).zip us) := match us, hl with | [_, _], _ => rfl
theorem xf1 (kV doc pm : Value) (an : Option Addr) (cdv ct : Value) (us : List Value) (hl : us.length = 3) : bindArgs (W.fnOf "sign_for" "Take.sign_for" (xj yf) (xg yf) (xb yf) .none kV doc pm an cdv ct) ⟨us, []⟩ = pure ((["self", "cell", "read"] : List Str).zip us) := match us, hl with | [_, _, _], _ => rfl
theorem xiZ (kV doc pm : Value) (an : Option Addr) (cdv ct : Value) (us : List Value) (hl : us.length = 1) : bindArgs (W.fnOf "told" "Take.told" (xj zP) (xg zP) (xb zP) .none kV doc pm an cdv ct) ⟨us, []⟩ = pure ((["self"] : List Str).zip us) := match us, hl with | [_], _ => rfl
theorem xjt (kV doc pm : Value) (an : Option Addr) (cdv ct : Value) (us : List Value) (hl : us.length = 3) : bindArgs (W.fnOf "__init__" "Put.__init__" (xj zJ) (xg zJ) (xb zJ) .none kV doc pm an cdv ct) ⟨us, []⟩ = pure ((["self", "to", "signs"] : List Str).zip us) := match us, hl with | [_, _, _], _ => rfl
theorem xi0 (kV doc pm : Value) (an : Option Addr) (cdv ct : Value) (us : List Value) (hl : us.length = 1) : bindArgs (W.fnOf "reads" "Put.reads" (xj zb) (xg zb) (xb zb) .none kV doc pm an cdv ct) ⟨us, []⟩ = pure ((["self"] : List Str).zip us) := match us, hl with | [_], _ => rfl
theorem xh2 (kV doc pm : Value) (an : Option Addr) (cdv ct : Value) (us : List Value) (hl : us.length = 1) : bindArgs (W.fnOf "writes" "Put.writes" (xj yN) (xg yN) (xb yN) .none kV doc pm an cdv ct) ⟨us, []⟩ = pure ((["self"] : List Str).zip us) := match us, hl with | [_], _ => rfl
theorem xh3 (kV doc pm : Value) (an : Option Addr) (cdv ct : Value) (us : List Value) (hl : us.length = 1) : bindArgs (W.fnOf "pieces" "Put.pieces" (xj yO) (xg yO) (xb yO) .none kV doc pm an cdv ct) ⟨us, []⟩ = pure ((["self"] : List Str).zip us) := match us, hl with | [_], _ => rfl
theorem xgP (kV doc pm : Value) (an : Option Addr) (cdv ct : Value) (us : List Value) (hl : us.length = 3) : bindArgs (W.fnOf "sign_for" "Put.sign_for" (xj yp) (xg yp) (xb yp) .none kV doc pm an cdv ct) ⟨us, []⟩ = pure ((["self", "cell", "read"] : List Str).zip us) := match us, hl with | [_, _, _], _ => rfl
theorem xju (kV doc pm : Value) (an : Option Addr) (cdv ct : Value) (us : List Value) (hl : us.length = 1) : bindArgs (W.fnOf "told" "Put.told" (xj uh) (xg uh) (xb uh) .none kV doc pm an cdv ct) ⟨us, []⟩ = pure ((["self"] : List Str).zip us) := match us, hl with | [_], _ => rfl
theorem xmd (kV doc pm : Value) (an : Option Addr) (cdv ct : Value) (us : List Value) (hl : us.length = 1) : bindArgs (W.fnOf "row_of" "row_of" (xj uY) (xg uY) (xb uY) .none kV doc pm an cdv ct) ⟨us, []⟩ = pure ((["told"] : List Str).zip us) := match us, hl with | [_], _ => rfl
theorem xh4 (kV doc pm : Value) (an : Option Addr) (cdv ct : Value) (us : List Value) (hl : us.length = 1) : bindArgs (W.fnOf "tells_take" "tells_take" (xj yP) (xg yP) (xb yP) .none kV doc pm an cdv ct) ⟨us, []⟩ = pure ((["told"] : List Str).zip us) := match us, hl with | [_], _ => rfl
theorem xi1 (kV doc pm : Value) (an : Option Addr) (cdv ct : Value) (us : List Value) (hl : us.length = 1) : bindArgs (W.fnOf "tells_put" "tells_put" (xj zc) (xg zc) (xb zc) .none kV doc pm an cdv ct) ⟨us, []⟩ = pure ((["told"] : List Str).zip us) := match us, hl with | [_], _ => rfl
theorem xi2 (kV doc pm : Value) (an : Option Addr) (cdv ct : Value) (us : List Value) (hl : us.length = 1) : bindArgs (W.fnOf "are_signs" "are_signs" (xj zd) (xg zd) (xb zd) .none kV doc pm an cdv ct) ⟨us, []⟩ = pure ((["signs"] : List Str).zip us) := match us, hl with | [_], _ => rfl
theorem xk6 (kV doc pm : Value) (an : Option Addr) (cdv ct : Value) (us : List Value) (hl : us.length = 1) : bindArgs (W.fnOf "is_sign" "is_sign" (xj ui) (xg ui) (xb ui) .none kV doc pm an cdv ct) ⟨us, []⟩ = pure ((["value"] : List Str).zip us) := match us, hl with | [_], _ => rfl
theorem xf2 (kV doc pm : Value) (an : Option Addr) (cdv ct : Value) (us : List Value) (hl : us.length = 2) : bindArgs (W.fnOf "is_whole_from" "is_whole_from" (xj yg) (xg yg) (xb yg) .none kV doc pm an cdv ct) ⟨us, []⟩ = pure ((["least", "value"] : List Str).zip us) := match us, hl with | [_, _], _ => rfl
theorem xjv (kV doc pm : Value) (an : Option Addr) (cdv ct : Value) (us : List Value) (hl : us.length = 1) : bindArgs (W.fnOf "is_whole" "is_whole" (xj zK) (xg zK) (xb zK) .none kV doc pm an cdv ct) ⟨us, []⟩ = pure ((["value"] : List Str).zip us) := match us, hl with | [_], _ => rfl
theorem xi3 (kV doc pm : Value) (an : Option Addr) (cdv ct : Value) (us : List Value) (hl : us.length = 1) : bindArgs (W.fnOf "pieces_of" "pieces_of" (xj ze) (xg ze) (xb ze) .none kV doc pm an cdv ct) ⟨us, []⟩ = pure ((["paper"] : List Str).zip us) := match us, hl with | [_], _ => rfl
theorem xni (kV doc pm : Value) (an : Option Addr) (cdv ct : Value) (us : List Value) (hl : us.length = 2) : bindArgs (W.fnOf "go_on" "go_on" (xj jq) (xg jq) (xb jq) .none kV doc pm an cdv ct) ⟨us, []⟩ = pure ((["store", "paper"] : List Str).zip us) := match us, hl with | [_, _], _ => rfl
theorem xfp (kV doc pm : Value) (an : Option Addr) (cdv ct : Value) (us : List Value) (hl : us.length = 2) : bindArgs (W.fnOf "refuse_lengths" "refuse_lengths" (xj xZ) (xg xZ) (xb xZ) .none kV doc pm an cdv ct) ⟨us, []⟩ = pure ((["size", "paper"] : List Str).zip us) := match us, hl with | [_, _], _ => rfl
theorem xf3 (kV doc pm : Value) (an : Option Addr) (cdv ct : Value) (us : List Value) (hl : us.length = 2) : bindArgs (W.fnOf "refuse_beyond" "refuse_beyond" (xj yh) (xg yh) (xb yh) .none kV doc pm an cdv ct) ⟨us, []⟩ = pure ((["size", "pieces"] : List Str).zip us) := match us, hl with | [_, _], _ => rfl
theorem xf4 (kV doc pm : Value) (an : Option Addr) (cdv ct : Value) (us : List Value) (hl : us.length = 2) : bindArgs (W.fnOf "places_needed" "places_needed" (xj yi) (xg yi) (xb yi) .none kV doc pm an cdv ct) ⟨us, []⟩ = pure ((["row", "cells"] : List Str).zip us) := match us, hl with | [_, _], _ => rfl
theorem xjw (kV doc pm : Value) (an : Option Addr) (cdv ct : Value) (us : List Value) (hl : us.length = 3) : bindArgs (W.fnOf "do_piece" "do_piece" (xj zf) (xg zf) (xb zf) .none kV doc pm an cdv ct) ⟨us, []⟩ = pure ((["store", "row", "cells"] : List Str).zip us) := match us, hl with | [_, _, _], _ => rfl
theorem xnj (kV doc pm : Value) (an : Option Addr) (cdv ct : Value) (us : List Value) (hl : us.length = 1) : bindArgs (W.fnOf "judge" "judge" (xj jr) (xg jr) (xb jr) .none kV doc pm an cdv ct) ⟨us, []⟩ = pure ((["paper"] : List Str).zip us) := match us, hl with | [_], _ => rfl
theorem xgQ (kV doc pm : Value) (an : Option Addr) (cdv ct : Value) (us : List Value) (hl : us.length = 1) : bindArgs (W.fnOf "fits_in_size" "fits_in_size" (xj yq) (xg yq) (xb yq) .none kV doc pm an cdv ct) ⟨us, []⟩ = pure ((["paper"] : List Str).zip us) := match us, hl with | [_], _ => rfl
theorem xi4 (kV doc pm : Value) (an : Option Addr) (cdv ct : Value) (us : List Value) (hl : us.length = 1) : bindArgs (W.fnOf "is_length" "is_length" (xj zg) (xg zg) (xb zg) .none kV doc pm an cdv ct) ⟨us, []⟩ = pure ((["value"] : List Str).zip us) := match us, hl with | [_], _ => rfl
theorem xeL (kV doc pm : Value) (an : Option Addr) (cdv ct : Value) (us : List Value) (hl : us.length = 1) : bindArgs (W.fnOf "first_wrong_row" "first_wrong_row" (xj xW) (xg xW) (xb xW) .none kV doc pm an cdv ct) ⟨us, []⟩ = pure ((["paper"] : List Str).zip us) := match us, hl with | [_], _ => rfl
theorem xfq (kV doc pm : Value) (an : Option Addr) (cdv ct : Value) (us : List Value) (hl : us.length = 3) : bindArgs (W.fnOf "is_fitting_row" "is_fitting_row" (xj ya) (xg ya) (xb ya) .none kV doc pm an cdv ct) ⟨us, []⟩ = pure ((["told", "old", "new"] : List Str).zip us) := match us, hl with | [_, _, _], _ => rfl
theorem xf5 (kV doc pm : Value) (an : Option Addr) (cdv ct : Value) (us : List Value) (hl : us.length = 1) : bindArgs (W.fnOf "covered_twice" "covered_twice" (xj yj) (xg yj) (xb yj) .none kV doc pm an cdv ct) ⟨us, []⟩ = pure ((["rows"] : List Str).zip us) := match us, hl with | [_], _ => rfl
theorem xk7 (kV doc pm : Value) (an : Option Addr) (cdv ct : Value) (us : List Value) (hl : us.length = 2) : bindArgs (W.fnOf "lacking" "lacking" (xj uj) (xg uj) (xb uj) .none kV doc pm an cdv ct) ⟨us, []⟩ = pure ((["rows", "new"] : List Str).zip us) := match us, hl with | [_, _], _ => rfl
theorem xi5 (kV doc pm : Value) (an : Option Addr) (cdv ct : Value) (us : List Value) (hl : us.length = 1) : bindArgs (W.fnOf "read_late" "read_late" (xj zh) (xg zh) (xb zh) .none kV doc pm an cdv ct) ⟨us, []⟩ = pure ((["rows"] : List Str).zip us) := match us, hl with | [_], _ => rfl
theorem xjx (kV doc pm : Value) (an : Option Addr) (cdv ct : Value) (us : List Value) (hl : us.length = 2) : bindArgs (W.fnOf "__init__" "Pen.__init__" (xj zL) (xg zL) (xb zL) .none kV doc pm an cdv ct) ⟨us, []⟩ = pure ((["self", "fall"] : List Str).zip us) := match us, hl with | [_, _], _ => rfl
theorem xfr (kV doc pm : Value) (an : Option Addr) (cdv ct : Value) (us : List Value) (hl : us.length = 5) : bindArgs (W.fnOf "write_into" "Pen.write_into" (xj yb) (xg yb) (xb yb) .none kV doc pm an cdv ct) ⟨us, []⟩ = pure ((["self", "kept", "at", "value", "torn"] : List Str).zip us) := match us, hl with | [_, _, _, _, _], _ => rfl
theorem xdo (kV doc pm : Value) (an : Option Addr) (cdv ct : Value) (us : List Value) (hl : us.length = 2) : bindArgs (W.fnOf "answer_of_fall" "Pen.answer_of_fall" (xj xO) (xg xO) (xb xO) .none kV doc pm an cdv ct) ⟨us, []⟩ = pure ((["self", "count"] : List Str).zip us) := match us, hl with | [_, _], _ => rfl
theorem xh5 (kV doc pm : Value) (an : Option Addr) (cdv ct : Value) (us : List Value) (hl : us.length = 2) : bindArgs (W.fnOf "read" "Store.read" (xj yQ) (xg yQ) (xb yQ) .none kV doc pm an cdv ct) ⟨us, []⟩ = pure ((["self", "at"] : List Str).zip us) := match us, hl with | [_, _], _ => rfl
theorem xhi (kV doc pm : Value) (an : Option Addr) (cdv ct : Value) (us : List Value) (hl : us.length = 3) : bindArgs (W.fnOf "write" "Store.write" (xj yl) (xg yl) (xb yl) .none kV doc pm an cdv ct) ⟨us, []⟩ = pure ((["self", "at", "sign"] : List Str).zip us) := match us, hl with | [_, _, _], _ => rfl
theorem xh6 (kV doc pm : Value) (an : Option Addr) (cdv ct : Value) (us : List Value) (hl : us.length = 2) : bindArgs (W.fnOf "mark" "Store.mark" (xj yR) (xg yR) (xb yR) .none kV doc pm an cdv ct) ⟨us, []⟩ = pure ((["self", "number"] : List Str).zip us) := match us, hl with | [_, _], _ => rfl
theorem xhj (kV doc pm : Value) (an : Option Addr) (cdv ct : Value) (us : List Value) (hl : us.length = 1) : bindArgs (W.fnOf "noted" "Store.noted" (xj yD) (xg yD) (xb yD) .none kV doc pm an cdv ct) ⟨us, []⟩ = pure ((["self"] : List Str).zip us) := match us, hl with | [_], _ => rfl
theorem xh7 (kV doc pm : Value) (an : Option Addr) (cdv ct : Value) (us : List Value) (hl : us.length = 1) : bindArgs (W.fnOf "told" "Store.told" (xj yS) (xg yS) (xb yS) .none kV doc pm an cdv ct) ⟨us, []⟩ = pure ((["self"] : List Str).zip us) := match us, hl with | [_], _ => rfl
theorem xct (kV doc pm : Value) (an : Option Addr) (cdv ct : Value) (us : List Value) (hl : us.length = 2) : bindArgs (W.fnOf "refuse_lacking" "Store.refuse_lacking" (xj xK) (xg xK) (xb xK) .none kV doc pm an cdv ct) ⟨us, []⟩ = pure ((["self", "at"] : List Str).zip us) := match us, hl with | [_, _], _ => rfl
theorem xeM (kV doc pm : Value) (an : Option Addr) (cdv ct : Value) (us : List Value) (hl : us.length = 3) : bindArgs (W.fnOf "note_down" "Store.note_down" (xj xP) (xg xP) (xb xP) .none kV doc pm an cdv ct) ⟨us, []⟩ = pure ((["self", "at", "number"] : List Str).zip us) := match us, hl with | [_, _, _], _ => rfl
theorem xk8 (kV doc pm : Value) (an : Option Addr) (cdv ct : Value) (us : List Value) (hl : us.length = 2) : bindArgs (W.fnOf "_law_cell_at" "_law_cell_at" (xj uk) (xg uk) (xb uk) .none kV doc pm an cdv ct) ⟨us, []⟩ = pure ((["_law_script", "_law_k"] : List Str).zip us) := match us, hl with | [_, _], _ => rfl
theorem xnk (kV doc pm : Value) (an : Option Addr) (cdv ct : Value) (us : List Value) (hl : us.length = 2) : bindArgs (W.fnOf "_law_mixed" "_law_mixed" (xj jt) (xg jt) (xb jt) .none kV doc pm an cdv ct) ⟨us, []⟩ = pure ((["_law_cell", "_law_k"] : List Str).zip us) := match us, hl with | [_, _], _ => rfl
theorem xou (kV doc pm : Value) (an : Option Addr) (cdv ct : Value) (us : List Value) (hl : us.length = 2) : bindArgs (W.fnOf "_law_cuts" "_law_cuts" (xj xaw) (xg xaw) (xb xaw) .none kV doc pm an cdv ct) ⟨us, []⟩ = pure ((["_law_size", "_law_cell"] : List Str).zip us) := match us, hl with | [_, _], _ => rfl
theorem xnl (kV doc pm : Value) (an : Option Addr) (cdv ct : Value) (us : List Value) (hl : us.length = 3) : bindArgs (W.fnOf "_law_tiles" "_law_tiles" (xj ju) (xg ju) (xb ju) .none kV doc pm an cdv ct) ⟨us, []⟩ = pure ((["_law_old", "_law_new", "_law_cell"] : List Str).zip us) := match us, hl with | [_, _, _], _ => rfl
theorem xk9 (kV doc pm : Value) (an : Option Addr) (cdv ct : Value) (us : List Value) (hl : us.length = 2) : bindArgs (W.fnOf "_law_ordered" "_law_ordered" (xj um) (xg um) (xb um) .none kV doc pm an cdv ct) ⟨us, []⟩ = pure ((["_law_rows", "_law_cell"] : List Str).zip us) := match us, hl with | [_, _], _ => rfl
theorem xnm (kV doc pm : Value) (an : Option Addr) (cdv ct : Value) (us : List Value) (hl : us.length = 1) : bindArgs (W.fnOf "_law_paper" "_law_paper" (xj jv) (xg jv) (xb jv) .none kV doc pm an cdv ct) ⟨us, []⟩ = pure ((["_law_script"] : List Str).zip us) := match us, hl with | [_], _ => rfl
theorem xnn (kV doc pm : Value) (an : Option Addr) (cdv ct : Value) (us : List Value) (hl : us.length = 2) : bindArgs (W.fnOf "_law_meant" "_law_meant" (xj jw) (xg jw) (xb jw) .none kV doc pm an cdv ct) ⟨us, []⟩ = pure ((["_law_paper_here", "_law_elder_here"] : List Str).zip us) := match us, hl with | [_, _], _ => rfl
theorem xno (kV doc pm : Value) (an : Option Addr) (cdv ct : Value) (us : List Value) (hl : us.length = 2) : bindArgs (W.fnOf "_law_elder" "_law_elder" (xj jx) (xg jx) (xb jx) .none kV doc pm an cdv ct) ⟨us, []⟩ = pure ((["_law_cell", "_law_size"] : List Str).zip us) := match us, hl with | [_, _], _ => rfl
theorem xla (kV doc pm : Value) (an : Option Addr) (cdv ct : Value) (us : List Value) (hl : us.length = 5) : bindArgs (W.fnOf "_law_fall_at" "_law_fall_at" (xj uo) (xg uo) (xb uo) .none kV doc pm an cdv ct) ⟨us, []⟩ = pure ((["_law_script", "_law_due", "_law_elder_here", "_law_falls", "_law_count"] : List Str).zip us) := match us, hl with | [_, _, _, _, _], _ => rfl
theorem xov (kV doc pm : Value) (an : Option Addr) (cdv ct : Value) (us : List Value) (hl : us.length = 2) : bindArgs (W.fnOf "_law_ends" "_law_ends" (xj xax) (xg xax) (xb xax) .none kV doc pm an cdv ct) ⟨us, []⟩ = pure ((["_law_store", "_law_paper_here"] : List Str).zip us) := match us, hl with | [_, _], _ => rfl
theorem xpq (kV doc pm : Value) (an : Option Addr) (cdv ct : Value) (us : List Value) (hl : us.length = 1) : bindArgs (W.fnOf "law" "law" (xj xa6) (xg xa6) (xb xa6) .none kV doc pm an cdv ct) ⟨us, []⟩ = pure ((["_law_script"] : List Str).zip us) := match us, hl with | [_], _ => rfl
theorem xpr {l : W.OpenLaw} {w : World} {K : W.Frag} {h : Heap} {mg : Str → Option Value} {fa : Addr} {q0A q0Y q0m q0h q0W q0B q0C q0u q0v q0i q0n q1s q0Z q0R q0D q0E q0o q1D q1E q00 q05 q06 q1m q0L q1f q07 q1Q q0y q0M q0N q1g q1R q0T q08 q0r q0z q0O q1n q09 q01 q0l q0f q0P q0F q0w q0G q0x q0H q0e q0j q1o q1S q2r q1T q1p q1U q1V q1W q1q q2s q34 q1a q0a q0c q0q q0b q0d q1X : Addr} {q5Z : Tok} {q5S : Addr} {q6Y : Option Addr} {q7C : Nat} {q6Z : Array (Option Value)} {q60 : Value} {od0 an0 od1 an1 od2 an2 od3 an3 od4 an4 od5 an5 od6 an6 od7 an7 od8 an8 od9 an9 q8U q8V q8W q8X q8Y q8Z q80 q81 q82 q83 q84 q85 q86 q87 q88 q89 q9a q9b q9c q9d q9e q9f q9g q9h q9i q9j q9k q9l q9m q9n q9o q9p q9q q9r q9s q9t q9u q9v q9w q9x q9y q9z q9A q9B q9C q9D q9E q9F q9G q9H q9I q9J q9K q9L q9M q9N q9O q9P q9Q q9R q9S q9T q9U q9V q9W q9X q9Y q9Z q90 q91 q92 q93 q94 q95 q96 q97 q98 q99 x0a x0b x0c x0d x0e x0f x0g x0h x0i x0j x0k x0l x0m x0n x0o x0p x0q x0r x0s x0t x0u x0v x0w x0x : Option Addr} {sl0 sl1 sl2 sl3 sl4 sl5 sl6 sl7 sl8 sl9 x0y x0z x0A x0B x0C x0D x0E x0F x0G x0H x0I x0J x0K x0L x0M x0N x0O x0P x0Q x0R x0S x0T x0U x0V x0W x0X x0Y x0Z x00 x01 x02 x03 x04 x05 x06 x07 x08 x09 x1a x1b x1c x1d x1e x1f x1g x1h x1i x1j x1k x1l x1m : Array (Option Value)} {oc0 kV0 dc0 pm0 cd0 ct0 oc1 kV1 dc1 pm1 cd1 ct1 oc2 kV2 dc2 pm2 cd2 ct2 oc3 kV3 dc3 pm3 cd3 ct3 oc4 kV4 dc4 pm4 cd4 ct4 oc5 kV5 dc5 pm5 cd5 ct5 oc6 kV6 dc6 pm6 cd6 ct6 oc7 kV7 dc7 pm7 cd7 ct7 oc8 kV8 dc8 pm8 cd8 ct8 oc9 kV9 dc9 pm9 cd9 ct9 x1n x1o x1p x1q q79 x1r x1s x1t x1u x1v q8a x1w x1x x1y x1z x1A q8b x1B x1C x1D x1E x1F q8c x1G x1H x1I x1J x1K q8d x1L x1M x1N x1O x1P q8e x1Q x1R x1S x1T x1U q8f x1V x1W x1X x1Y x1Z q8g x11 x12 x13 x14 x15 q8h x16 x17 x18 x19 x2a q8i x2b x2c x2d x2e x2f q8j x2g x2h x2i x2j x2k q8k x2l x2m x2n x2o x2p q8l x2q x2r x2s x2t x2u q8m x2v x2w x2x x2y x2z q8n x2A x2B x2C x2D x2E q8o x2F x2G x2H x2I x2J q8p x2K x2L x2M x2N x2O q8q x2P x2Q x2R x2S x2T q8r x2U x2V x2W x2X x2Y q8s x2Z x20 x21 x22 x23 x24 x25 x26 x27 x28 q8t x29 x3a x3b x3c x3d q8u x3e x3f x3g x3h x3i q8v x3j x3k x3l x3m x3n q8w x3o x3p x3q x3r x3s q8x x3t x3u x3v x3w x3x q8y x3y x3z x3A x3B x3C q8z x3D x3E x3F x3G x3H q8A x3I x3J x3K x3L x3M q8B x3N x3O x3P x3Q x3R q8C x3S x3T x3U x3V x3W q8D x3X x3Y x3Z x30 x31 q8E x32 x33 x34 x35 x36 q8F x37 x38 x39 x4a x4b x4c x4d x4e x4f x4g q8G x4h x4i x4j x4k x4l q8H x4m x4n x4o x4p x4q q8I x4r x4s x4t x4u x4v q8J x4w x4x x4y x4z x4A x4B x4C x4D x4E x4F q8K x4G x4H x4I x4J x4K q8L x4L x4M x4N x4O x4P q8M x4Q x4R x4S x4T x4U q8N x4V x4W x4X x4Y x4Z q8O x40 x41 x42 x43 x44 q8P x45 x46 x47 x48 x49 q8Q x5a x5b x5c x5d x5e q8R x5f x5g x5h x5i x5j q8S x5k x5l x5m x5n x5o q8T x5p x5q x5r x5s x5t x5u : Value} (X : K.In h) (G : h.Ns mainGlobals mg) (hfa : mg "law" = some (.ref fa))
  (q7D : W.nsIn K mainGlobals "Row" = some (some (.ref q1a)))
  (q61 : W.nsIn K mainGlobals "Take" = some (some (.ref q0a)))
  (q7E : W.nsIn K mainGlobals "Put" = some (some (.ref q0c)))
  (q7F : W.nsIn K mainGlobals "Pen" = some (some (.ref q0q)))
  (q6D : W.nsIn K mainGlobals "Store" = some (some (.ref q0b)))
  (q50 : W.nsIn K mainGlobals "Fallen" = some (some (.ref q0d)))
  (q6E : W.nsIn K mainGlobals "NoRow" = some (some (.ref q1X)))
  (q5m : L2.xkD K q0d q0A = true)
  (q5n : W.isFn K (.ref q0A) = true)
  (q35 : W.hasDictIn K q0d = true)
  (q5o : (W.clsIn K q0d).any (fun cd => L2.xcy cd.mro == L2.xis) = true)
  (q5p : W.mroIn K q0d (.type "object") = some true)
  (q5q : W.findIn K (.ref q0d) "__setattr__" = some (some (.builtin "object.__setattr__")))
  (q1e : W.findIn K (.ref q0d) "count" = some none)
  (q04 : W.kitCls K (.ref q0d) (.ref q0d) = some true)
  (q1r : W.kitCls K (.ref q0d) (.ref q1X) = some false)
  (q5r : W.findIn K (.ref q0d) "__getattribute__" = some (some (.builtin "BaseException.__getattribute__")))
  (q5s : W.findIn K (.ref q0d) "__getattr__" = some none)
  (q5t : W.findIn K (.ref q0d) "__class__" = some (some (.builtin "object.__class__")))
  (q5u : W.specialIn K (.builtin "object.__class__") "__get__" = some (some (.builtin "getset_descriptor.__get__")))
  (q5v : W.takesIn K (.builtin "object.__class__") = some true)
  (q5w : W.mroIn K q0d (.type "object") = some true)
  (q5x : W.mroIn K q0d (.type "BaseException") = some true)
  (q5y : (W.clsIn K q0d).isSome = true)
  (q2q : W.mroIn K q0d (.type "BaseException") = some true)
  (q37 : W.mroIn K q1X (.type "BaseException") = some true)
  (q5T : W.findIn K (.ref q0d) "__init__" = some (some (.ref q0A)))
  (q3m : K.lookup q0A = some ⟨oc0, od0, .func (W.fnOf "__init__" "Fallen.__init__" (xj yz) (xg yz) (xb yz) .none kV0 dc0 pm0 an0 cd0 ct0), sl0⟩)
  (q3n : W.codeIn K cd0 "Fallen.__init__" = true)
  (q3o : W.keepIn K (.ref q0A) = true)
  (q6Q : W.findIn K (.ref q1a) "__init__" = some (some (.ref q0Y)))
  (q5z : K.lookup q0Y = some ⟨oc1, od1, .func (W.fnOf "__init__" "Row.__init__" (xj zI) (xg zI) (xb zI) .none kV1 dc1 pm1 an1 cd1 ct1), sl1⟩)
  (q5A : W.codeIn K cd1 "Row.__init__" = true)
  (q5B : W.keepIn K (.ref q0Y) = true)
  (q51 : W.findIn K (.ref q1a) "covers" = some (some (.ref q0m)))
  (q38 : K.lookup q0m = some ⟨oc2, od2, .func (W.fnOf "covers" "Row.covers" (xj yK) (xg yK) (xb yK) .none kV2 dc2 pm2 an2 cd2 ct2), sl2⟩)
  (q39 : W.codeIn K cd2 "Row.covers" = true)
  (q4a : W.keepIn K (.ref q0m) = true)
  (q5U : W.findIn K (.ref q1a) "covered" = some (some (.ref q0h)))
  (q3p : K.lookup q0h = some ⟨oc3, od3, .func (W.fnOf "covered" "Row.covered" (xj yA) (xg yA) (xb yA) .none kV3 dc3 pm3 an3 cd3 ct3), sl3⟩)
  (q3q : W.codeIn K cd3 "Row.covered" = true)
  (q3r : W.keepIn K (.ref q0h) = true)
  (q6A : W.findIn K (.ref q0a) "__init__" = some (some (.ref q0W)))
  (q4I : K.lookup q0W = some ⟨oc4, od4, .func (W.fnOf "__init__" "Take.__init__" (xj za) (xg za) (xb za) .none kV4 dc4 pm4 an4 cd4 ct4), sl4⟩)
  (q4J : W.codeIn K cd4 "Take.__init__" = true)
  (q4K : W.keepIn K (.ref q0W) = true)
  (q52 : W.findIn K (.ref q0a) "stays" = some (some (.ref q0B)))
  (q4b : K.lookup q0B = some ⟨oc5, od5, .func (W.fnOf "stays" "Take.stays" (xj yL) (xg yL) (xb yL) .none kV5 dc5 pm5 an5 cd5 ct5), sl5⟩)
  (q4c : W.codeIn K cd5 "Take.stays" = true)
  (q4d : W.keepIn K (.ref q0B) = true)
  (q53 : W.findIn K (.ref q0a) "reads" = some (some (.ref q0C)))
  (q4e : K.lookup q0C = some ⟨oc6, od6, .func (W.fnOf "reads" "Take.reads" (xj yM) (xg yM) (xb yM) .none kV6 dc6 pm6 an6 cd6 ct6), sl6⟩)
  (q4f : W.codeIn K cd6 "Take.reads" = true)
  (q4g : W.keepIn K (.ref q0C) = true)
  (q5V : W.findIn K (.ref q0a) "writes" = some (some (.ref q0u)))
  (q3s : K.lookup q0u = some ⟨oc7, od7, .func (W.fnOf "writes" "Take.writes" (xj yB) (xg yB) (xb yB) .none kV7 dc7 pm7 an7 cd7 ct7), sl7⟩)
  (q3t : W.codeIn K cd7 "Take.writes" = true)
  (q3u : W.keepIn K (.ref q0u) = true)
  (q5W : W.findIn K (.ref q0a) "pieces" = some (some (.ref q0v)))
  (q3v : K.lookup q0v = some ⟨oc8, od8, .func (W.fnOf "pieces" "Take.pieces" (xj yC) (xg yC) (xb yC) .none kV8 dc8 pm8 an8 cd8 ct8), sl8⟩)
  (q3w : W.codeIn K cd8 "Take.pieces" = true)
  (q3x : W.keepIn K (.ref q0v) = true)
  (q32 : W.findIn K (.ref q0a) "source_for" = some (some (.ref q0i)))
  (q1Y : K.lookup q0i = some ⟨oc9, od9, .func (W.fnOf "source_for" "Take.source_for" (xj xV) (xg xV) (xb xV) .none kV9 dc9 pm9 an9 cd9 ct9), sl9⟩)
  (q1Z : W.codeIn K cd9 "Take.source_for" = true)
  (q10 : W.keepIn K (.ref q0i) = true)
  (q4H : W.findIn K (.ref q0a) "sign_for" = some (some (.ref q0n)))
  (q2t : K.lookup q0n = some ⟨x1n, q8U, .func (W.fnOf "sign_for" "Take.sign_for" (xj yf) (xg yf) (xb yf) .none x1o x1p x1q q8V q79 x1r), x0y⟩)
  (q2u : W.codeIn K q79 "Take.sign_for" = true)
  (q2v : W.keepIn K (.ref q0n) = true)
  (q6B : W.findIn K (.ref q0a) "told" = some (some (.ref q1s)))
  (q4L : K.lookup q1s = some ⟨x1s, q8W, .func (W.fnOf "told" "Take.told" (xj zP) (xg zP) (xb zP) .none x1t x1u x1v q8X q8a x1w), x0z⟩)
  (q4M : W.codeIn K q8a "Take.told" = true)
  (q4N : W.keepIn K (.ref q1s) = true)
  (q6R : W.findIn K (.ref q0c) "__init__" = some (some (.ref q0Z)))
  (q5C : K.lookup q0Z = some ⟨x1x, q8Y, .func (W.fnOf "__init__" "Put.__init__" (xj zJ) (xg zJ) (xb zJ) .none x1y x1z x1A q8Z q8b x1B), x0A⟩)
  (q5D : W.codeIn K q8b "Put.__init__" = true)
  (q5E : W.keepIn K (.ref q0Z) = true)
  (q6C : W.findIn K (.ref q0c) "reads" = some (some (.ref q0R)))
  (q4O : K.lookup q0R = some ⟨x1C, q80, .func (W.fnOf "reads" "Put.reads" (xj zb) (xg zb) (xb zb) .none x1D x1E x1F q81 q8c x1G), x0B⟩)
  (q4P : W.codeIn K q8c "Put.reads" = true)
  (q4Q : W.keepIn K (.ref q0R) = true)
  (q54 : W.findIn K (.ref q0c) "writes" = some (some (.ref q0D)))
  (q4h : K.lookup q0D = some ⟨x1H, q82, .func (W.fnOf "writes" "Put.writes" (xj yN) (xg yN) (xb yN) .none x1I x1J x1K q83 q8d x1L), x0C⟩)
  (q4i : W.codeIn K q8d "Put.writes" = true)
  (q4j : W.keepIn K (.ref q0D) = true)
  (q55 : W.findIn K (.ref q0c) "pieces" = some (some (.ref q0E)))
  (q4k : K.lookup q0E = some ⟨x1M, q84, .func (W.fnOf "pieces" "Put.pieces" (xj yO) (xg yO) (xb yO) .none x1N x1O x1P q85 q8e x1Q), x0D⟩)
  (q4l : W.codeIn K q8e "Put.pieces" = true)
  (q4m : W.keepIn K (.ref q0E) = true)
  (q5j : W.findIn K (.ref q0c) "sign_for" = some (some (.ref q0o)))
  (q2V : K.lookup q0o = some ⟨x1R, q86, .func (W.fnOf "sign_for" "Put.sign_for" (xj yp) (xg yp) (xb yp) .none x1S x1T x1U q87 q8f x1V), x0E⟩)
  (q2W : W.codeIn K q8f "Put.sign_for" = true)
  (q2X : W.keepIn K (.ref q0o) = true)
  (q6S : W.findIn K (.ref q0c) "told" = some (some (.ref q1D)))
  (q5F : K.lookup q1D = some ⟨x1W, q88, .func (W.fnOf "told" "Put.told" (xj uh) (xg uh) (xb uh) .none x1X x1Y x1Z q89 q8g x11), x0F⟩)
  (q5G : W.codeIn K q8g "Put.told" = true)
  (q5H : W.keepIn K (.ref q1D) = true)
  (q6F : W.nsIn K mainGlobals "row_of" = some (some (.ref q1E)))
  (q6G : K.lookup q1E = some ⟨x12, q9a, .func (W.fnOf "row_of" "row_of" (xj uY) (xg uY) (xb uY) .none x13 x14 x15 q9b q8h x16), x0G⟩)
  (q6H : W.codeIn K q8h "row_of" = true)
  (q6I : W.keepIn K (.ref q1E) = true)
  (q4n : W.nsIn K mainGlobals "tells_take" = some (some (.ref q00)))
  (q4o : K.lookup q00 = some ⟨x17, q9c, .func (W.fnOf "tells_take" "tells_take" (xj yP) (xg yP) (xb yP) .none x18 x19 x2a q9d q8i x2b), x0H⟩)
  (q4p : W.codeIn K q8i "tells_take" = true)
  (q4q : W.keepIn K (.ref q00) = true)
  (q4R : W.nsIn K mainGlobals "tells_put" = some (some (.ref q05)))
  (q4S : K.lookup q05 = some ⟨x2c, q9e, .func (W.fnOf "tells_put" "tells_put" (xj zc) (xg zc) (xb zc) .none x2d x2e x2f q9f q8j x2g), x0I⟩)
  (q4T : W.codeIn K q8j "tells_put" = true)
  (q4U : W.keepIn K (.ref q05) = true)
  (q4V : W.nsIn K mainGlobals "are_signs" = some (some (.ref q06)))
  (q4W : K.lookup q06 = some ⟨x2h, q9g, .func (W.fnOf "are_signs" "are_signs" (xj zd) (xg zd) (xb zd) .none x2i x2j x2k q9h q8k x2l), x0J⟩)
  (q4X : W.codeIn K q8k "are_signs" = true)
  (q4Y : W.keepIn K (.ref q06) = true)
  (q56 : W.nsIn K mainGlobals "is_sign" = some (some (.ref q1m)))
  (q57 : K.lookup q1m = some ⟨x2m, q9i, .func (W.fnOf "is_sign" "is_sign" (xj ui) (xg ui) (xb ui) .none x2n x2o x2p q9j q8l x2q), x0K⟩)
  (q58 : W.codeIn K q8l "is_sign" = true)
  (q59 : W.keepIn K (.ref q1m) = true)
  (q2w : W.nsIn K mainGlobals "is_whole_from" = some (some (.ref q0L)))
  (q2x : K.lookup q0L = some ⟨x2r, q9k, .func (W.fnOf "is_whole_from" "is_whole_from" (xj yg) (xg yg) (xb yg) .none x2s x2t x2u q9l q8m x2v), x0L⟩)
  (q2y : W.codeIn K q8m "is_whole_from" = true)
  (q2z : W.keepIn K (.ref q0L) = true)
  (q5I : W.nsIn K mainGlobals "is_whole" = some (some (.ref q1f)))
  (q5J : K.lookup q1f = some ⟨x2w, q9m, .func (W.fnOf "is_whole" "is_whole" (xj zK) (xg zK) (xb zK) .none x2x x2y x2z q9n q8n x2A), x0M⟩)
  (q5K : W.codeIn K q8n "is_whole" = true)
  (q5L : W.keepIn K (.ref q1f) = true)
  (q4Z : W.nsIn K mainGlobals "pieces_of" = some (some (.ref q07)))
  (q40 : K.lookup q07 = some ⟨x2B, q9o, .func (W.fnOf "pieces_of" "pieces_of" (xj ze) (xg ze) (xb ze) .none x2C x2D x2E q9p q8o x2F), x0N⟩)
  (q41 : W.codeIn K q8o "pieces_of" = true)
  (q42 : W.keepIn K (.ref q07) = true)
  (q62 : W.nsIn K mainGlobals "go_on" = some (some (.ref q1Q)))
  (q63 : K.lookup q1Q = some ⟨x2G, q9q, .func (W.fnOf "go_on" "go_on" (xj jq) (xg jq) (xb jq) .none x2H x2I x2J q9r q8p x2K), x0O⟩)
  (q64 : W.codeIn K q8p "go_on" = true)
  (q65 : W.keepIn K (.ref q1Q) = true)
  (q2c : W.nsIn K mainGlobals "refuse_lengths" = some (some (.ref q0y)))
  (q2d : K.lookup q0y = some ⟨x2L, q9s, .func (W.fnOf "refuse_lengths" "refuse_lengths" (xj xZ) (xg xZ) (xb xZ) .none x2M x2N x2O q9t q8q x2P), x0P⟩)
  (q2e : W.codeIn K q8q "refuse_lengths" = true)
  (q2f : W.keepIn K (.ref q0y) = true)
  (q2A : W.nsIn K mainGlobals "refuse_beyond" = some (some (.ref q0M)))
  (q2B : K.lookup q0M = some ⟨x2Q, q9u, .func (W.fnOf "refuse_beyond" "refuse_beyond" (xj yh) (xg yh) (xb yh) .none x2R x2S x2T q9v q8r x2U), x0Q⟩)
  (q2C : W.codeIn K q8r "refuse_beyond" = true)
  (q2D : W.keepIn K (.ref q0M) = true)
  (q2E : W.nsIn K mainGlobals "places_needed" = some (some (.ref q0N)))
  (q2F : K.lookup q0N = some ⟨x2V, q9w, .func (W.fnOf "places_needed" "places_needed" (xj yi) (xg yi) (xb yi) .none x2W x2X x2Y q9x q8s x2Z), x0R⟩)
  (q2G : W.codeIn K q8s "places_needed" = true)
  (q2H : W.keepIn K (.ref q0N) = true)
  (q5M : W.nsIn K mainGlobals "do_piece" = some (some (.ref q1g)))
  (q1t : xbC K q0S uq)
  (q5N : K.lookup q1g = some ⟨x20, q9y, .func (W.fnOf "do_piece" "do_piece" (xj zf) (xg zf) (xb zf) .none x21 x22 x23 q9z (.ref q0S) x24), x0S⟩)
  (q0S : W.codeIn K (.ref q0S) "do_piece" = true)
  (q5O : W.keepIn K (.ref q1g) = true)
  (q66 : W.nsIn K mainGlobals "judge" = some (some (.ref q1R)))
  (q67 : K.lookup q1R = some ⟨x25, q9A, .func (W.fnOf "judge" "judge" (xj jr) (xg jr) (xb jr) .none x26 x27 x28 q9B q8t x29), x0T⟩)
  (q68 : W.codeIn K q8t "judge" = true)
  (q69 : W.keepIn K (.ref q1R) = true)
  (q2Y : W.nsIn K mainGlobals "fits_in_size" = some (some (.ref q0T)))
  (q2Z : K.lookup q0T = some ⟨x3a, q9C, .func (W.fnOf "fits_in_size" "fits_in_size" (xj yq) (xg yq) (xb yq) .none x3b x3c x3d q9D q8u x3e), x0U⟩)
  (q20 : W.codeIn K q8u "fits_in_size" = true)
  (q21 : W.keepIn K (.ref q0T) = true)
  (q43 : W.nsIn K mainGlobals "is_length" = some (some (.ref q08)))
  (q44 : K.lookup q08 = some ⟨x3f, q9E, .func (W.fnOf "is_length" "is_length" (xj zg) (xg zg) (xb zg) .none x3g x3h x3i q9F q8v x3j), x0V⟩)
  (q45 : W.codeIn K q8v "is_length" = true)
  (q46 : W.keepIn K (.ref q08) = true)
  (q11 : W.nsIn K mainGlobals "first_wrong_row" = some (some (.ref q0r)))
  (q12 : K.lookup q0r = some ⟨x3k, q9G, .func (W.fnOf "first_wrong_row" "first_wrong_row" (xj xW) (xg xW) (xb xW) .none x3l x3m x3n q9H q8w x3o), x0W⟩)
  (q13 : W.codeIn K q8w "first_wrong_row" = true)
  (q14 : W.keepIn K (.ref q0r) = true)
  (q2g : W.nsIn K mainGlobals "is_fitting_row" = some (some (.ref q0z)))
  (q2h : K.lookup q0z = some ⟨x3p, q9I, .func (W.fnOf "is_fitting_row" "is_fitting_row" (xj ya) (xg ya) (xb ya) .none x3q x3r x3s q9J q8x x3t), x0X⟩)
  (q2i : W.codeIn K q8x "is_fitting_row" = true)
  (q2j : W.keepIn K (.ref q0z) = true)
  (q2I : W.nsIn K mainGlobals "covered_twice" = some (some (.ref q0O)))
  (q2J : K.lookup q0O = some ⟨x3u, q9K, .func (W.fnOf "covered_twice" "covered_twice" (xj yj) (xg yj) (xb yj) .none x3v x3w x3x q9L q8y x3y), x0Y⟩)
  (q2K : W.codeIn K q8y "covered_twice" = true)
  (q2L : W.keepIn K (.ref q0O) = true)
  (q6a : W.nsIn K mainGlobals "lacking" = some (some (.ref q1n)))
  (q6b : K.lookup q1n = some ⟨x3z, q9M, .func (W.fnOf "lacking" "lacking" (xj uj) (xg uj) (xb uj) .none x3A x3B x3C q9N q8z x3D), x0Z⟩)
  (q6c : W.codeIn K q8z "lacking" = true)
  (q6d : W.keepIn K (.ref q1n) = true)
  (q47 : W.nsIn K mainGlobals "read_late" = some (some (.ref q09)))
  (q48 : K.lookup q09 = some ⟨x3E, q9O, .func (W.fnOf "read_late" "read_late" (xj zh) (xg zh) (xb zh) .none x3F x3G x3H q9P q8A x3I), x00⟩)
  (q49 : W.codeIn K q8A "read_late" = true)
  (q5a : W.keepIn K (.ref q09) = true)
  (q6T : W.findIn K (.ref q0q) "__init__" = some (some (.ref q01)))
  (q5P : K.lookup q01 = some ⟨x3J, q9Q, .func (W.fnOf "__init__" "Pen.__init__" (xj zL) (xg zL) (xb zL) .none x3K x3L x3M q9R q8B x3N), x01⟩)
  (q5Q : W.codeIn K q8B "Pen.__init__" = true)
  (q5R : W.keepIn K (.ref q01) = true)
  (q4r : W.findIn K (.ref q0q) "write_into" = some (some (.ref q0l)))
  (q2k : K.lookup q0l = some ⟨x3O, q9S, .func (W.fnOf "write_into" "Pen.write_into" (xj yb) (xg yb) (xb yb) .none x3P x3Q x3R q9T q8C x3S), x02⟩)
  (q2l : W.codeIn K q8C "Pen.write_into" = true)
  (q2m : W.keepIn K (.ref q0l) = true)
  (q2M : W.findIn K (.ref q0q) "answer_of_fall" = some (some (.ref q0f)))
  (q1F : K.lookup q0f = some ⟨x3T, q9U, .func (W.fnOf "answer_of_fall" "Pen.answer_of_fall" (xj xO) (xg xO) (xb xO) .none x3U x3V x3W q9V q8D x3X), x03⟩)
  (q1G : W.codeIn K q8D "Pen.answer_of_fall" = true)
  (q1H : W.keepIn K (.ref q0f) = true)
  (q6e : W.findIn K (.ref q0b) "__init__" = some (some (.ref q0P)))
  (q4s : K.lookup q0P = some ⟨x3Y, q9W, .func (W.fnOf "__init__" "Store.__init__" (xj uN) (xg uN) (xb uN) (.ref q5S) x3Z x30 x31 q9X q8E x32), x04⟩)
  (q3y : K.lookup q5S = some ⟨q60, q6Y, .seq #[.none] q7C, q6Z⟩)
  (q4t : W.codeIn K q8E "Store.__init__" = true)
  (q4u : W.keepIn K (.ref q0P) = true)
  (q6f : W.findIn K (.ref q0b) "read" = some (some (.ref q0F)))
  (q4v : K.lookup q0F = some ⟨x33, q9Y, .func (W.fnOf "read" "Store.read" (xj yQ) (xg yQ) (xb yQ) .none x34 x35 x36 q9Z q8F x37), x05⟩)
  (q4w : W.codeIn K q8F "Store.read" = true)
  (q4x : W.keepIn K (.ref q0F) = true)
  (q5X : W.findIn K (.ref q0b) "write" = some (some (.ref q0w)))
  (q1h : xbC K q0t zB)
  (q3z : K.lookup q0w = some ⟨x38, q90, .func (W.fnOf "write" "Store.write" (xj yl) (xg yl) (xb yl) .none x39 x4a x4b q91 (.ref q0t) x4c), x06⟩)
  (q0t : W.codeIn K (.ref q0t) "Store.write" = true)
  (q3A : W.keepIn K (.ref q0w) = true)
  (q6g : W.findIn K (.ref q0b) "mark" = some (some (.ref q0G)))
  (q4y : K.lookup q0G = some ⟨x4d, q92, .func (W.fnOf "mark" "Store.mark" (xj yR) (xg yR) (xb yR) .none x4e x4f x4g q93 q8G x4h), x07⟩)
  (q4z : W.codeIn K q8G "Store.mark" = true)
  (q4A : W.keepIn K (.ref q0G) = true)
  (q5Y : W.findIn K (.ref q0b) "noted" = some (some (.ref q0x)))
  (q3B : K.lookup q0x = some ⟨x4i, q94, .func (W.fnOf "noted" "Store.noted" (xj yD) (xg yD) (xb yD) .none x4j x4k x4l q95 q8H x4m), x08⟩)
  (q3C : W.codeIn K q8H "Store.noted" = true)
  (q3D : W.keepIn K (.ref q0x) = true)
  (q6h : W.findIn K (.ref q0b) "told" = some (some (.ref q0H)))
  (q4B : K.lookup q0H = some ⟨x4n, q96, .func (W.fnOf "told" "Store.told" (xj yS) (xg yS) (xb yS) .none x4o x4p x4q q97 q8I x4r), x09⟩)
  (q4C : W.codeIn K q8I "Store.told" = true)
  (q4D : W.keepIn K (.ref q0H) = true)
  (q2a : W.findIn K (.ref q0b) "refuse_lacking" = some (some (.ref q0e)))
  (q1w : K.lookup q0e = some ⟨x4s, q98, .func (W.fnOf "refuse_lacking" "Store.refuse_lacking" (xj xK) (xg xK) (xb xK) .none x4t x4u x4v q99 q8J x4w), x1a⟩)
  (q1x : W.codeIn K q8J "Store.refuse_lacking" = true)
  (q1y : W.keepIn K (.ref q0e) = true)
  (q33 : W.findIn K (.ref q0b) "note_down" = some (some (.ref q0j)))
  (q0X : xbC K q0g yt)
  (q15 : K.lookup q0j = some ⟨x4x, x0a, .func (W.fnOf "note_down" "Store.note_down" (xj xP) (xg xP) (xb xP) .none x4y x4z x4A x0b (.ref q0g) x4B), x1b⟩)
  (q0g : W.codeIn K (.ref q0g) "Store.note_down" = true)
  (q16 : W.keepIn K (.ref q0j) = true)
  (q6i : W.nsIn K mainGlobals "_law_cell_at" = some (some (.ref q1o)))
  (q6j : K.lookup q1o = some ⟨x4C, x0c, .func (W.fnOf "_law_cell_at" "_law_cell_at" (xj uk) (xg uk) (xb uk) .none x4D x4E x4F x0d q8K x4G), x1c⟩)
  (q6k : W.codeIn K q8K "_law_cell_at" = true)
  (q6l : W.keepIn K (.ref q1o) = true)
  (q7a : W.nsIn K mainGlobals "_law_mixed" = some (some (.ref q1S)))
  (q7b : K.lookup q1S = some ⟨x4H, x0e, .func (W.fnOf "_law_mixed" "_law_mixed" (xj jt) (xg jt) (xb jt) .none x4I x4J x4K x0f q8L x4L), x1d⟩)
  (q7c : W.codeIn K q8L "_law_mixed" = true)
  (q7d : W.keepIn K (.ref q1S) = true)
  (q7G : W.nsIn K mainGlobals "_law_cuts" = some (some (.ref q2r)))
  (q7H : K.lookup q2r = some ⟨x4M, x0g, .func (W.fnOf "_law_cuts" "_law_cuts" (xj xaw) (xg xaw) (xb xaw) .none x4N x4O x4P x0h q8M x4Q), x1e⟩)
  (q7I : W.codeIn K q8M "_law_cuts" = true)
  (q7J : W.keepIn K (.ref q2r) = true)
  (q7e : W.nsIn K mainGlobals "_law_tiles" = some (some (.ref q1T)))
  (q7f : K.lookup q1T = some ⟨x4R, x0i, .func (W.fnOf "_law_tiles" "_law_tiles" (xj ju) (xg ju) (xb ju) .none x4S x4T x4U x0j q8N x4V), x1f⟩)
  (q7g : W.codeIn K q8N "_law_tiles" = true)
  (q7h : W.keepIn K (.ref q1T) = true)
  (q6m : W.nsIn K mainGlobals "_law_ordered" = some (some (.ref q1p)))
  (q6n : K.lookup q1p = some ⟨x4W, x0k, .func (W.fnOf "_law_ordered" "_law_ordered" (xj um) (xg um) (xb um) .none x4X x4Y x4Z x0l q8O x40), x1g⟩)
  (q6o : W.codeIn K q8O "_law_ordered" = true)
  (q6p : W.keepIn K (.ref q1p) = true)
  (q7i : W.nsIn K mainGlobals "_law_paper" = some (some (.ref q1U)))
  (q7j : K.lookup q1U = some ⟨x41, x0m, .func (W.fnOf "_law_paper" "_law_paper" (xj jv) (xg jv) (xb jv) .none x42 x43 x44 x0n q8P x45), x1h⟩)
  (q7k : W.codeIn K q8P "_law_paper" = true)
  (q7l : W.keepIn K (.ref q1U) = true)
  (q7m : W.nsIn K mainGlobals "_law_meant" = some (some (.ref q1V)))
  (q7n : K.lookup q1V = some ⟨x46, x0o, .func (W.fnOf "_law_meant" "_law_meant" (xj jw) (xg jw) (xb jw) .none x47 x48 x49 x0p q8Q x5a), x1i⟩)
  (q7o : W.codeIn K q8Q "_law_meant" = true)
  (q7p : W.keepIn K (.ref q1V) = true)
  (q7q : W.nsIn K mainGlobals "_law_elder" = some (some (.ref q1W)))
  (q7r : K.lookup q1W = some ⟨x5b, x0q, .func (W.fnOf "_law_elder" "_law_elder" (xj jx) (xg jx) (xb jx) .none x5c x5d x5e x0r q8R x5f), x1j⟩)
  (q7s : W.codeIn K q8R "_law_elder" = true)
  (q7t : W.keepIn K (.ref q1W) = true)
  (q6q : W.nsIn K mainGlobals "_law_fall_at" = some (some (.ref q1q)))
  (q6r : K.lookup q1q = some ⟨x5g, x0s, .func (W.fnOf "_law_fall_at" "_law_fall_at" (xj uo) (xg uo) (xb uo) .none x5h x5i x5j x0t q8S x5k), x1k⟩)
  (q6s : W.codeIn K q8S "_law_fall_at" = true)
  (q6t : W.keepIn K (.ref q1q) = true)
  (q7K : W.nsIn K mainGlobals "_law_ends" = some (some (.ref q2s)))
  (q7L : K.lookup q2s = some ⟨x5l, x0u, .func (W.fnOf "_law_ends" "_law_ends" (xj xax) (xg xax) (xb xax) .none x5m x5n x5o x0v q8T x5p), x1l⟩)
  (q7M : W.codeIn K q8T "_law_ends" = true)
  (q7N : W.keepIn K (.ref q2s) = true)
  (q76 : W.nsIn K mainGlobals "law" = some (some (.ref q34)))
  (q5f : xbC K q2b xe4)
  (q77 : K.lookup q34 = some ⟨x5q, x0w, .func (W.fnOf "law" "law" (xj xa6) (xg xa6) (xb xa6) .none x5r x5s x5t x0x (.ref q2b) x5u), x1m⟩)
  (q2b : W.codeIn K (.ref q2b) "law" = true)
  (q78 : W.keepIn K (.ref q34) = true)
  (q7O : W.plainGet K q1a Str.empty = true)
  (q7P : W.hasDictIn K q1a = true)
  (q7Q : W.plainOver K q1a = true)
  (q7R : W.findIn K (.ref q1a) "__setattr__" = some (some (.builtin "object.__setattr__")))
  (q1J : W.findIn K (.ref q1a) "count" = some none)
  (q3l : W.findIn K (.ref q1a) "to" = some none)
  (q6w : W.plainGet K q0a Str.empty = true)
  (q6x : W.hasDictIn K q0a = true)
  (q6y : W.plainOver K q0a = true)
  (q6z : W.findIn K (.ref q0a) "__setattr__" = some (some (.builtin "object.__setattr__")))
  (q0p : W.findIn K (.ref q0a) "count" = some none)
  (q0k : W.findIn K (.ref q0a) "source" = some none)
  (q0s : W.findIn K (.ref q0a) "to" = some none)
  (q36 : W.makesIn K q0a = true)
  (q7u : W.findIn K (.ref q0a) "__init__" = some (some (.ref q0W)))
  (q7v : W.isFn K (.ref q0W) = true)
  (q7w : W.keepIn K (.ref q0a) = true)
  (q6U : W.plainGet K q0c Str.empty = true)
  (q6V : W.hasDictIn K q0c = true)
  (q6W : W.plainOver K q0c = true)
  (q6X : W.findIn K (.ref q0c) "__setattr__" = some (some (.builtin "object.__setattr__")))
  (q0Q : W.findIn K (.ref q0c) "count" = some none)
  (q1c : W.findIn K (.ref q0c) "signs" = some none)
  (q1d : W.findIn K (.ref q0c) "to" = some none)
  (q5g : W.makesIn K q0c = true)
  (q7S : W.findIn K (.ref q0c) "__init__" = some (some (.ref q0Z)))
  (q7T : W.isFn K (.ref q0Z) = true)
  (q7U : W.keepIn K (.ref q0c) = true)
  (q7V : W.plainGet K q0q Str.empty = true)
  (q7W : W.hasDictIn K q0q = true)
  (q7X : W.plainOver K q0q = true)
  (q7Y : W.findIn K (.ref q0q) "__setattr__" = some (some (.builtin "object.__setattr__")))
  (q02 : W.findIn K (.ref q0q) "asked" = some none)
  (q1u : W.findIn K (.ref q0q) "fall" = some none)
  (q5h : W.makesIn K q0q = true)
  (q7Z : W.findIn K (.ref q0q) "__init__" = some (some (.ref q01)))
  (q70 : W.isFn K (.ref q01) = true)
  (q71 : W.keepIn K (.ref q0q) = true)
  (q6J : W.plainGet K q0b Str.empty = true)
  (q6K : W.hasDictIn K q0b = true)
  (q6L : W.plainOver K q0b = true)
  (q6M : W.findIn K (.ref q0b) "__setattr__" = some (some (.builtin "object.__setattr__")))
  (q0J : W.findIn K (.ref q0b) "cells" = some none)
  (q0U : W.findIn K (.ref q0b) "notes" = some none)
  (q03 : W.findIn K (.ref q0b) "pen" = some none)
  (q2T : W.makesIn K q0b = true)
  (q6N : W.findIn K (.ref q0b) "__init__" = some (some (.ref q0P)))
  (q6O : W.isFn K (.ref q0P) = true)
  (q6P : W.keepIn K (.ref q0b) = true)
  (q1A : W.findIn K (.ref q0q) "answer_of_fall" = some (some (.ref q0f)))
  (q1B : W.isFn K (.ref q0f) = true)
  (q1C : W.keepIn K (.ref q0f) = true)
  (q17 : W.findIn K (.ref q0q) "write_into" = some (some (.ref q0l)))
  (q18 : W.isFn K (.ref q0l) = true)
  (q19 : W.keepIn K (.ref q0l) = true)
  (q22 : W.findIn K (.ref q0c) "covered" = some (some (.ref q0h)))
  (q23 : W.isFn K (.ref q0h) = true)
  (q24 : W.keepIn K (.ref q0h) = true)
  (q3E : W.findIn K (.ref q0c) "covers" = some (some (.ref q0m)))
  (q3F : W.isFn K (.ref q0m) = true)
  (q3G : W.keepIn K (.ref q0m) = true)
  (q3H : W.findIn K (.ref q0c) "pieces" = some (some (.ref q0E)))
  (q3I : W.isFn K (.ref q0E) = true)
  (q3J : W.keepIn K (.ref q0E) = true)
  (q4E : W.findIn K (.ref q0c) "reads" = some (some (.ref q0R)))
  (q4F : W.isFn K (.ref q0R) = true)
  (q4G : W.keepIn K (.ref q0R) = true)
  (q2N : W.findIn K (.ref q0c) "sign_for" = some (some (.ref q0o)))
  (q2O : W.isFn K (.ref q0o) = true)
  (q2P : W.keepIn K (.ref q0o) = true)
  (q3K : W.findIn K (.ref q0c) "writes" = some (some (.ref q0D)))
  (q3L : W.isFn K (.ref q0D) = true)
  (q3M : W.keepIn K (.ref q0D) = true)
  (q3N : W.findIn K (.ref q0b) "mark" = some (some (.ref q0G)))
  (q3O : W.isFn K (.ref q0G) = true)
  (q3P : W.keepIn K (.ref q0G) = true)
  (q1K : W.findIn K (.ref q0b) "note_down" = some (some (.ref q0j)))
  (q1L : W.isFn K (.ref q0j) = true)
  (q1M : W.keepIn K (.ref q0j) = true)
  (q25 : W.findIn K (.ref q0b) "noted" = some (some (.ref q0x)))
  (q26 : W.isFn K (.ref q0x) = true)
  (q27 : W.keepIn K (.ref q0x) = true)
  (q3Q : W.findIn K (.ref q0b) "read" = some (some (.ref q0F)))
  (q3R : W.isFn K (.ref q0F) = true)
  (q3S : W.keepIn K (.ref q0F) = true)
  (q1j : W.findIn K (.ref q0b) "refuse_lacking" = some (some (.ref q0e)))
  (q1k : W.isFn K (.ref q0e) = true)
  (q1l : W.keepIn K (.ref q0e) = true)
  (q3T : W.findIn K (.ref q0b) "told" = some (some (.ref q0H)))
  (q3U : W.isFn K (.ref q0H) = true)
  (q3V : W.keepIn K (.ref q0H) = true)
  (q28 : W.findIn K (.ref q0b) "write" = some (some (.ref q0w)))
  (q29 : W.isFn K (.ref q0w) = true)
  (q3a : W.keepIn K (.ref q0w) = true)
  (q2Q : W.findIn K (.ref q0a) "covered" = some (some (.ref q0h)))
  (q2R : W.isFn K (.ref q0h) = true)
  (q2S : W.keepIn K (.ref q0h) = true)
  (q3b : W.findIn K (.ref q0a) "covers" = some (some (.ref q0m)))
  (q3c : W.isFn K (.ref q0m) = true)
  (q3d : W.keepIn K (.ref q0m) = true)
  (q3e : W.findIn K (.ref q0a) "pieces" = some (some (.ref q0v)))
  (q3f : W.isFn K (.ref q0v) = true)
  (q3g : W.keepIn K (.ref q0v) = true)
  (q3W : W.findIn K (.ref q0a) "reads" = some (some (.ref q0C)))
  (q3X : W.isFn K (.ref q0C) = true)
  (q3Y : W.keepIn K (.ref q0C) = true)
  (q2n : W.findIn K (.ref q0a) "sign_for" = some (some (.ref q0n)))
  (q2o : W.isFn K (.ref q0n) = true)
  (q2p : W.keepIn K (.ref q0n) = true)
  (q1N : W.findIn K (.ref q0a) "source_for" = some (some (.ref q0i)))
  (q1O : W.isFn K (.ref q0i) = true)
  (q1P : W.keepIn K (.ref q0i) = true)
  (q3Z : W.findIn K (.ref q0a) "stays" = some (some (.ref q0B)))
  (q30 : W.isFn K (.ref q0B) = true)
  (q31 : W.keepIn K (.ref q0B) = true)
  (q3h : W.findIn K (.ref q0a) "writes" = some (some (.ref q0u)))
  (q3i : W.isFn K (.ref q0u) = true)
  (q3j : W.keepIn K (.ref q0u) = true)
  (q5b : W.specialIn K (.ref q1a) "__getattribute__" = some (some (.builtin "type.__getattribute__")))
  (q5c : W.readsIn K q1a (.type "type") = true)
  (q5d : W.findCls K (.ref q1a) (.type "type") "__init__" = some (.val (.ref q0Y)))
  (q5e : W.keepIn K (.ref q0Y) = true)
  (q72 : W.findIn K (.ref q0c) "__class__" = some (some (.builtin "object.__class__")))
  (q73 : W.specialIn K (.builtin "object.__class__") "__get__" = some (some (.builtin "getset_descriptor.__get__")))
  (q74 : W.takesIn K (.builtin "object.__class__") = some true)
  (q75 : W.mroIn K q0c (.type "object") = some true)
  (q7x : W.findIn K (.ref q0a) "__class__" = some (some (.builtin "object.__class__")))
  (q7y : W.specialIn K (.builtin "object.__class__") "__get__" = some (some (.builtin "getset_descriptor.__get__")))
  (q7z : W.takesIn K (.builtin "object.__class__") = some true)
  (q7A : W.mroIn K q0a (.type "object") = some true)
  (q1v : W.kitOne K (.ref q0c) (.ref q0a) = some false)
  (q1i : W.kitOne K (.ref q0a) (.ref q0a) = some true)
  (q7B : W.nsIn K mainGlobals "MOST" = some (some (.int 300 q5Z)))
  (q6u : W.nsIn K mainGlobals "abs" = some none)
  (q6v : W.nsIn K mainGlobals "all" = some none)
  (q5i : W.nsIn K mainGlobals "bool" = some none)
  (q1b : W.nsIn K mainGlobals "enumerate" = some none)
  (q5k : W.nsIn K mainGlobals "int" = some none)
  (q0I : W.nsIn K mainGlobals "isinstance" = some none)
  (q0V : W.nsIn K mainGlobals "len" = some none)
  (q1I : W.nsIn K mainGlobals "list" = some none)
  (q3k : W.nsIn K mainGlobals "max" = some none)
  (q5l : W.nsIn K mainGlobals "min" = some none)
  (q0K : W.nsIn K mainGlobals "range" = some none)
  (q2U : W.nsIn K mainGlobals "sorted" = some none)
  (q1z : W.nsIn K mainGlobals "tuple" = some none)
  : ∃ fd : FuncData, (∀ (s : Shared) (v : Value), BindsTo s fd ⟨[v], []⟩ [("_law_script", v)]) ∧ ∀ base : Heap, K.In base → base.Ns mainGlobals mg → xA l.prog w K mg base CX0 10 fa fd ["_law_script"] (xiW K) := by
 have e := hfa.symm.trans (W.mg_of X G q76)
 have e2 : q34 = fa := by injection e with e; injection e with e; exact e.symm
 subst e2
 have vj := xw (st := yz) q3m q3n q3o
 have jW := vj.binds (ps := ["self", "count"]) xhe
 have xaI := xw (st := zI) q5z q5A q5B
 have xaJ := xaI.binds (ps := ["self", "to"]) xjs
 have vZ := xw (st := yK) q38 q39 q4a
 have ja := vZ.binds (ps := ["self"]) xhZ
 have vm := xw (st := yA) q3p q3q q3r
 have ym := vm.binds (ps := ["self"]) xhf
 have jL := xw (st := za) q4I q4J q4K
 have xbe := jL.binds (ps := ["self", "to", "start", "count"]) xiY
 have jb := xw (st := yL) q4b q4c q4d
 have uO := jb.binds (ps := ["self"]) xh0
 have jc := xw (st := yM) q4e q4f q4g
 have xaK := jc.binds (ps := ["self"]) xh1
 have vn := xw (st := yB) q3s q3t q3u
 have jX := vn.binds (ps := ["self"]) xhg
 have vo := xw (st := yC) q3v q3w q3x
 have jY := vo.binds (ps := ["self"]) xhh
 have zE := xw (st := xV) q1Y q1Z q10
 have zF := zE.binds (ps := ["self", "cell"]) xeK
 have uu := xw (st := yf) q2t q2u q2v
 have vL := uu.binds (ps := ["self", "cell", "read"]) xf1
 have xbf := xw (st := zP) q4L q4M q4N
 have xcW := xbf.binds (ps := ["self"]) xiZ
 have xaL := xw (st := zJ) q5C q5D q5E
 have xbT := xaL.binds (ps := ["self", "to", "signs"]) xjt
 have jM := xw (st := zb) q4O q4P q4Q
 have xbg := jM.binds (ps := ["self"]) xi0
 have jd := xw (st := yN) q4h q4i q4j
 have xaM := jd.binds (ps := ["self"]) xh2
 have je := xw (st := yO) q4k q4l q4m
 have xaN := je.binds (ps := ["self"]) xh3
 have uP := xw (st := yp) q2V q2W q2X
 have jB := uP.binds (ps := ["self", "cell", "read"]) xgP
 have xbU := xw (st := uh) q5F q5G q5H
 have xdI := xbU.binds (ps := ["self"]) xju
 have zV := xw (st := uY) q6G q6H q6I
 have vc := zV.binds (ps := ["told"]) xmd
 have uQ := xw (st := yP) q4o q4p q4q
 have xaO := uQ.binds (ps := ["told"]) xh4
 have vw := xw (st := zc) q4S q4T q4U
 have xbh := vw.binds (ps := ["told"]) xi1
 have vx := xw (st := zd) q4W q4X q4Y
 have xbi := vx.binds (ps := ["signs"]) xi2
 have xak := xw (st := ui) q57 q58 q59
 have xcE := xak.binds (ps := ["value"]) xk6
 have xY := xw (st := yg) q2x q2y q2z
 have yu := xY.binds (ps := ["least", "value"]) xf2
 have vd := xw (st := zK) q5J q5K q5L
 have xaP := vd.binds (ps := ["value"]) xjv
 have uz := xw (st := ze) q40 q41 q42
 have jN := uz.binds (ps := ["paper"]) xi3
 have xb0 := xw (st := jq) q63 q64 q65
 have xfc := xb0.binds (ps := ["store", "paper"]) xni
 have yW := xw (st := xZ) q2d q2e q2f
 have ve := yW.binds (ps := ["size", "paper"]) xfp
 have zt := xw (st := yh) q2B q2C q2D
 have vM := zt.binds (ps := ["size", "pieces"]) xf3
 have zu := xw (st := yi) q2F q2G q2H
 have vN := zu.binds (ps := ["row", "cells"]) xf4
 have jC := xw (st := zf) q5N q0S q5O
 have xbV := jC.binds (ps := ["store", "row", "cells"]) xjw
 have xb1 := xw (st := jr) q67 q68 q69
 have xfd := xb1.binds (ps := ["paper"]) xnj
 have zR := xw (st := yq) q2Z q20 q21
 have jD := zR.binds (ps := ["paper"]) xgQ
 have uA := xw (st := zg) q44 q45 q46
 have jO := uA.binds (ps := ["value"]) xi4
 have yU := xw (st := xW) q12 q13 q14
 have uE := yU.binds (ps := ["paper"]) xeL
 have yX := xw (st := ya) q2h q2i q2j
 have vf := yX.binds (ps := ["told", "old", "new"]) xfq
 have zv := xw (st := yj) q2J q2K q2L
 have vO := zv.binds (ps := ["rows"]) xf5
 have xal := xw (st := uj) q6b q6c q6d
 have xcI := xal.binds (ps := ["rows", "new"]) xk7
 have vy := xw (st := zh) q48 q49 q5a
 have xbj := vy.binds (ps := ["rows"]) xi5
 have xaQ := xw (st := zL) q5P q5Q q5R
 have xbW := xaQ.binds (ps := ["self", "fall"]) xjx
 have zW := xw (st := yb) q2k q2l q2m
 have zX := zW.binds (ps := ["self", "kept", "at", "value", "torn"]) xfr
 have yT := xw (st := xO) q1F q1G q1H
 have zN := yT.binds (ps := ["self", "count"]) xdo
 have uR := xn2 (st := uN) (ds := [.none]) q4s q4t q4u q3y
 have xaR := uR.binds (ps := ["self", "cells", "fall"]) (es := []) 3 rfl fun _ _ _ _ _ _ _ us hl => match us, hl with | [_, _, _], _ => ⟨_, rfl, rfl⟩
 have xbD := uR.binds (ps := ["self", "cells", "fall"]) (es := [.none]) 2 rfl fun _ _ _ _ _ _ _ us hl => match us, hl with | [_, _], _ => ⟨_, rfl, rfl⟩
 have jf := xw (st := yQ) q4v q4w q4x
 have xaS := jf.binds (ps := ["self", "at"]) xh5
 have vp := xw (st := yl) q3z q0t q3A
 have jZ := vp.binds (ps := ["self", "at", "sign"]) xhi
 have jg := xw (st := yR) q4y q4z q4A
 have xaT := jg.binds (ps := ["self", "number"]) xh6
 have vq := xw (st := yD) q3B q3C q3D
 have vt := vq.binds (ps := ["self"]) xhj
 have jh := xw (st := yS) q4B q4C q4D
 have ji := jh.binds (ps := ["self"]) xh7
 have yw := xw (st := xK) q1w q1x q1y
 have yx := yw.binds (ps := ["self", "at"]) xct
 have zG := xw (st := xP) q15 q0g q16
 have uF := zG.binds (ps := ["self", "at", "number"]) xeM
 have yG := xw (st := uk) q6j q6k q6l
 have zm := yG.binds (ps := ["_law_script", "_law_k"]) xk8
 have zw := xw (st := jt) q7b q7c q7d
 have uf := zw.binds (ps := ["_law_cell", "_law_k"]) xnk
 have xc9 := xw (st := xaw) q7H q7I q7J
 have xgs := xc9.binds (ps := ["_law_size", "_law_cell"]) xou
 have xb2 := xw (st := ju) q7f q7g q7h
 have xfe := xb2.binds (ps := ["_law_old", "_law_new", "_law_cell"]) xnl
 have xam := xw (st := um) q6n q6o q6p
 have xcJ := xam.binds (ps := ["_law_rows", "_law_cell"]) xk9
 have xb3 := xw (st := jv) q7j q7k q7l
 have xff := xb3.binds (ps := ["_law_script"]) xnm
 have xb4 := xw (st := jw) q7n q7o q7p
 have xfg := xb4.binds (ps := ["_law_paper_here", "_law_elder_here"]) xnn
 have xb5 := xw (st := jx) q7r q7s q7t
 have xfh := xb5.binds (ps := ["_law_cell", "_law_size"]) xno
 have xan := xw (st := uo) q6r q6s q6t
 have xcK := xan.binds (ps := ["_law_script", "_law_due", "_law_elder_here", "_law_falls", "_law_count"]) xla
 have xda := xw (st := xax) q7L q7M q7N
 have xgt := xda.binds (ps := ["_law_store", "_law_paper_here"]) xov
 have xgu := xw (st := xa6) q77 q2b q78
 have xkI := xgu.binds (ps := ["_law_script"]) xpq
 have T : Txt K mg { q0A := q0A, q0Y := q0Y, q0m := q0m, q0h := q0h, q0W := q0W, q0B := q0B, q0C := q0C, q0u := q0u, q0v := q0v, q0i := q0i, q0n := q0n, q1s := q1s, q0Z := q0Z, q0R := q0R, q0D := q0D, q0E := q0E, q0o := q0o, q1D := q1D, q1E := q1E, q00 := q00, q05 := q05, q06 := q06, q1m := q1m, q0L := q0L, q1f := q1f, q07 := q07, q1Q := q1Q, q0y := q0y, q0M := q0M, q0N := q0N, q1g := q1g, q1R := q1R, q0T := q0T, q08 := q08, q0r := q0r, q0z := q0z, q0O := q0O, q1n := q1n, q09 := q09, q01 := q01, q0l := q0l, q0f := q0f, q0P := q0P, q0F := q0F, q0w := q0w, q0G := q0G, q0x := q0x, q0H := q0H, q0e := q0e, q0j := q0j, q1o := q1o, q1S := q1S, q2r := q2r, q1T := q1T, q1p := q1p, q1U := q1U, q1V := q1V, q1W := q1W, q1q := q1q, q2s := q2s, q34 := q34, jR := _, xbP := _, xay := _, jS := _, xa7 := _, xaz := _, xaA := _, jT := _, jU := _, uC := _, vG := _, xcV := _, xbQ := _, xa8 := _, xaB := _, xaC := _, jz := _, xdG := _, xdH := _, xaD := _, xa9 := _, xba := _, xcz := _, vH := _, xbR := _, xbb := _, xe5 := _, uZ := _, vI := _, vJ := _, xaE := _, xe6 := _, jA := _, xbc := _, uD := _, va := _, vK := _, xcA := _, xbd := _, xbS := _, vb := _, zM := _, vY := _, xaF := _, vi := _, xaG := _, jV := _, xaH := _, zi := _, zD := _, xcB := _, xe7 := _, xgo := _, xe8 := _, xcC := _, xe9 := _, xfa := _, xfb := _, xcD := _, xgp := _, xgq := _, q1a := q1a, q0a := q0a, q0c := q0c, q0q := q0q, q0b := q0b, q0d := q0d, q1X := q1X, q5Z := q5Z } := {
  vj := vj
  jW := jW
  xaI := xaI
  xaJ := xaJ
  vZ := vZ
  ja := ja
  vm := vm
  ym := ym
  jL := jL
  xbe := xbe
  jb := jb
  uO := uO
  jc := jc
  xaK := xaK
  vn := vn
  jX := jX
  vo := vo
  jY := jY
  zE := zE
  zF := zF
  uu := uu
  vL := vL
  xbf := xbf
  xcW := xcW
  xaL := xaL
  xbT := xbT
  jM := jM
  xbg := xbg
  jd := jd
  xaM := xaM
  je := je
  xaN := xaN
  uP := uP
  jB := jB
  xbU := xbU
  xdI := xdI
  zV := zV
  vc := vc
  xad := W.mg_of X G q6F
  uQ := uQ
  xaO := xaO
  xeq := W.mg_of X G q4n
  vw := vw
  xbh := xbh
  xfx := W.mg_of X G q4R
  vx := vx
  xbi := xbi
  xfy := W.mg_of X G q4V
  xak := xak
  xcE := xcE
  xhB := W.mg_of X G q56
  xY := xY
  yu := yu
  zr := W.mg_of X G q2w
  vd := vd
  xaP := xaP
  xdJ := W.mg_of X G q5I
  uz := uz
  jN := jN
  xcX := W.mg_of X G q4Z
  xb0 := xb0
  xfc := xfc
  xjQ := W.mg_of X G q62
  yW := yW
  ve := ve
  xcf := W.mg_of X G q2c
  zt := zt
  vM := vM
  xcF := W.mg_of X G q2A
  zu := zu
  vN := vN
  xcG := W.mg_of X G q2E
  jC := jC
  xbV := xbV
  xgr := W.mg_of X G q5M
  q1t := q1t
  xfz := rfl
  xb1 := xb1
  xfd := xfd
  xjR := W.mg_of X G q66
  zR := zR
  jD := jD
  xc7 := W.mg_of X G q2Y
  uA := uA
  jO := jO
  xcY := W.mg_of X G q43
  yU := yU
  uE := uE
  xbH := W.mg_of X G q11
  yX := yX
  vf := vf
  xcg := W.mg_of X G q2g
  zv := zv
  vO := vO
  xcH := W.mg_of X G q2I
  xal := xal
  xcI := xcI
  xhC := W.mg_of X G q6a
  vy := vy
  xbj := xbj
  xfA := W.mg_of X G q47
  xaQ := xaQ
  xbW := xbW
  zW := zW
  zX := zX
  yT := yT
  zN := zN
  uR := uR
  xaR := xaR
  xbD := xbD
  jf := jf
  xaS := xaS
  vp := vp
  jZ := jZ
  q1h := q1h
  xc8 := rfl
  jg := jg
  xaT := xaT
  vq := vq
  vt := vt
  jh := jh
  ji := ji
  yw := yw
  yx := yx
  zG := zG
  uF := uF
  q0X := q0X
  xbu := rfl
  yG := yG
  zm := zm
  uv := W.mg_of X G q6i
  zw := zw
  uf := uf
  vz := W.mg_of X G q7a
  xc9 := xc9
  xgs := xgs
  xlQ := W.mg_of X G q7G
  xb2 := xb2
  xfe := xfe
  xjS := W.mg_of X G q7e
  xam := xam
  xcJ := xcJ
  xhD := W.mg_of X G q6m
  xb3 := xb3
  xff := xff
  xjT := W.mg_of X G q7i
  xb4 := xb4
  xfg := xfg
  xjU := W.mg_of X G q7m
  xb5 := xb5
  xfh := xfh
  xjV := W.mg_of X G q7q
  xan := xan
  xcK := xcK
  xhE := W.mg_of X G q6q
  xda := xda
  xgt := xgt
  xlR := W.mg_of X G q7K
  xgu := xgu
  xkI := xkI
  q5f := q5f
  xlS := rfl
  xkJ := W.mg_of X G q7D
  xpY := ⟨q7O, q7P, q7Q, q7R⟩
  q1J := q1J
  q3l := q3l
  xgv := W.mg_of X G q61
  xI := ⟨q6w, q6x, q6y, q6z⟩
  q0p := q0p
  q0k := q0k
  q0s := q0s
  q36 := ⟨q36, q7u, q7v, q7w⟩
  xnx := W.mg_of X G q7E
  zx := ⟨q6U, q6V, q6W, q6X⟩
  q0Q := q0Q
  q1c := q1c
  q1d := q1d
  q5g := ⟨q5g, q7S, q7T, q7U⟩
  xny := W.mg_of X G q7F
  xbk := ⟨q7V, q7W, q7X, q7Y⟩
  q02 := q02
  q1u := q1u
  q5h := ⟨q5h, q7Z, q70, q71⟩
  xjW := W.mg_of X G q6D
  xU := ⟨q6J, q6K, q6L, q6M⟩
  q0J := q0J
  q0U := q0U
  q03 := q03
  q2T := ⟨q2T, q6N, q6O, q6P⟩
  xfT := W.mg_of X G q50
  xod := W.mg_of X G q6E
  xer := ⟨q5m, q5n, q35, q5o, q5p, q5q⟩
  xlT := q35
  q1e := q1e
  q04 := q04
  q1r := q1r
  xlU := ⟨q5r, q5s, q5t, q5u, q5v, q5w, q5x, q5y⟩
  q2q := ⟨q2q⟩
  q37 := ⟨q37⟩
  xiw := fun e => .ins e ⟨q6U, q6V, q6W, q6X⟩ q72 q73 q74 q75
  xg2 := fun e => .ins e ⟨q6w, q6x, q6y, q6z⟩ q7x q7y q7z q7A
  q1v := q1v
  q1i := q1i
  xix := W.mg_of X G q7B
  xao := ⟨q1A, q1B, q1C⟩
  jH := ⟨q17, q18, q19⟩
  uS := ⟨q22, q23, q24⟩
  xdS := ⟨q3E, q3F, q3G⟩
  xdT := ⟨q3H, q3I, q3J⟩
  xes := ⟨q4E, q4F, q4G⟩
  xcL := ⟨q2N, q2O, q2P⟩
  xdU := ⟨q3K, q3L, q3M⟩
  xdV := ⟨q3N, q3O, q3P⟩
  xbv := ⟨q1K, q1L, q1M⟩
  xa5 := ⟨q25, q26, q27⟩
  xdW := ⟨q3Q, q3R, q3S⟩
  ub := ⟨q1j, q1k, q1l⟩
  xbE := ⟨q3T, q3U, q3V⟩
  xdb := ⟨q28, q29, q3a⟩
  vP := ⟨q2Q, q2R, q2S⟩
  xdc := ⟨q3b, q3c, q3d⟩
  xdd := ⟨q3e, q3f, q3g⟩
  xdX := ⟨q3W, q3X, q3Y⟩
  xch := ⟨q2n, q2o, q2p⟩
  jj := ⟨q1N, q1O, q1P⟩
  xaa := ⟨q3Z, q30, q31⟩
  xde := ⟨q3h, q3i, q3j⟩
  xcZ := ⟨q5b, q5c, q5d, q5e⟩
  q6u := W.mg_none_of X G q6u
  q6v := W.mg_none_of X G q6v
  q5i := W.mg_none_of X G q5i
  q1b := W.mg_none_of X G q1b
  q5k := W.mg_none_of X G q5k
  q0I := W.mg_none_of X G q0I
  q0V := W.mg_none_of X G q0V
  q1I := W.mg_none_of X G q1I
  q3k := W.mg_none_of X G q3k
  q5l := W.mg_none_of X G q5l
  q0K := W.mg_none_of X G q0K
  q2U := W.mg_none_of X G q2U
  q1z := W.mg_none_of X G q1z
 }
 exact ⟨_, fun s v => .of_eq rfl, fun base _ _ => xpp T⟩
end K90
open PySem PySem.W PyProof.Rows
namespace PySem.W.Fast
theorem tw12554055607423901301:True:=trivial
theorem tw10907319782601010881:True:=trivial
theorem tw12094390744114551915:True:=trivial
theorem tw4016614632139696765:True:=trivial
theorem tw18443329611565809741:True:=trivial
theorem tw11998674702060233583:True:=trivial
theorem tw3592175665676775921:True:=trivial
theorem tw18083002332874346265:True:=trivial
theorem tw9291393013978584497:True:=trivial
theorem tw184068569820542860:True:=trivial
theorem tw897232609404956559:True:=trivial
theorem tw18432602171926315652:True:=trivial
theorem tw17740143877432322416:True:=trivial
theorem tw10486396228625757192:True:=trivial
theorem tw3139543835008587981:True:=trivial
theorem tw2402894165294433898:True:=trivial
theorem tw18386916222004137175:True:=trivial
theorem tw7643278005257839802:True:=trivial
theorem tw5380943912810281612:True:=trivial
theorem tw3912939660306916307:True:=trivial
theorem tw11935196112797277183:True:=trivial
theorem tw16591660573916817017:True:=trivial
theorem tw4107666609403288973:True:=trivial
theorem tw2538921431328198002:True:=trivial
theorem tw12988296443593330530:True:=trivial
theorem tw3640933455753102815:True:=trivial
theorem tw9076828470014904370:True:=trivial
theorem tw6283983988207594472:True:=trivial
theorem tw12573663480470197905:True:=trivial
theorem tw9778024271613483488:True:=trivial
theorem tw9199212814627759001:True:=trivial
theorem tw11944862331163924206:True:=trivial
theorem tw12631333866372179458:True:=trivial
theorem tw9338702966315545765:True:=trivial
theorem tw9108901722990811338:True:=trivial
theorem tw14149208273387079528:True:=trivial
theorem tw17817264668209584302:True:=trivial
theorem tw12237664622466789311:True:=trivial
theorem tw12666006007517144436:True:=trivial
theorem tw10464377016153924849:True:=trivial
theorem tw338491803703070924:True:=trivial
theorem tw14336292113296072844:True:=trivial
theorem tw12585011655825967913:True:=trivial
theorem tw2735040926193535372:True:=trivial
theorem tw11888766837641894894:True:=trivial
theorem tw16421472413151328340:True:=trivial
theorem tw6538949422128574567:True:=trivial
theorem tw5971376648528694526:True:=trivial
theorem tw13975426202724439715:True:=trivial
theorem tw17555393901070250628:True:=trivial
theorem tw10715767961023995767:True:=trivial
theorem tw12562461093934824674:True:=trivial
theorem tw14759492480609329039:True:=trivial
theorem tw4311882012315019815:True:=trivial
theorem tw1981507060291882891:True:=trivial
theorem tw10135968674530697838:True:=trivial
theorem tw9998034024231774552:True:=trivial
theorem tw14923949985082122088:True:=trivial
theorem tw10474015474361207311:True:=trivial
theorem tw5057389530732496001:True:=trivial
theorem tw2390229084737549821:True:=trivial
theorem tw15857782597048957111:True:=trivial
theorem tw16113153410330985482:True:=trivial
theorem tw5566234732575197330:True:=trivial
theorem tw10875389147387440588:True:=trivial
theorem tw608809747440961028:True:=trivial
theorem tw5583258053117434073:True:=trivial
theorem tw14061521205685282054:True:=trivial
theorem tw10690528120259681902:True:=trivial
theorem tw30942878074945244:True:=trivial
theorem tw3308484732507202757:True:=trivial
theorem tw4477369505329214805:True:=trivial
theorem tw7730262892664067434:True:=trivial
theorem tw10302162758758238060:True:=trivial
theorem tw17581663917521751261:True:=trivial
theorem tw3798390607595710755:True:=trivial
theorem tw6040915133755158001:True:=trivial
theorem tw12672629317800657857:True:=trivial
theorem tw7117796949154014016:True:=trivial
theorem tw3416127940844778126:True:=trivial
theorem tw4652693563518121240:True:=trivial
theorem tw294345705143651981:True:=trivial
theorem tw9618818614642546151:True:=trivial
theorem tw6189209795117855909:True:=trivial
theorem tw6185345773397450397:True:=trivial
theorem tw11249618237228600065:True:=trivial
theorem tw7485483573059562791:True:=trivial
theorem tw7713067147564076705:True:=trivial
theorem tw8877065094374001978:True:=trivial
theorem tw8797853136349030310:True:=trivial
theorem tw175648604836434068:True:=trivial
theorem tw17657793555722182205:True:=trivial
theorem tw5711177027265409516:True:=trivial
theorem tw17791815288044710573:True:=trivial
theorem tw14228646704869302509:True:=trivial
end PySem.W.Fast
set_option maxRecDepth 100000 in
set_option maxHeartbeats 0 in
theorem PySem.Challenge.cw_oneroom_k90_whole_falls_holds : PySem.Challenge.rw_oneroom_k90_whole_falls.Holds := by
  w_on; o_law; k_head; (case hw => w_witness2)
  k_fill
  refine L2.xmA (l := PySem.Challenge.rw_oneroom_k90_whole_falls) (n := 63) (k := 10) (x := "_law_script") (CX := L2.CX0) (sp := K90.xiW) (tabs := [(K90.q0S, K90.uq, K90.jK), (K90.q0t, K90.zB, K90.jy), (K90.q0g, K90.yt, K90.ur), (K90.q2b, K90.xe4, K90.xiv)]) rfl (by decide) rfl ⟨rfl, by decide, by decide⟩ (fun w h Y => PySem.W.km_in_of Y) (fun w h Y KX => (List.forall_mem_cons.mpr ⟨⟨PySem.W.codeHd_of_K (c := K90.q0S) (P := K90.uq) KX (by kernel_rfl), PySem.W.km_tabs_of Y _ (by decide)⟩, (List.forall_mem_cons.mpr ⟨⟨PySem.W.codeHd_of_K (c := K90.q0t) (P := K90.zB) KX (by kernel_rfl), PySem.W.km_tabs_of Y _ (by decide)⟩, (List.forall_mem_cons.mpr ⟨⟨PySem.W.codeHd_of_K (c := K90.q0g) (P := K90.yt) KX (by kernel_rfl), PySem.W.km_tabs_of Y _ (by decide)⟩, (List.forall_mem_cons.mpr ⟨⟨PySem.W.codeHd_of_K (c := K90.q2b) (P := K90.xe4) KX (by kernel_rfl), PySem.W.km_tabs_of Y _ (by decide)⟩, (fun _ z => nomatch z)⟩)⟩)⟩)⟩)) (fun w => by kernel_rfl) (by decide) ?F ?S ?C
  case F =>
    intro w mg fa h KX G hmg
    refine' K90.xpr KX G hmg ?q7D ?q61 ?q7E ?q7F ?q6D ?q50 ?q6E ?q5m ?q5n ?q35 ?q5o ?q5p ?q5q ?q1e ?q04 ?q1r ?q5r ?q5s ?q5t ?q5u ?q5v ?q5w ?q5x ?q5y ?q2q ?q37 ?q5T ?q3m ?q3n ?q3o ?q6Q ?q5z ?q5A ?q5B ?q51 ?q38 ?q39 ?q4a ?q5U ?q3p ?q3q ?q3r ?q6A ?q4I ?q4J ?q4K ?q52 ?q4b ?q4c ?q4d ?q53 ?q4e ?q4f ?q4g ?q5V ?q3s ?q3t ?q3u ?q5W ?q3v ?q3w ?q3x ?q32 ?q1Y ?q1Z ?q10 ?q4H ?q2t ?q2u ?q2v ?q6B ?q4L ?q4M ?q4N ?q6R ?q5C ?q5D ?q5E ?q6C ?q4O ?q4P ?q4Q ?q54 ?q4h ?q4i ?q4j ?q55 ?q4k ?q4l ?q4m ?q5j ?q2V ?q2W ?q2X ?q6S ?q5F ?q5G ?q5H ?q6F ?q6G ?q6H ?q6I ?q4n ?q4o ?q4p ?q4q ?q4R ?q4S ?q4T ?q4U ?q4V ?q4W ?q4X ?q4Y ?q56 ?q57 ?q58 ?q59 ?q2w ?q2x ?q2y ?q2z ?q5I ?q5J ?q5K ?q5L ?q4Z ?q40 ?q41 ?q42 ?q62 ?q63 ?q64 ?q65 ?q2c ?q2d ?q2e ?q2f ?q2A ?q2B ?q2C ?q2D ?q2E ?q2F ?q2G ?q2H ?q5M ?q1t ?q5N ?q0S ?q5O ?q66 ?q67 ?q68 ?q69 ?q2Y ?q2Z ?q20 ?q21 ?q43 ?q44 ?q45 ?q46 ?q11 ?q12 ?q13 ?q14 ?q2g ?q2h ?q2i ?q2j ?q2I ?q2J ?q2K ?q2L ?q6a ?q6b ?q6c ?q6d ?q47 ?q48 ?q49 ?q5a ?q6T ?q5P ?q5Q ?q5R ?q4r ?q2k ?q2l ?q2m ?q2M ?q1F ?q1G ?q1H ?q6e ?q4s ?q3y ?q4t ?q4u ?q6f ?q4v ?q4w ?q4x ?q5X ?q1h ?q3z ?q0t ?q3A ?q6g ?q4y ?q4z ?q4A ?q5Y ?q3B ?q3C ?q3D ?q6h ?q4B ?q4C ?q4D ?q2a ?q1w ?q1x ?q1y ?q33 ?q0X ?q15 ?q0g ?q16 ?q6i ?q6j ?q6k ?q6l ?q7a ?q7b ?q7c ?q7d ?q7G ?q7H ?q7I ?q7J ?q7e ?q7f ?q7g ?q7h ?q6m ?q6n ?q6o ?q6p ?q7i ?q7j ?q7k ?q7l ?q7m ?q7n ?q7o ?q7p ?q7q ?q7r ?q7s ?q7t ?q6q ?q6r ?q6s ?q6t ?q7K ?q7L ?q7M ?q7N ?q76 ?q5f ?q77 ?q2b ?q78 ?q7O ?q7P ?q7Q ?q7R ?q1J ?q3l ?q6w ?q6x ?q6y ?q6z ?q0p ?q0k ?q0s ?q36 ?q7u ?q7v ?q7w ?q6U ?q6V ?q6W ?q6X ?q0Q ?q1c ?q1d ?q5g ?q7S ?q7T ?q7U ?q7V ?q7W ?q7X ?q7Y ?q02 ?q1u ?q5h ?q7Z ?q70 ?q71 ?q6J ?q6K ?q6L ?q6M ?q0J ?q0U ?q03 ?q2T ?q6N ?q6O ?q6P ?q1A ?q1B ?q1C ?q17 ?q18 ?q19 ?q22 ?q23 ?q24 ?q3E ?q3F ?q3G ?q3H ?q3I ?q3J ?q4E ?q4F ?q4G ?q2N ?q2O ?q2P ?q3K ?q3L ?q3M ?q3N ?q3O ?q3P ?q1K ?q1L ?q1M ?q25 ?q26 ?q27 ?q3Q ?q3R ?q3S ?q1j ?q1k ?q1l ?q3T ?q3U ?q3V ?q28 ?q29 ?q3a ?q2Q ?q2R ?q2S ?q3b ?q3c ?q3d ?q3e ?q3f ?q3g ?q3W ?q3X ?q3Y ?q2n ?q2o ?q2p ?q1N ?q1O ?q1P ?q3Z ?q30 ?q31 ?q3h ?q3i ?q3j ?q5b ?q5c ?q5d ?q5e ?q72 ?q73 ?q74 ?q75 ?q7x ?q7y ?q7z ?q7A ?q1v ?q1i ?q7B ?q6u ?q6v ?q5i ?q1b ?q5k ?q0I ?q0V ?q1I ?q3k ?q5l ?q0K ?q2U ?q1z
    (case q7D => k_is)
    (case q61 => k_is)
    (case q7E => k_is)
    (case q7F => k_is)
    (case q6D => k_is)
    (case q50 => k_is)
    (case q6E => k_is)
    (case q5m => kernel_rfl)
    (case q5n => kernel_rfl)
    (case q35 => kernel_rfl)
    (case q5o => kernel_rfl)
    (case q5p => kernel_rfl)
    (case q5q => kernel_rfl)
    (case q1e => kernel_rfl)
    (case q04 => kernel_rfl)
    (case q1r => kernel_rfl)
    (case q5r => kernel_rfl)
    (case q5s => kernel_rfl)
    (case q5t => kernel_rfl)
    (case q5u => kernel_rfl)
    (case q5v => kernel_rfl)
    (case q5w => kernel_rfl)
    (case q5x => kernel_rfl)
    (case q5y => kernel_rfl)
    (case q2q => kernel_rfl)
    (case q37 => kernel_rfl)
    (case q5T => k_is)
    (case q3m => k_is)
    (case q3n => k_is)
    (case q3o => k_is)
    (case q6Q => k_is)
    (case q5z => k_is)
    (case q5A => k_is)
    (case q5B => k_is)
    (case q51 => k_is)
    (case q38 => k_is)
    (case q39 => k_is)
    (case q4a => k_is)
    (case q5U => k_is)
    (case q3p => k_is)
    (case q3q => k_is)
    (case q3r => k_is)
    (case q6A => k_is)
    (case q4I => k_is)
    (case q4J => k_is)
    (case q4K => k_is)
    (case q52 => k_is)
    (case q4b => k_is)
    (case q4c => k_is)
    (case q4d => k_is)
    (case q53 => k_is)
    (case q4e => k_is)
    (case q4f => k_is)
    (case q4g => k_is)
    (case q5V => k_is)
    (case q3s => k_is)
    (case q3t => k_is)
    (case q3u => k_is)
    (case q5W => k_is)
    (case q3v => k_is)
    (case q3w => k_is)
    (case q3x => k_is)
    (case q32 => k_is)
    (case q1Y => k_is)
    (case q1Z => k_is)
    (case q10 => k_is)
    (case q4H => k_is)
    (case q2t => k_is)
    (case q2u => k_is)
    (case q2v => k_is)
    (case q6B => k_is)
    (case q4L => k_is)
    (case q4M => k_is)
    (case q4N => k_is)
    (case q6R => k_is)
    (case q5C => k_is)
    (case q5D => k_is)
    (case q5E => k_is)
    (case q6C => k_is)
    (case q4O => k_is)
    (case q4P => k_is)
    (case q4Q => k_is)
    (case q54 => k_is)
    (case q4h => k_is)
    (case q4i => k_is)
    (case q4j => k_is)
    (case q55 => k_is)
    (case q4k => k_is)
    (case q4l => k_is)
    (case q4m => k_is)
    (case q5j => k_is)
    (case q2V => k_is)
    (case q2W => k_is)
    (case q2X => k_is)
    (case q6S => k_is)
    (case q5F => k_is)
    (case q5G => k_is)
    (case q5H => k_is)
    (case q6F => k_is)
    (case q6G => k_is)
    (case q6H => k_is)
    (case q6I => k_is)
    (case q4n => k_is)
    (case q4o => k_is)
    (case q4p => k_is)
    (case q4q => k_is)
    (case q4R => k_is)
    (case q4S => k_is)
    (case q4T => k_is)
    (case q4U => k_is)
    (case q4V => k_is)
    (case q4W => k_is)
    (case q4X => k_is)
    (case q4Y => k_is)
    (case q56 => k_is)
    (case q57 => k_is)
    (case q58 => k_is)
    (case q59 => k_is)
    (case q2w => k_is)
    (case q2x => k_is)
    (case q2y => k_is)
    (case q2z => k_is)
    (case q5I => k_is)
    (case q5J => k_is)
    (case q5K => k_is)
    (case q5L => k_is)
    (case q4Z => k_is)
    (case q40 => k_is)
    (case q41 => k_is)
    (case q42 => k_is)
    (case q62 => k_is)
    (case q63 => k_is)
    (case q64 => k_is)
    (case q65 => k_is)
    (case q2c => k_is)
    (case q2d => k_is)
    (case q2e => k_is)
    (case q2f => k_is)
    (case q2A => k_is)
    (case q2B => k_is)
    (case q2C => k_is)
    (case q2D => k_is)
    (case q2E => k_is)
    (case q2F => k_is)
    (case q2G => k_is)
    (case q2H => k_is)
    (case q5M => k_is)
    (case q1t => exact L2.xe2 (by kernel_rfl))
    (case q5N => k_is)
    (case q0S => k_is)
    (case q5O => k_is)
    (case q66 => k_is)
    (case q67 => k_is)
    (case q68 => k_is)
    (case q69 => k_is)
    (case q2Y => k_is)
    (case q2Z => k_is)
    (case q20 => k_is)
    (case q21 => k_is)
    (case q43 => k_is)
    (case q44 => k_is)
    (case q45 => k_is)
    (case q46 => k_is)
    (case q11 => k_is)
    (case q12 => k_is)
    (case q13 => k_is)
    (case q14 => k_is)
    (case q2g => k_is)
    (case q2h => k_is)
    (case q2i => k_is)
    (case q2j => k_is)
    (case q2I => k_is)
    (case q2J => k_is)
    (case q2K => k_is)
    (case q2L => k_is)
    (case q6a => k_is)
    (case q6b => k_is)
    (case q6c => k_is)
    (case q6d => k_is)
    (case q47 => k_is)
    (case q48 => k_is)
    (case q49 => k_is)
    (case q5a => k_is)
    (case q6T => k_is)
    (case q5P => k_is)
    (case q5Q => k_is)
    (case q5R => k_is)
    (case q4r => k_is)
    (case q2k => k_is)
    (case q2l => k_is)
    (case q2m => k_is)
    (case q2M => k_is)
    (case q1F => k_is)
    (case q1G => k_is)
    (case q1H => k_is)
    (case q6e => k_is)
    (case q4s => k_is)
    (case q3y => k_is)
    (case q4t => k_is)
    (case q4u => k_is)
    (case q6f => k_is)
    (case q4v => k_is)
    (case q4w => k_is)
    (case q4x => k_is)
    (case q5X => k_is)
    (case q1h => exact L2.xe2 (by kernel_rfl))
    (case q3z => k_is)
    (case q0t => k_is)
    (case q3A => k_is)
    (case q6g => k_is)
    (case q4y => k_is)
    (case q4z => k_is)
    (case q4A => k_is)
    (case q5Y => k_is)
    (case q3B => k_is)
    (case q3C => k_is)
    (case q3D => k_is)
    (case q6h => k_is)
    (case q4B => k_is)
    (case q4C => k_is)
    (case q4D => k_is)
    (case q2a => k_is)
    (case q1w => k_is)
    (case q1x => k_is)
    (case q1y => k_is)
    (case q33 => k_is)
    (case q0X => exact L2.xe2 (by kernel_rfl))
    (case q15 => k_is)
    (case q0g => k_is)
    (case q16 => k_is)
    (case q6i => k_is)
    (case q6j => k_is)
    (case q6k => k_is)
    (case q6l => k_is)
    (case q7a => k_is)
    (case q7b => k_is)
    (case q7c => k_is)
    (case q7d => k_is)
    (case q7G => k_is)
    (case q7H => k_is)
    (case q7I => k_is)
    (case q7J => k_is)
    (case q7e => k_is)
    (case q7f => k_is)
    (case q7g => k_is)
    (case q7h => k_is)
    (case q6m => k_is)
    (case q6n => k_is)
    (case q6o => k_is)
    (case q6p => k_is)
    (case q7i => k_is)
    (case q7j => k_is)
    (case q7k => k_is)
    (case q7l => k_is)
    (case q7m => k_is)
    (case q7n => k_is)
    (case q7o => k_is)
    (case q7p => k_is)
    (case q7q => k_is)
    (case q7r => k_is)
    (case q7s => k_is)
    (case q7t => k_is)
    (case q6q => k_is)
    (case q6r => k_is)
    (case q6s => k_is)
    (case q6t => k_is)
    (case q7K => k_is)
    (case q7L => k_is)
    (case q7M => k_is)
    (case q7N => k_is)
    (case q76 => k_is)
    (case q5f => exact L2.xe2 (by kernel_rfl))
    (case q77 => k_is)
    (case q2b => k_is)
    (case q78 => k_is)
    (case q7O => k_is)
    (case q7P => k_is)
    (case q7Q => k_is)
    (case q7R => k_is)
    (case q1J => k_is)
    (case q3l => k_is)
    (case q6w => k_is)
    (case q6x => k_is)
    (case q6y => k_is)
    (case q6z => k_is)
    (case q0p => k_is)
    (case q0k => k_is)
    (case q0s => k_is)
    (case q36 => k_is)
    (case q7u => k_is)
    (case q7v => k_is)
    (case q7w => k_is)
    (case q6U => k_is)
    (case q6V => k_is)
    (case q6W => k_is)
    (case q6X => k_is)
    (case q0Q => k_is)
    (case q1c => k_is)
    (case q1d => k_is)
    (case q5g => k_is)
    (case q7S => k_is)
    (case q7T => k_is)
    (case q7U => k_is)
    (case q7V => k_is)
    (case q7W => k_is)
    (case q7X => k_is)
    (case q7Y => k_is)
    (case q02 => k_is)
    (case q1u => k_is)
    (case q5h => k_is)
    (case q7Z => k_is)
    (case q70 => k_is)
    (case q71 => k_is)
    (case q6J => k_is)
    (case q6K => k_is)
    (case q6L => k_is)
    (case q6M => k_is)
    (case q0J => k_is)
    (case q0U => k_is)
    (case q03 => k_is)
    (case q2T => k_is)
    (case q6N => k_is)
    (case q6O => k_is)
    (case q6P => k_is)
    (case q1A => k_is)
    (case q1B => k_is)
    (case q1C => k_is)
    (case q17 => k_is)
    (case q18 => k_is)
    (case q19 => k_is)
    (case q22 => k_is)
    (case q23 => k_is)
    (case q24 => k_is)
    (case q3E => k_is)
    (case q3F => k_is)
    (case q3G => k_is)
    (case q3H => k_is)
    (case q3I => k_is)
    (case q3J => k_is)
    (case q4E => k_is)
    (case q4F => k_is)
    (case q4G => k_is)
    (case q2N => k_is)
    (case q2O => k_is)
    (case q2P => k_is)
    (case q3K => k_is)
    (case q3L => k_is)
    (case q3M => k_is)
    (case q3N => k_is)
    (case q3O => k_is)
    (case q3P => k_is)
    (case q1K => k_is)
    (case q1L => k_is)
    (case q1M => k_is)
    (case q25 => k_is)
    (case q26 => k_is)
    (case q27 => k_is)
    (case q3Q => k_is)
    (case q3R => k_is)
    (case q3S => k_is)
    (case q1j => k_is)
    (case q1k => k_is)
    (case q1l => k_is)
    (case q3T => k_is)
    (case q3U => k_is)
    (case q3V => k_is)
    (case q28 => k_is)
    (case q29 => k_is)
    (case q3a => k_is)
    (case q2Q => k_is)
    (case q2R => k_is)
    (case q2S => k_is)
    (case q3b => k_is)
    (case q3c => k_is)
    (case q3d => k_is)
    (case q3e => k_is)
    (case q3f => k_is)
    (case q3g => k_is)
    (case q3W => k_is)
    (case q3X => k_is)
    (case q3Y => k_is)
    (case q2n => k_is)
    (case q2o => k_is)
    (case q2p => k_is)
    (case q1N => k_is)
    (case q1O => k_is)
    (case q1P => k_is)
    (case q3Z => k_is)
    (case q30 => k_is)
    (case q31 => k_is)
    (case q3h => k_is)
    (case q3i => k_is)
    (case q3j => k_is)
    (case q5b => k_is)
    (case q5c => k_is)
    (case q5d => k_is)
    (case q5e => k_is)
    (case q72 => k_is)
    (case q73 => k_is)
    (case q74 => k_is)
    (case q75 => k_is)
    (case q7x => k_is)
    (case q7y => k_is)
    (case q7z => k_is)
    (case q7A => k_is)
    (case q1v => kernel_rfl)
    (case q1i => kernel_rfl)
    (case q7B => k_is)
    (case q6u => k_is)
    (case q6v => k_is)
    (case q5i => k_is)
    (case q1b => k_is)
    (case q5k => k_is)
    (case q0I => k_is)
    (case q0V => k_is)
    (case q1I => k_is)
    (case q3k => k_is)
    (case q5l => k_is)
    (case q0K => k_is)
    (case q2U => k_is)
    (case q1z => k_is)
  case S => exact fun K H a ns hl hS hT => ⟨a, ns, rfl, hS, hl, hT _ (.head _), hT _ (.tail _ (.head _)), hT _ (.tail _ (.tail _ (.head _))), hT _ (.tail _ (.tail _ (.tail _ (.head _)))), fun _ => rfl⟩
  case C => exact fun _ _ _ _ z => z
#print axioms PySem.Challenge.cw_oneroom_k90_whole_falls_holds
