import PyProof.Rows.All
import Wide.All
import OpenK.AllK
import Wide.FinOn
import Lean
import PyProof.EqAt
import PyProof.EqKinds
import PyProof.TupleCall
import PySem.Challenge.RW_oneroom_k91_whole_judge_is_exact
set_option Elab.async false
set_option linter.all false
set_option maxRecDepth 100000
namespace L2
open PySem PySem.Spec PyProof.Rows
abbrev Key := Sum Int Str
def keyIs : Key → Value → Bool
  | .inl k, v => Value.isInt k v
  | .inr x, v => Value.isStrOf x v
def keyH (w : World) : Key → Int
  | .inl k => hashInt k
  | .inr x => hashStr w x
theorem keyIs_shape : ∀ {k : Key} {v : Value}, keyIs k v = true → (∃ i t, k = Sum.inl i ∧ v = Value.int i t) ∨ (∃ x t, k = Sum.inr x ∧ v = Value.str x t)
  | .inl i, v, h => by
    obtain ⟨t, e⟩ := Value.isInt_shape (k := i) (v := v) h
    exact .inl ⟨i, t, rfl, e⟩
  | .inr x, v, h => by
    obtain ⟨t, e⟩ := Value.isStrOf_shape (x := x) (v := v) h
    exact .inr ⟨x, t, rfl, e⟩
theorem keyIs_int (i : Int) (t : Tok) : keyIs (.inl i) (.int i t) = true := by simp [keyIs, Value.isInt]
theorem keyIs_str (x : Str) (t : Tok) : keyIs (.inr x) (.str x t) = true := by simp [keyIs, Value.isStrOf]
theorem key_ll (a b : Int) : decide ((Sum.inl a : Key) = Sum.inl b) = (a == b) := by
  by_cases e : a = b
  · subst e; simp
  · have h : ¬ (Sum.inl a : Key) = Sum.inl b := fun q => e (Sum.inl.inj q)
    rw [decide_eq_false h]
    exact (beq_eq_false_iff_ne.mpr e).symm
theorem key_rr (a b : Str) : decide ((Sum.inr a : Key) = Sum.inr b) = decide (a = b) := by
  by_cases e : a = b
  · subst e; simp
  · have h : ¬ (Sum.inr a : Key) = Sum.inr b := fun q => e (Sum.inr.inj q)
    rw [decide_eq_false h, decide_eq_false e]
theorem key_lr (a : Int) (b : Str) : decide ((Sum.inl a : Key) = Sum.inr b) = false := decide_eq_false (fun q => nomatch q)
theorem key_rl (a : Str) (b : Int) : decide ((Sum.inr a : Key) = Sum.inl b) = false := decide_eq_false (fun q => nomatch q)
def mixKind (prog : Program) (w : World) : PySem.KeyKind prog w Key where
  is := keyIs
  hash := keyH w
  inj := fun v a b ha hb => by
    rcases keyIs_shape ha with ⟨i, t, rfl, rfl⟩ | ⟨x, t, rfl, rfl⟩
    · rcases keyIs_shape hb with ⟨j, u, rfl, e⟩ | ⟨y, u, rfl, e⟩
      · injection e with e1 _; rw [e1]
      · exact nomatch e
    · rcases keyIs_shape hb with ⟨j, u, rfl, e⟩ | ⟨y, u, rfl, e⟩
      · exact nomatch e
      · injection e with e1 _; rw [e1]
  byValue := fun k v h => by
    rcases keyIs_shape h with ⟨i, t, rfl, rfl⟩ | ⟨x, t, rfl, rfl⟩ <;> rfl
  pyHash := fun hv h => by
    rcases keyIs_shape hv with ⟨i, t, rfl, rfl⟩ | ⟨x, t, rfl, rfl⟩
    · exact wpAny_pyHash_int h
    · exact wpAny_pyHash_str h
  eqBool := fun hu hv h => by
    rcases keyIs_shape hu with ⟨i, t, rfl, rfl⟩ | ⟨x, t, rfl, rfl⟩
    · rcases keyIs_shape hv with ⟨j, u, rfl, rfl⟩ | ⟨y, u, rfl, rfl⟩
      · rw [key_ll] at h; exact wpAny_eqBool_int h
      · rw [key_lr] at h; exact SeqAt.EqAt.int_str i t y u _ _ _ _ h
    · rcases keyIs_shape hv with ⟨j, u, rfl, rfl⟩ | ⟨y, u, rfl, rfl⟩
      · rw [key_rl] at h; exact SeqAt.EqAt.str_int x t j u _ _ _ _ h
      · rw [key_rr] at h; exact wpAny_eqBool_str h
  «strs» := fun k x t v h => by
    rcases keyIs_shape h with ⟨i, u, rfl, e⟩ | ⟨y, u, rfl, e⟩
    · exact nomatch e
    · injection e with e1 _
      subst e1
      cases v <;> rfl
theorem mixKind_int (prog : Program) (w : World) (i : Int) (t : Tok) : (mixKind prog w).is (.inl i) (.int i t) = true := keyIs_int i t
theorem mixKind_str (prog : Program) (w : World) (x : Str) (t : Tok) : (mixKind prog w).is (.inr x) (.str x t) = true := keyIs_str x t
end L2
namespace L2
open PySem PySem.Spec PyProof.Rows
inductive V where
  | non | bl (b : Bool) | int (i : Int) | str (x : Str) | byt (b : Array UInt8) | flt (b : UInt64) | ref (a : Addr) | ty (n : String)
  deriving DecidableEq
def RelV : V → Value → Prop
  | .non, u => u = Value.none
  | .bl b, u => u = Value.bool b
  | .int i, u => ∃ t, u = Value.int i t
  | .str x, u => ∃ t, u = Value.str x t
  | .byt b, u => ∃ t, u = Value.bytes b t
  | .flt b, u => ∃ t, u = Value.float b t
  | .ref a, u => u = Value.ref a
  | .ty n, u => u = Value.type n
theorem RelV.fn {x y : V} {u : Value} (a : RelV x u) (b : RelV y u) : x = y := by
  cases x <;> simp only [RelV] at a <;> (first | subst a | (obtain ⟨_, rfl⟩ := a)) <;> cases y <;> simp only [RelV] at b <;> first | rfl | (cases b; done) | (cases b; rfl) | (obtain ⟨_, b⟩ := b; cases b; done) | (obtain ⟨_, b⟩ := b; cases b; rfl)
abbrev Vals : List V → List Value → Prop := Paired RelV
theorem Vals.length {xs : List V} {us : List Value} (r : Vals xs us) : xs.length = us.length := Paired.length r
theorem Vals.get : ∀ {xs : List V} {us : List Value} {i : Nat} {x : V}, Vals xs us → xs[i]? = some x → ∃ u, us[i]? = some u ∧ RelV x u
  | _, _, _, _, .nil, e => by simp at e
  | _, _, 0, _, .cons r _, e => by simp at e; subst e; exact ⟨_, rfl, r⟩
  | _, _, i + 1, x, .cons _ t, e => by
    obtain ⟨u, h1, h2⟩ := Vals.get (i := i) (x := x) t (by simpa using e)
    exact ⟨u, by simpa using h1, h2⟩
theorem Vals.set {x : V} {u : Value} (r : RelV x u) : ∀ {xs : List V} {us : List Value} (i : Nat), Vals xs us → Vals (xs.set i x) (us.set i u)
  | _, _, _, .nil => .nil
  | _, _, 0, .cons _ t => .cons r t
  | _, _, i + 1, .cons q t => .cons q (Vals.set r i t)
theorem Vals.append : ∀ {xs ys : List V} {us ws : List Value}, Vals xs us → Vals ys ws → Vals (xs ++ ys) (us ++ ws)
  | _, _, _, _, .nil, s => s
  | _, _, _, _, .cons r t, s => .cons r (Vals.append t s)
theorem Vals.take : ∀ {xs : List V} {us : List Value} (n : Nat), Vals xs us → Vals (xs.take n) (us.take n)
  | _, _, 0, _ => .nil
  | _, _, _ + 1, .nil => .nil
  | _, _, n + 1, .cons r t => .cons r (Vals.take n t)
theorem Vals.drop : ∀ {xs : List V} {us : List Value} (n : Nat), Vals xs us → Vals (xs.drop n) (us.drop n)
  | _, _, 0, r => r
  | _, _, _ + 1, .nil => .nil
  | _, _, n + 1, .cons _ t => Vals.drop n t
def RelO : Option V → Option Value → Prop
  | some v, some u => RelV v u
  | none, none => True
  | _, _ => False
def KV {κ : Type} : List (κ × V) → List (κ × Value) → Prop := Paired fun (p : κ × V) (q : κ × Value) => p.1 = q.1 ∧ RelV p.2 q.2
def kV : Key → V
  | .inl i => .int i
  | .inr x => .str x
inductive HO where
  | lst (xs : List V)
  | tup (xs : List V)
  | dK (kvs : List (Key × V)) | dT (kvs : List (List Key × V))
  | set (S : Int → Bool) (n : Nat)
  | ins (C dx : Addr) (fs : List (Str × V))
  | own (x : Addr)
  | xd (fs : List (Str × V))
  | met (f x : Addr)
  | rng (lo hi : Int)
  | frz (o : Obj) (u : HO)
  | tbl (qs : List (Pos × Str))
  | cel (v : Option V)
  | ext (φ : Heap → Prop)
abbrev Hp := Addr → Option HO
def upd (H : Hp) (a : Addr) (o : HO) : Hp := fun b => if b = a then some o else H b
theorem upd_same {H : Hp} {a : Addr} {o : HO} : upd H a o a = some o := by unfold upd; rw [if_pos rfl]
theorem upd_ne {H : Hp} {a b : Addr} {o : HO} (h : b ≠ a) : upd H a o b = H b := by unfold upd; rw [if_neg h]
theorem upd_upd {H : Hp} {a : Addr} {o u : HO} : upd (upd H a o) a u = upd H a u := by
  funext b; unfold upd; split <;> rfl
theorem ne_of {H : Hp} {a b : Addr} {o u : HO} (h : H a = some o) (h' : H b = some u) (d : o ≠ u) : a ≠ b := by
  intro e; subst e; rw [h] at h'; exact d (Option.some.inj h')
theorem ne_of_none {H : Hp} {a b : Addr} {o : HO} (h : H a = some o) (h' : H b = none) : a ≠ b := by
  intro e; subst e; rw [h] at h'; cases h'
section
variable (P : Program) (w : World)
def ObjOk (H : Hp) (h : Heap) (a : Addr) : HO → Prop
  | .lst xs => xs.length ≤ sizeLine ∧ ∃ (its : List Value) (n : Nat), Vals xs its ∧ h.get? a = some { cls := .type "list", data := .seq its.toArray n }
  | .tup xs => xs.length ≤ sizeLine ∧ ∃ its : List Value, Vals xs its ∧ IsTup h a its.toArray
  | .dK kvs => kvs.length ≤ sizeLine ∧ (a == sysModules) = false ∧ ∃ vs, KV kvs vs ∧ h.DictOf (mixKind P w) a vs
  | .dT kvs => kvs.length ≤ sizeLine ∧ (a == sysModules) = false ∧ ∃ xs : List (List Key × Addr × Value),
      Paired (fun (p : List Key × V) (q : List Key × Addr × Value) => p.1 = q.1 ∧ H q.2.1 = some (.tup (p.1.map kV)) ∧ RelV p.2 q.2.2) kvs xs ∧
      ∃ o es ep, h.get? a = some o ∧ o.ExactDict ∧ o.data = .dict es ep ∧ es.toList = xs.map (entryOfKey (tupleKind (mixKind P w))) ∧ (xs.map (·.1)).Nodup
  | .set S n => h.SetOf (intKind P w) a S n
  | .ins C dx fs => H dx = some (.own a) ∧ fs.length ≤ 1000 ∧ dx ≠ a ∧ h.get? a = some (PySem.W.instObj C dx) ∧
      ∃ mA, h.Ns1 dx mA ∧ (∀ f, RelO (fs.lookup f) (mA f)) ∧ PySem.Within mA (fs.map (·.1))
  | .own _ => ∃ o, h.get? a = some o
  | .xd fs => ∃ mA, h.Ns1 a mA ∧ ∀ f, RelO (fs.lookup f) (mA f)
  | .rng lo hi => ∃ t u v, h.get? a = some { cls := .type "range", data := .fields #[.int lo t, .int hi u, .int 1 v] }
  | .frz o u => h.get? a = some o ∧ ObjOk H h a u
  | .tbl qs => ∃ ps : Array Value, h.get? a = some { cls := .none, data := .fields ps } ∧ TriplesOk ps.toList ∧ ∀ pos q, (pos, q) ∈ qs →
      codeAmong pos ps.toList = none ∨ ∃ c o u vs t, codeAmong pos ps.toList = some (.ref c) ∧ H c = some (.frz o u) ∧ o.data = .fields vs ∧ vs[1]? = some (.str q t)
  | .cel v => ∃ u, h.IsCell a u ∧ ∀ x, v = some x → ∃ y, u = some y ∧ RelV x y
  | .met f x => h.get? a = some (PySem.W.methodObj (.ref f) (.ref x))
  | .ext φ => φ h ∧ (∃ o, h.get? a = some o) ∧ ∀ h1 h2 : Heap, φ h1 → (∀ o, h1.get? a = some o → h2.get? a = some o) → φ h2
def HOk (H : Hp) (h : Heap) : Prop := ∀ a o, H a = some o → ObjOk P w H h a o
end
section
variable {P : Program} {w : World} {H H' : Hp} {h h' : Heap} {a : Addr} {o : HO}
def Rely : HO → Prop
  | .tup _ => True
  | .frz _ _ => True
  | _ => False
def Fix : HO → Prop
  | .tup _ => True
  | .frz _ _ => True
  | .tbl _ => True
  | .cel _ => True
  | _ => False
theorem ObjOk.lt (x : ObjOk P w H h a o) : a < h.objs.size := by
  cases o with
  | lst xs => obtain ⟨_, _, _, _, e⟩ := x; exact Heap.lt_size e
  | tup xs => obtain ⟨_, _, _, p⟩ := x; exact p.lt
  | dK kvs => obtain ⟨_, _, _, _, o, _, _, e, _⟩ := x; exact Heap.lt_size e
  | dT kvs => obtain ⟨_, _, _, _, o, _, _, e, _⟩ := x; exact Heap.lt_size e
  | set S n => obtain ⟨o, _, _, _, e, _⟩ := x; exact Heap.lt_size e
  | ins C dx fs => obtain ⟨_, _, _, e, _⟩ := x; exact Heap.lt_size e
  | own y => obtain ⟨_, e⟩ := x; exact Heap.lt_size e
  | xd fs => obtain ⟨_, ⟨_, _, _, e, _⟩, _⟩ := x; exact Heap.lt_size e
  | rng lo hi => obtain ⟨_, _, _, e⟩ := x; exact Heap.lt_size e
  | frz ob u => obtain ⟨e, _⟩ := x; exact Heap.lt_size e
  | tbl qs => obtain ⟨_, e, _⟩ := x; exact Heap.lt_size e
  | cel v => obtain ⟨_, ⟨_, e, _⟩, _⟩ := x; exact Heap.lt_size e
  | met f y => exact Heap.lt_size (show h.get? a = some _ from x)
  | ext φ => obtain ⟨_, ⟨_, e⟩, _⟩ := x; exact Heap.lt_size e
theorem Paired.mapP {α β : Type} {F G : α → β → Prop} : ∀ {l₁ : List α} {l₂ : List β}, Paired F l₁ l₂ → (∀ a b, F a b → G a b) → Paired G l₁ l₂
  | _, _, .nil, _ => .nil
  | _, _, .cons r t, f => .cons (f _ _ r) (Paired.mapP t f)
theorem Paired.imp' {α β : Type} {F G : α → β → Prop} (f : ∀ a b, F a b → G a b) {l₁ : List α} {l₂ : List β} (r : Paired F l₁ l₂) : Paired G l₁ l₂ := Paired.mapP r f
theorem ObjOk.stay (x : ObjOk P w H h a o) (k : ∀ b u, (b = a ∨ H b = some (.own a)) → h.get? b = some u → h'.get? b = some u)
    (ho : ∀ b, H b = some (.own a) → H' b = some (.own a)) (ht : ∀ b u, H b = some u → Rely u → H' b = some u) : ObjOk P w H' h' a o := by
  induction o with
  | lst xs => obtain ⟨z, its, n, r, e⟩ := x; exact ⟨z, its, n, r, k _ _ (.inl rfl) e⟩
  | tup xs => obtain ⟨z, its, r, ob, e, c⟩ := x; exact ⟨z, its, r, ob, k _ _ (.inl rfl) e, c⟩
  | dK kvs => obtain ⟨z, y, vs, r, ob, es, ep, e, c⟩ := x; exact ⟨z, y, vs, r, ob, es, ep, k _ _ (.inl rfl) e, c⟩
  | dT kvs =>
    obtain ⟨z, y, xs, r, ob, es, ep, e, c⟩ := x
    exact ⟨z, y, xs, Paired.mapP r fun p q z => ⟨z.1, ht _ _ z.2.1 trivial, z.2.2⟩, ob, es, ep, k _ _ (.inl rfl) e, c⟩
  | set S n => obtain ⟨ob, es, ep, t, e, c⟩ := x; exact ⟨ob, es, ep, t, k _ _ (.inl rfl) e, c⟩
  | ins C dx fs =>
    obtain ⟨d, z, ne, e, mA, ⟨od, es, ep, e2, c⟩, r⟩ := x
    exact ⟨ho _ d, z, ne, k _ _ (.inl rfl) e, mA, ⟨od, es, ep, k _ _ (.inr d) e2, c⟩, r⟩
  | own y => obtain ⟨ob, e⟩ := x; exact ⟨ob, k _ _ (.inl rfl) e⟩
  | xd fs => obtain ⟨mA, ⟨od, es, ep, e, c⟩, r⟩ := x; exact ⟨mA, ⟨od, es, ep, k _ _ (.inl rfl) e, c⟩, r⟩
  | rng lo hi => obtain ⟨t, u, v, e⟩ := x; exact ⟨t, u, v, k _ _ (.inl rfl) e⟩
  | frz ob u ih => obtain ⟨e, q⟩ := x; exact ⟨k _ _ (.inl rfl) e, ih q⟩
  | tbl qs =>
    obtain ⟨ps, e, tr, r⟩ := x
    refine ⟨ps, k _ _ (.inl rfl) e, tr, fun pos q m => ?_⟩
    rcases r pos q m with z | ⟨c, ob, u, vs, t, z1, z2, z3⟩
    · exact .inl z
    · exact .inr ⟨c, ob, u, vs, t, z1, ht _ _ z2 trivial, z3⟩
  | cel v => obtain ⟨u, ⟨ob, e, d⟩, r⟩ := x; exact ⟨u, ⟨ob, k _ _ (.inl rfl) e, d⟩, r⟩
  | met f y =>
    have e : h.get? a = some (PySem.W.methodObj (.ref f) (.ref y)) := x
    show h'.get? a = some (PySem.W.methodObj (.ref f) (.ref y))
    exact k a _ (.inl rfl) e
  | ext φ => obtain ⟨p, ⟨o, e⟩, st⟩ := x; exact ⟨st _ _ p fun o q => k _ _ (.inl rfl) q, ⟨o, k _ _ (.inl rfl) e⟩, st⟩
theorem HOk.lt (x : HOk P w H h) (e : H a = some o) : a < h.objs.size := (x a o e).lt
theorem HOk.fresh (x : HOk P w H h) (e : h.objs.size ≤ a) : H a = none := by
  cases q : H a with
  | none => rfl
  | some u => exact absurd (Nat.lt_of_lt_of_le (x.lt q) e) (Nat.lt_irrefl _)
theorem HOk.kept (x : HOk P w H h) (k : ∀ b u, h.get? b = some u → h'.get? b = some u) : HOk P w H h' := fun a o e =>
  (x a o e).stay (fun b u _ q => k b u q) (fun _ q => q) fun _ _ q _ => q
theorem HOk.laid (x : HOk P w H h) (k : ∀ b u, h.get? b = some u → h'.get? b = some u) (hp : h.objs.size ≤ a) (new : ObjOk P w (upd H a o) h' a o) : HOk P w (upd H a o) h' := fun b u e => by
  have hn := x.fresh hp
  by_cases hb : b = a
  · subst hb; rw [upd_same] at e; cases e; exact new
  · rw [upd_ne hb] at e
    exact (x b u e).stay (fun c v _ q => k c v q) (fun c q => by rw [upd_ne (ne_of_none q hn)]; exact q) fun c xs q _ => by rw [upd_ne (ne_of_none q hn)]; exact q
end
def Rd (H : Hp) (a : Addr) (u : HO) : Prop := H a = some u ∨ ∃ o, H a = some (.frz o u)
theorem Rd.ok {P : Program} {w : World} {H : Hp} {h : Heap} {a : Addr} {u : HO} (r : Rd H a u) (x : HOk P w H h) : ObjOk P w H h a u := by
  rcases r with r | ⟨o, r⟩
  · exact x a u r
  · obtain ⟨_, q⟩ := x a _ r
    exact q
def Mut : Option HO → Prop
  | some (.lst _) => True
  | some (.dK _) => True
  | some (.dT _) => True
  | some (.set _ _) => True
  | some (.ins _ _ _) => True
  | some (.ext _) => True
  | _ => False
section
variable {P : Program} {w : World} {H : Hp} {h h' : Heap} {x e : Addr} {o' : HO}
theorem HOk.write (ok : HOk P w H h) (mu : Mut (H x)) (he : e = x ∨ H e = some (.own x)) (k : ∀ b u, b ≠ e → h.get? b = some u → h'.get? b = some u) (heo : ∃ u, h'.get? e = some u)
    (new : ObjOk P w (upd H x o') h' x o') : HOk P w (upd H x o') h' := fun b u q => by
  have nown : ∀ c y, H c = some (.own y) → c ≠ x := fun c y r z => by subst z; rw [r] at mu; exact mu
  have ntup : ∀ c u, H c = some u → Rely u → c ≠ x := fun c u r hf z => by
    subst z; rw [r] at mu
    cases u <;> first | exact mu | exact hf
  by_cases hb : b = x
  · subst hb; rw [upd_same] at q; cases q; exact new
  · rw [upd_ne hb] at q
    by_cases hbe : b = e
    · have q' : H b = some (.own x) := by
        rcases he with z | z
        · exact absurd (hbe.trans z) hb
        · rw [hbe]; exact z
      rw [q] at q'; cases q'
      obtain ⟨v, hv⟩ := heo
      exact ⟨v, by rw [hbe]; exact hv⟩
    · refine (ok b u q).stay (fun c v hc r => k c v ?_ r) (fun c r => by rw [upd_ne (nown c b r)]; exact r) fun c xs r hf => by rw [upd_ne (ntup c xs r hf)]; exact r
      rcases hc with rfl | hc
      · exact hbe
      · rintro rfl
        rcases he with z | z
        · exact nown c b hc z
        · rw [hc] at z; cases z; exact hb rfl
end
structure Un (fs ex : List Addr) (H H' : Hp) (h h' : Heap) : Prop where
  keep : ∀ b o, h.get? b = some o → H b = none → b ∉ fs → b ∉ ex → h'.get? b = some o
  slot : ∀ b o, h.get? b = some o → H b = none → b ∈ fs → b ∉ ex → ∃ sl, h'.get? b = some { o with slots := sl }
  free : ∀ b o, h.get? b = some o → H b = none → b ∉ ex → H' b = none
  there : ∀ b o, h.get? b = some o → b ∉ ex → ∃ o', h'.get? b = some o'
  fix : ∀ b u, H b = some u → Fix u → H' b = some u
section
variable {fs fs' ex ex' : List Addr} {H H1 H2 : Hp} {h h1 h2 h' : Heap} {a x e : Addr} {o : HO}
theorem Un.any (u : Un fs ex H H1 h h1) {b : Addr} {ob : Obj} (q : h.get? b = some ob) (n : H b = none) (hx : b ∉ ex) : ∃ sl, h1.get? b = some { ob with slots := sl } := by
  by_cases hb : b ∈ fs
  · exact u.slot b ob q n hb hx
  · exact ⟨ob.slots, u.keep b ob q n hb hx⟩
theorem Un.kept (k : ∀ b u, h.get? b = some u → h'.get? b = some u) : Un fs ex H H h h' :=
  ⟨fun b ob q _ _ _ => k b ob q, fun b ob q _ _ _ => ⟨ob.slots, k b ob q⟩, fun _ _ _ n _ => n, fun b ob q _ => ⟨ob, k b ob q⟩, fun _ _ q _ => q⟩
theorem Un.refl : Un fs ex H H h h := Un.kept fun _ _ q => q
theorem Un.laid (k : ∀ b u, h.get? b = some u → h'.get? b = some u) (hp : h.objs.size ≤ a) (hn : H a = none) : Un fs ex H (upd H a o) h h' where
  keep := fun b u q _ _ _ => k b u q
  slot := fun b u q _ _ _ => ⟨u.slots, k b u q⟩
  free := fun b u q n _ => by rw [upd_ne (Nat.ne_of_lt (Nat.lt_of_lt_of_le (Heap.lt_size q) hp))]; exact n
  there := fun b u q _ => ⟨u, k b u q⟩
  fix := fun b u q _ => by rw [upd_ne (ne_of_none q hn)]; exact q
theorem Un.write (mu : Mut (H x)) (he : e = x ∨ H e = some (.own x)) (k : ∀ b u, b ≠ e → h.get? b = some u → h'.get? b = some u) (heo : ∃ u, h'.get? e = some u) : Un fs ex H (upd H x o) h h' := by
  have hx : ∀ b, H b = none → b ≠ x := fun b n z => by subst z; rw [n] at mu; exact mu
  have hb : ∀ b, H b = none → b ≠ e := fun b n z => by
    subst z
    rcases he with r | r
    · exact hx b n r
    · rw [n] at r; cases r
  have hm : ∀ b u, H b = some u → ¬ Mut (some u) → b ≠ x := fun b u q nm z => by subst z; rw [q] at mu; exact nm mu
  refine ⟨fun b u q n _ _ => k b u (hb b n) q, fun b u q n _ _ => ⟨u.slots, k b u (hb b n) q⟩, fun b u q n _ => by rw [upd_ne (hx b n)]; exact n, fun b u q _ => ?_,
    fun b u q hf => by rw [upd_ne (hm b _ q fun z => by cases u <;> first | exact z | exact hf)]; exact q⟩
  by_cases hbe : b = e
  · subst hbe; exact heo
  · exact ⟨u, k b u hbe q⟩
end
def trk (h : Heap) (H : Hp) : List Addr := (List.range h.objs.size).filter fun a => (H a).isSome
def hidT (h : Heap) (H : Hp) : Heap := PySem.W.hideAll h (trk h H)
theorem hidT_size (h : Heap) (H : Hp) : (hidT h H).objs.size = h.objs.size := PySem.W.hideAll_size _ _
theorem hidT_get {h : Heap} {H : Hp} {b : Addr} {o : Obj} (e : h.get? b = some o) (n : H b = none) : (hidT h H).get? b = some o :=
  PySem.W.hideAll_get _ e fun hm => by
    have q : (H b).isSome = true := (List.mem_filter.mp hm).2
    rw [n] at q; simp at q
theorem of_hidT {h : Heap} {H : Hp} {b : Addr} {o : Obj} (e : (hidT h H).get? b = some o) : h.get? b = some o ∧ H b = none := by
  have e' : h.get? b = some o := PySem.W.of_hideAll (trk h H) e
  refine ⟨e', ?_⟩
  cases q : H b with
  | none => rfl
  | some x =>
    have hm : b ∈ trk h H := List.mem_filter.mpr ⟨List.mem_range.mpr (Heap.lt_size e'), by simp [q]⟩
    have z : (hidT h H).get? b = none := PySem.W.hideAll_none (trk h H) hm
    rw [z] at e; cases e
end L2
namespace L2
open PySem PySem.Spec PyProof.Rows
structure Mod (K : PySem.W.Frag) (mg : Str → Option Value) (base : Heap) : Prop where
  kin : K.In base
  glob : base.Ns mainGlobals mg
  blt : ∃ mb, base.Ns builtinsNs mb ∧ ∀ x : Str, x ≠ "__name__" → mb x = bootBuiltins x
  nolimit : base.NoLimit
  bm : ∃ b o, mg "__builtins__" = some (.ref b) ∧ b ≠ builtinsNs ∧ base.get? b = some o ∧ o.cls = .type "module" ∧ o.dict = some builtinsNs ∧ o.data = .plain
structure Cx where
  prog : Program
  w : World
  K : PySem.W.Frag
  mg : Str → Option Value
  base : Heap
  A : Around
  N : List Str
  s₀ : Shared
  H₀ : Hp
  env : Env
  outer : List Env
  stack : List Env
  ex : List Addr
  fn : Str → Bool
  calm : Bool
  pn : List (Addr × Obj)
  xe : Value → Shared → Prop
  cp : Str → Bool
def frs (l : List Env) : List Addr := l.filterMap (·.frame)
abbrev Cx.fs (X : Cx) : List Addr := frs X.outer
def Vis (sc : Scope) (x : Str) : Prop := sc.names.lookup x = some .local ∨ sc.names.lookup x = some .cell ∨ sc.names.lookup x = some .free
def Loc (sc : Scope) (x : Str) : Prop := sc.names.lookup x = some .local ∨ sc.names.lookup x = some .cell
def Look (env : Env) (h : Heap) (m : Str → Option Value) (x : Str) (u : Value) : Prop :=
  (env.kindOf x = some .local ∧ m x = some u) ∨ ((env.kindOf x = some .cell ∨ env.kindOf x = some .free) ∧ ∃ c, env.cells.lookup x = some c ∧ h.IsCell c (some u))
structure Cx.Ok (X : Cx) : Prop where
  mod : Mod X.K X.mg X.base
  kind : X.env.scope.kind = .function
  glob : X.env.globals = mainGlobals
  blt : X.env.builtins = builtinsNs
  above : X.s₀.heap.objs.size ≤ X.env.locals
  inj : ∀ x y c, X.env.cells.lookup x = some c → X.env.cells.lookup y = some c → x = y
  has : ∀ x, (X.env.kindOf x = some .cell ∨ X.env.kindOf x = some .free) → ∃ c, X.env.cells.lookup x = some c
  cab : ∀ x c, X.fn x = true → X.env.cells.lookup x = some c → X.s₀.heap.objs.size ≤ c
  hd : X.calm = true → X.A.handled = none
  frames : X.A.frames = some X.stack
  stk : X.stack = X.outer ∨ (X.stack = X.env :: X.outer ∧ X.env.frame = some X.env.locals)
  exf : ∀ b ∈ X.ex, b ≠ X.env.locals ∧ ∀ x c, X.env.cells.lookup x = some c → c ≠ b
  bs : ∀ b o, X.base.get? b = some o → X.s₀.heap.get? b = some o ∧ X.H₀ b = none
  bsz : X.base.objs.size ≤ X.s₀.heap.objs.size
  noex : ∀ b o, X.base.get? b = some o → b ∉ X.ex
  exfs : ∀ b ∈ X.ex, b ∉ X.fs
  funs : X.s₀.heap.FunFrames X.base X.outer
  frf : ∀ b ∈ X.fs, X.H₀ b = none
  cab2 : ∀ x c, X.cp x = true → X.env.cells.lookup x = some c → X.s₀.heap.objs.size ≤ c
  hz : ∀ b, X.s₀.heap.objs.size ≤ b → X.H₀ b = none
structure Inv (X : Cx) (pins : List (Addr × Obj)) (σ : List (Option V)) (H : Hp) (s : Shared) : Prop where
  ok : X.Ok
  os : s.os = X.s₀.os
  bare : AllBare s.gens
  base : Un X.fs X.ex X.H₀ H X.s₀.heap s.heap
  loc : ∃ m, s.heap.Ns X.env.locals m ∧ ∀ (i : Nat) (x : Str) (v : V), X.N[i]? = some x → σ[i]? = some (some v) → Vis X.env.scope x → ∃ u, RelV v u ∧ Look X.env s.heap m x u
  cell : ∀ x c, X.env.cells.lookup x = some c → ∃ v, s.heap.IsCell c v
  free : H X.env.locals = none
  freeC : ∀ x c, X.env.cells.lookup x = some c → H c = none ∨ (X.fn x = false ∧ ∃ o, H c = some (.cel o) ∧ (o = none → ∀ (i : Nat) v, X.N[i]? = some x → (X.env.kindOf x = some .cell ∨ X.env.kindOf x = some .free) → σ[i]? ≠ some (some v)))
  pin : ∀ p ∈ X.pn ++ pins, s.heap.get? p.1 = some p.2 ∧ H p.1 = none ∧ p.1 ≠ X.env.locals ∧ p.1 ∉ X.fs ∧ ∀ v, p.2.data ≠ .cell v
  hok : HOk X.prog X.w H s.heap
  len : σ.length = X.N.length
section
variable {X : Cx} {pins : List (Addr × Obj)} {σ : List (Option V)} {H H' : Hp} {s : Shared} {h' : Heap}
theorem Cx.Ok.nofr (ok : X.Ok) {b : Addr} {o : Obj} (e : X.base.get? b = some o) : b ∉ X.fs := fun hb => by
  have := (ok.funs.mem hb).1
  rw [e] at this; cases this
theorem Inv.bs (I : Inv X pins σ H s) : ∀ b o, X.base.get? b = some o → s.heap.get? b = some o ∧ H b = none := fun b o e =>
  ⟨I.base.keep b o (I.ok.bs b o e).1 (I.ok.bs b o e).2 (I.ok.nofr e) (I.ok.noex b o e), I.base.free b o (I.ok.bs b o e).1 (I.ok.bs b o e).2 (I.ok.noex b o e)⟩
theorem Inv.bk (I : Inv X pins σ H s) : ∀ b o, X.base.get? b = some o → s.heap.get? b = some o := fun b o e => (I.bs b o e).1
theorem Inv.mod (I : Inv X pins σ H s) : Mod X.K X.mg X.base := I.ok.mod
theorem Inv.kIn (I : Inv X pins σ H s) : X.K.In s.heap := I.ok.mod.kin.keeps I.bk
theorem Inv.lt (I : Inv X pins σ H s) : X.env.locals < s.heap.objs.size := let ⟨_, hn, _⟩ := I.loc; hn.lt
theorem Inv.sz (I : Inv X pins σ H s) : X.s₀.heap.objs.size ≤ s.heap.objs.size := Nat.le_trans I.ok.above (Nat.le_of_lt I.lt)
theorem Inv.nofs (I : Inv X pins σ H s) {a : Addr} (h : s.heap.objs.size ≤ a) : a ∉ X.fs := fun hb => by
  obtain ⟨_, o, ho, _⟩ := I.ok.funs.mem hb
  exact absurd (Nat.lt_of_lt_of_le (Heap.lt_size ho) (Nat.le_trans I.sz h)) (Nat.lt_irrefl _)
theorem Inv.cne (I : Inv X pins σ H s) : ∀ x c, X.env.cells.lookup x = some c → c ≠ X.env.locals := fun x c e z => by
  obtain ⟨v, o, ho, hd⟩ := I.cell x c e
  obtain ⟨m, ⟨o', es, ep, ho', hd', _⟩, _⟩ := I.loc
  rw [z, ho'] at ho; cases ho; rw [hd'] at hd; cases hd
theorem Inv.funs (I : Inv X pins σ H s) : s.heap.FunFrames X.base X.outer := by
  have all : ∀ (l : List Env), (∀ b ∈ frs l, b ∈ X.fs) → X.s₀.heap.FunFrames X.base l → s.heap.FunFrames X.base l := by
    intro l
    induction l with
    | nil => intro _ _; trivial
    | cons env r ih =>
      intro hs hl
      obtain ⟨hk, ⟨L, o, hf, hn, ho, hd⟩, hr⟩ := hl
      have hL : L ∈ X.fs := hs L (by unfold frs; rw [List.filterMap_cons, hf]; exact List.mem_cons_self)
      obtain ⟨sl, e⟩ := I.base.slot L o ho (I.ok.frf L hL) hL fun z => I.ok.exfs L z hL
      exact ⟨hk, ⟨L, _, hf, hn, e, hd⟩, ih (fun b hb => hs b (by unfold frs; rw [List.filterMap_cons, hf]; exact List.mem_cons_of_mem _ hb)) hr⟩
  exact all X.outer (fun _ hb => hb) I.ok.funs
theorem Inv.stack (I : Inv X pins σ H s) : s.heap.FunFrames X.base X.stack := by
  rcases I.ok.stk with e | ⟨e, hf⟩
  · rw [e]; exact I.funs
  · rw [e]
    obtain ⟨m, hn, _⟩ := I.loc
    refine .cons (by rw [I.ok.kind]; decide) hf hn ?_ I.funs
    exact Heap.get?_none_of_le (Nat.le_trans I.ok.bsz I.ok.above)
theorem Inv.stkSub (I : Inv X pins σ H s) : ∀ b ∈ frs X.stack, b ∈ X.env.locals :: X.fs := fun b hb => by
  rcases I.ok.stk with e | ⟨e, hf⟩
  · rw [e] at hb; exact List.mem_cons_of_mem _ hb
  · rw [e] at hb
    unfold frs at hb
    rw [List.filterMap_cons, hf] at hb
    exact hb
theorem Inv.stkFree (I : Inv X pins σ H s) : ∀ b ∈ frs X.stack, H b = none := fun b hb => by
  rcases List.mem_cons.mp (I.stkSub b hb) with e | hb
  · rw [e]; exact I.free
  · obtain ⟨_, o, ho, _⟩ := I.ok.funs.mem hb
    exact I.base.free b o ho (I.ok.frf b hb) fun z => I.ok.exfs b z hb
theorem Inv.step {g' : Array GenState} {t' : Nat} {d' : Drawn} {ch : List Addr} (I : Inv X pins σ H s)
    (hch : ∀ b ∈ ch, (b ∈ X.ex ∨ X.s₀.heap.objs.size ≤ b) ∧ b ≠ X.env.locals ∧ (∀ x c, X.env.cells.lookup x = some c → c ≠ b) ∧ ∀ p ∈ X.pn ++ pins, p.1 ≠ b)
    (keep : ∀ b o, b ≠ X.env.locals → b ∉ X.fs → b ∉ ch → s.heap.get? b = some o → H b = none → h'.get? b = some o)
    (slot : ∀ b o, b ≠ X.env.locals → b ∈ X.fs → b ∉ ch → s.heap.get? b = some o → H b = none → ∃ sl, h'.get? b = some { o with slots := sl }) (free : ∀ b o, b ∉ ch → s.heap.get? b = some o → H b = none → H' b = none)
    (there : ∀ b o, b ∉ ch → s.heap.get? b = some o → ∃ o', h'.get? b = some o')
    (fix : ∀ b u, H b = some u → Fix u → H' b = some u)
    (ns : ∀ m, s.heap.Ns X.env.locals m → h'.Ns X.env.locals m) (hok : HOk X.prog X.w H' h') (hg : AllBare g') :
    Inv X pins σ H' { s with heap := h', gens := g', drawn := d', toks := t' } := by
  have neL : ∀ b o, X.s₀.heap.get? b = some o → b ≠ X.env.locals := fun b o e => Nat.ne_of_lt (Nat.lt_of_lt_of_le (Heap.lt_size e) I.ok.above)
  have neC : ∀ b o, X.s₀.heap.get? b = some o → b ∉ X.ex → b ∉ ch := fun b o e hx hb => by
    rcases (hch b hb).1 with z | z
    · exact hx z
    · exact absurd (Nat.lt_of_lt_of_le (Heap.lt_size e) z) (Nat.lt_irrefl _)
  have cellK : ∀ x c, X.env.cells.lookup x = some c → H c = none → ∀ v, s.heap.IsCell c v → h'.IsCell c v := fun x c e hn v ⟨o, ho, hd⟩ => by
    have nch : c ∉ ch := fun z => (hch c z).2.2.1 x c e rfl
    by_cases hc : c ∈ X.fs
    · obtain ⟨sl, q⟩ := slot c o (I.cne x c e) hc nch ho hn
      exact ⟨_, q, hd⟩
    · exact ⟨o, keep c o (I.cne x c e) hc nch ho hn, hd⟩
  refine ⟨I.ok, I.os, hg, ⟨fun b o e n hb hx => ?_, fun b o e n hb hx => ?_, fun b o e n hx => ?_, fun b o e hx => ?_, fun b u e f => fix b u (I.base.fix b u e f) f⟩, ?_, fun x c e => ?_, ?_, fun x c e => ?_, fun p hp => ?_, hok, I.len⟩
  · exact keep b o (neL b o e) hb (neC b o e hx) (I.base.keep b o e n hb hx) (I.base.free b o e n hx)
  · obtain ⟨sl, e1⟩ := I.base.slot b o e n hb hx
    obtain ⟨sl', e2⟩ := slot b _ (neL b o e) hb (neC b o e hx) e1 (I.base.free b o e n hx)
    exact ⟨sl', e2⟩
  · obtain ⟨o', e1⟩ := I.base.there b o e hx
    exact free b o' (neC b o e hx) e1 (I.base.free b o e n hx)
  · obtain ⟨o', e1⟩ := I.base.there b o e hx
    exact there b o' (neC b o e hx) e1
  · obtain ⟨m, hn, hl⟩ := I.loc
    refine ⟨m, ns m hn, fun i x v e1 e2 e3 => ?_⟩
    obtain ⟨u, r, l⟩ := hl i x v e1 e2 e3
    rcases l with l | ⟨k, c, e, z⟩
    · exact ⟨u, r, .inl l⟩
    · rcases I.freeC x c e with hn' | ⟨_, o, ho, hno⟩
      · exact ⟨u, r, .inr ⟨k, c, e, cellK x c e hn' _ z⟩⟩
      · cases o with
        | none => exact absurd e2 (hno rfl i v e1 k)
        | some v' =>
          obtain ⟨y, hy, hr⟩ := I.hok c _ ho
          obtain ⟨y', hy', hr'⟩ := hok c _ (fix c _ ho trivial)
          obtain ⟨y2, rfl, r2⟩ := hr v' rfl
          obtain ⟨y3, rfl, r3⟩ := hr' v' rfl
          have : v = v' := RelV.fn r (by
            obtain ⟨o1, q1, q2⟩ := z
            obtain ⟨o2, q3, q4⟩ := hy
            rw [q1] at q3; cases q3
            rw [q2] at q4; cases q4
            exact r2)
          subst this
          exact ⟨y3, r3, .inr ⟨k, c, e, hy'⟩⟩
  · rcases I.freeC x c e with hn' | ⟨_, o, ho, _⟩
    · obtain ⟨v, z⟩ := I.cell x c e
      exact ⟨v, cellK x c e hn' v z⟩
    · obtain ⟨y', hy', _⟩ := hok c _ (fix c _ ho trivial)
      exact ⟨y', hy'⟩
  · obtain ⟨m, ⟨o, _, _, ho, _⟩, _⟩ := I.loc
    exact free _ o (fun z => (hch _ z).2.1 rfl) ho I.free
  · rcases I.freeC x c e with hn' | ⟨hf, o, ho, hno⟩
    · obtain ⟨v, o, ho, hd⟩ := I.cell x c e
      exact .inl (free c o (fun z => (hch c z).2.2.1 x c e rfl) ho hn')
    · exact .inr ⟨hf, o, fix c _ ho trivial, hno⟩
  · obtain ⟨e, n, ne, nf, d⟩ := I.pin p hp
    have nch : p.1 ∉ ch := fun z => (hch p.1 z).2.2.2 p hp rfl
    exact ⟨keep p.1 p.2 ne nf nch e n, free p.1 p.2 nch e n, ne, nf, d⟩
theorem Inv.un {t' : Nat} (I : Inv X pins σ H s) (u : Un X.fs [] H H' s.heap h') (hok : HOk X.prog X.w H' h') : Inv X pins σ H' { s with heap := h', toks := t' } := by
  obtain ⟨m, ⟨o, es, ep, ho, r⟩, _⟩ := id I.loc
  obtain ⟨sl, hL⟩ := u.any ho I.free (by simp)
  exact I.step (g' := s.gens) (d' := s.drawn) (ch := []) (fun _ z => nomatch z) (fun b o _ hb _ e n => u.keep b o e n hb (by simp)) (fun b o _ hb _ e n => u.slot b o e n hb (by simp)) (fun b o _ e n => u.free b o e n (by simp)) (fun b o _ e => u.there b o e (by simp)) u.fix (fun m' hm => by
    obtain ⟨o', es', ep', ho', r'⟩ := hm
    rw [ho] at ho'; cases ho'
    exact ⟨_, es', ep', hL, r'⟩) hok I.bare
theorem Inv.call {g' : Array GenState} {t' : Nat} {d' : Drawn} {ch : List Addr} (I : Inv X pins σ H s) (u : Un (frs X.stack) ch H H' s.heap h') (hok : HOk X.prog X.w H' h') (hg : AllBare g')
    (hch : ∀ b ∈ ch, (b ∈ X.ex ∨ X.s₀.heap.objs.size ≤ b) ∧ b ≠ X.env.locals ∧ (∀ x c, X.env.cells.lookup x = some c → c ≠ b) ∧ ∀ p ∈ X.pn ++ pins, p.1 ≠ b) :
    Inv X pins σ H' { s with heap := h', gens := g', drawn := d', toks := t' } := by
  obtain ⟨m, ⟨o, es, ep, ho, r⟩, _⟩ := id I.loc
  obtain ⟨sl, hL⟩ := u.any ho I.free fun z => (hch _ z).2.1 rfl
  exact I.step (ch := ch) hch (fun b o hL hb hc e n => u.keep b o e n (fun z => (List.mem_cons.mp (I.stkSub b z)).elim hL hb) hc) (fun b o _ _ hc e n => u.any e n hc) (fun b o hc e n => u.free b o e n hc) (fun b o hc e => u.there b o e hc) u.fix (fun m' hm => by
    obtain ⟨o', es', ep', ho', r'⟩ := hm
    rw [ho] at ho'; cases ho'
    exact ⟨_, es', ep', hL, r'⟩) hok hg
theorem Inv.turned {t' : Nat} {it : Addr} (I : Inv X pins σ H s) (k : ∀ b o, b ≠ it → s.heap.get? b = some o → h'.get? b = some o) (hn : H it = none) (hL : it ≠ X.env.locals)
    (h1 : it ∈ X.ex ∨ X.s₀.heap.objs.size ≤ it) (h2 : ∀ x c, X.env.cells.lookup x = some c → c ≠ it) (h3 : ∀ p ∈ X.pn ++ pins, p.1 ≠ it) : Inv X pins σ H { s with heap := h', toks := t' } := by
  have nit : ∀ b u, H b = some u → b ≠ it := fun b u e z => by rw [z, hn] at e; cases e
  refine I.step (g' := s.gens) (d' := s.drawn) (ch := [it]) (fun b hb => ?_) (fun b o _ _ hc e _ => k b o (fun z => hc (by simp [z])) e) (fun b o _ _ hc e _ => ⟨o.slots, k b o (fun z => hc (by simp [z])) e⟩) (fun _ _ _ _ n => n)
    (fun b o hc e => ⟨o, k b o (fun z => hc (by simp [z])) e⟩) (fun _ _ e _ => e) (fun m hm => ?_) (fun b u e => ?_) I.bare
  · have e : b = it := by simpa using hb
    subst e
    exact ⟨h1, hL, h2, h3⟩
  · obtain ⟨o, es, ep, ho, r⟩ := hm
    exact ⟨o, es, ep, k _ o (Ne.symm hL) ho, r⟩
  · refine (I.hok b u e).stay (fun c v hc q => k c v ?_ q) (fun _ q => q) fun _ _ q _ => q
    rcases hc with z | z
    · rw [z]; exact nit b u e
    · exact nit c _ z
theorem Inv.tok (I : Inv X pins σ H s) (t : Nat) : Inv X pins σ H { s with toks := t } := I.un (h' := s.heap) (t' := t) Un.refl I.hok
theorem Inv.kept {t' : Nat} (I : Inv X pins σ H s) (k : ∀ b u, s.heap.get? b = some u → h'.get? b = some u) : Inv X pins σ H { s with heap := h', toks := t' } := I.un (Un.kept k) (I.hok.kept k)
theorem Inv.laid {a : Addr} {o : HO} {t' : Nat} (I : Inv X pins σ H s) (k : ∀ b u, s.heap.get? b = some u → h'.get? b = some u) (hp : s.heap.objs.size ≤ a) (new : ObjOk X.prog X.w (upd H a o) h' a o) :
    Inv X pins σ (upd H a o) { s with heap := h', toks := t' } := I.un (Un.laid k hp (I.hok.fresh hp)) (I.hok.laid k hp new)
theorem Inv.write {x e : Addr} {o : HO} {t' : Nat} (I : Inv X pins σ H s) (mu : Mut (H x)) (he : e = x ∨ H e = some (.own x)) (k : ∀ b u, b ≠ e → s.heap.get? b = some u → h'.get? b = some u) (heo : ∃ u, h'.get? e = some u)
    (new : ObjOk X.prog X.w (upd H x o) h' x o) : Inv X pins σ (upd H x o) { s with heap := h', toks := t' } := I.un (Un.write mu he k heo) (I.hok.write mu he k heo new)
theorem Inv.weak {σ' : List (Option V)} (I : Inv X pins σ H s) (hl : σ'.length = σ.length) (w : ∀ (i : Nat) v, σ'[i]? = some (some v) → σ[i]? = some (some v)) : Inv X pins σ' H s :=
  ⟨I.ok, I.os, I.bare, I.base, let ⟨m, hn, hl'⟩ := I.loc; ⟨m, hn, fun i x v e1 e2 e3 => hl' i x v e1 (w i v e2) e3⟩, I.cell, I.free, fun x c e => (I.freeC x c e).imp id fun ⟨hf, o, ho, hno⟩ => ⟨hf, o, ho, fun z i v e1 k e2 => hno z i v e1 k (w i v e2)⟩, I.pin, I.hok, hl.trans I.len⟩
theorem Inv.pins_of {pins' : List (Addr × Obj)} (I : Inv X pins σ H s) (h : ∀ p ∈ pins', s.heap.get? p.1 = some p.2 ∧ H p.1 = none ∧ p.1 ≠ X.env.locals ∧ p.1 ∉ X.fs ∧ ∀ v, p.2.data ≠ .cell v) : Inv X pins' σ H s :=
  ⟨I.ok, I.os, I.bare, I.base, I.loc, I.cell, I.free, I.freeC, fun p hp => (List.mem_append.mp hp).elim (fun z => I.pin p (List.mem_append_left _ z)) (h p), I.hok, I.len⟩
theorem nodup_ix {N : List Str} (hN : N.Nodup) {i j : Nat} {x : Str} (a : N[i]? = some x) (b : N[j]? = some x) : i = j := by
  obtain ⟨h1, e1⟩ := List.getElem?_eq_some_iff.mp a
  obtain ⟨h2, e2⟩ := List.getElem?_eq_some_iff.mp b
  exact (List.getElem_inj hN).mp (e1.trans e2.symm)
theorem store_ok2 {M : Model} {A : Around} {E : Value → Shared → Prop} {i : Nat} {x : Str} {v : V} {u : Value} {Q : Unit → Shared → Prop} (I : Inv X pins σ H s) (hN : X.N.Nodup) (hi : X.N[i]? = some x) (hx : Loc X.env.scope x) (r : RelV v u)
    (h : ∀ s', Inv X pins (σ.set i (some v)) H s' → (∃ a, Heap.SameBut a s.heap s'.heap ∧ (a = X.env.locals ∨ X.env.cells.lookup x = some a)) → Q () s') (hf : X.fn x = true ∨ X.env.scope.names.lookup x = some .local := by first | exact .inl rfl | exact .inr rfl | assumption) : wpAny M A (storeName X.env x u) Q E s := by
  obtain ⟨m, hn, hl⟩ := id I.loc
  have hcls : (X.env.scope.kind == .class || (X.env.scope.kind == .module && X.env.locals != X.env.globals)) = false := by rw [I.ok.kind]; rfl
  have hiσ : i < σ.length := by rw [I.len]; exact (List.getElem?_eq_some_iff.mp hi).1
  have cne := I.cne
  have tracked : ∀ {a : Addr} {h' : Heap}, (∃ o, s.heap.get? a = some o ∧ H a = none) → Heap.SameBut a s.heap h' → HOk X.prog X.w H h' := fun {a h'} ha hs b ob e => by
    obtain ⟨_, _, hfree⟩ := ha
    refine (I.hok b ob e).stay (fun c w' hc q => (hs.2 c ?_).trans q) (fun _ q => q) fun _ _ q _ => q
    rintro rfl
    rcases hc with rfl | hc
    · rw [hfree] at e; cases e
    · rw [hfree] at hc; cases hc
  rcases hx with hk | hk
  · refine wpAny_storeName_local hk hn (fun h' hn' hs => ?_) hcls
    obtain ⟨oL, _, _, hoL, _⟩ := id hn
    refine h _ ⟨I.ok, I.os, I.bare, ⟨fun b o e n hb hx => ?_, fun b o e n hb hx => ?_, I.base.free, fun b o e hx => ?_, I.base.fix⟩, ⟨_, hn', fun j y v' e1 e2 e3 => ?_⟩, fun y c e => ?_, I.free, fun y c e => ?_, fun p hp => ?_, tracked ⟨oL, hoL, I.free⟩ hs, by simpa using I.len⟩ ⟨_, hs, .inl rfl⟩
    · exact (hs.2 b (Nat.ne_of_lt (Nat.lt_of_lt_of_le (Heap.lt_size e) I.ok.above))).trans (I.base.keep b o e n hb hx)
    · obtain ⟨sl, e1⟩ := I.base.slot b o e n hb hx
      exact ⟨sl, (hs.2 b (Nat.ne_of_lt (Nat.lt_of_lt_of_le (Heap.lt_size e) I.ok.above))).trans e1⟩
    · obtain ⟨o', e1⟩ := I.base.there b o e hx
      exact ⟨o', (hs.2 b (Nat.ne_of_lt (Nat.lt_of_lt_of_le (Heap.lt_size e) I.ok.above))).trans e1⟩
    · by_cases hj : j = i
      · subst hj
        rw [hi] at e1; cases e1
        rw [List.getElem?_set_self hiσ] at e2
        cases e2
        exact ⟨u, r, .inl ⟨hk, by simp⟩⟩
      · rw [List.getElem?_set_ne (Ne.symm hj)] at e2
        obtain ⟨u', r', q⟩ := hl j y v' e1 e2 e3
        refine ⟨u', r', ?_⟩
        rcases q with ⟨k, e⟩ | ⟨k, c, e, z⟩
        · refine .inl ⟨k, ?_⟩
          have : y ≠ x := fun e => hj (nodup_ix hN e1 (e ▸ hi))
          simp [this, e]
        · exact .inr ⟨k, c, e, z.sameBut hs (cne y c e)⟩
    · obtain ⟨w', z⟩ := I.cell y c e
      exact ⟨w', z.sameBut hs (cne y c e)⟩
    · refine (I.freeC y c e).imp id fun ⟨hf', o', ho', hno⟩ => ⟨hf', o', ho', fun z j v' e1 k e2 => ?_⟩
      by_cases hj : j = i
      · subst hj
        rw [hi] at e1; cases e1
        have hk' : X.env.kindOf x = some .local := hk
        rw [hk'] at k
        rcases k with k | k <;> cases k
      · rw [List.getElem?_set_ne (Ne.symm hj)] at e2
        exact hno z j v' e1 k e2
    · obtain ⟨e, n, ne, nf, d⟩ := I.pin p hp
      exact ⟨(hs.2 p.1 ne).trans e, n, ne, nf, d⟩
  · have hfn : X.fn x = true := by
      rcases hf with z | z
      · exact z
      · rw [z] at hk; cases hk
    obtain ⟨c, hc⟩ := I.ok.has x (.inl hk)
    have hHc : H c = none := by
      rcases I.freeC x c hc with z | ⟨z, _⟩
      · exact z
      · rw [hfn] at z; cases z
    obtain ⟨w', z⟩ := I.cell x c hc
    refine wpAny_storeName_cell I.ok.kind hk hc z (fun h' hc' hs => ?_)
    obtain ⟨oc, hoc, hocd⟩ := id z
    refine h { s with heap := h' } ⟨I.ok, I.os, I.bare, ⟨fun b o e n hb hx => ?_, fun b o e n hb hx => ?_, I.base.free, fun b o e hx => ?_, I.base.fix⟩, ⟨m, hn.sameBut hs (Ne.symm (cne x c hc)), fun j y v' e1 e2 e3 => ?_⟩, fun y c' e => ?_, I.free, fun y c' e => ?_, fun p hp => ?_, tracked ⟨oc, hoc, hHc⟩ hs, by simpa using I.len⟩ ⟨c, hs, .inr hc⟩
    · exact (hs.2 b (Nat.ne_of_lt (Nat.lt_of_lt_of_le (Heap.lt_size e) (I.ok.cab x c hfn hc)))).trans (I.base.keep b o e n hb hx)
    · obtain ⟨sl, e1⟩ := I.base.slot b o e n hb hx
      exact ⟨sl, (hs.2 b (Nat.ne_of_lt (Nat.lt_of_lt_of_le (Heap.lt_size e) (I.ok.cab x c hfn hc)))).trans e1⟩
    · obtain ⟨o', e1⟩ := I.base.there b o e hx
      exact ⟨o', (hs.2 b (Nat.ne_of_lt (Nat.lt_of_lt_of_le (Heap.lt_size e) (I.ok.cab x c hfn hc)))).trans e1⟩
    · by_cases hj : j = i
      · subst hj
        rw [hi] at e1; cases e1
        rw [List.getElem?_set_self hiσ] at e2
        cases e2
        exact ⟨u, r, .inr ⟨.inl hk, c, hc, hc'⟩⟩
      · rw [List.getElem?_set_ne (Ne.symm hj)] at e2
        obtain ⟨u', r', q⟩ := hl j y v' e1 e2 e3
        refine ⟨u', r', ?_⟩
        rcases q with q | ⟨k, c', e, z'⟩
        · exact .inl q
        · refine .inr ⟨k, c', e, z'.sameBut hs ?_⟩
          rintro rfl
          exact hj (nodup_ix hN e1 (I.ok.inj _ _ _ e hc ▸ hi))
    · by_cases hcc : c' = c
      · subst hcc; exact ⟨_, hc'⟩
      · obtain ⟨w2, z2⟩ := I.cell y c' e
        exact ⟨w2, z2.sameBut hs hcc⟩
    · refine (I.freeC y c' e).imp id fun ⟨hf', o', ho', hno⟩ => ⟨hf', o', ho', fun z j v' e1 k e2 => ?_⟩
      by_cases hj : j = i
      · subst hj
        rw [hi] at e1; cases e1
        rw [hfn] at hf'; cases hf'
      · rw [List.getElem?_set_ne (Ne.symm hj)] at e2
        exact hno z j v' e1 k e2
    · obtain ⟨e, n, ne, nf, d⟩ := I.pin p hp
      refine ⟨(hs.2 p.1 ?_).trans e, n, ne, nf, d⟩
      intro q
      rw [q, hoc] at e
      have q' : oc = p.2 := Option.some.inj e
      exact d w' (by rw [← q']; exact hocd)
theorem store_ok {M : Model} {A : Around} {E : Value → Shared → Prop} {i : Nat} {x : Str} {v : V} {u : Value} {Q : Unit → Shared → Prop} (I : Inv X pins σ H s) (hN : X.N.Nodup) (hi : X.N[i]? = some x) (hx : Loc X.env.scope x) (r : RelV v u)
    (h : ∀ s', Inv X pins (σ.set i (some v)) H s' → Q () s') (hf : X.fn x = true ∨ X.env.scope.names.lookup x = some .local := by first | exact .inl rfl | exact .inr rfl | assumption) : wpAny M A (storeName X.env x u) Q E s :=
  store_ok2 I hN hi hx r (fun s' I' _ => h s' I') hf
theorem Inv.call' {s' : Shared} {ch : List Addr} (I : Inv X pins σ H s) (ho : s'.os = s.os) (u : Un (frs X.stack) ch H H' s.heap s'.heap) (hok : HOk X.prog X.w H' s'.heap) (hg : AllBare s'.gens)
    (hch : ∀ b ∈ ch, (b ∈ X.ex ∨ X.s₀.heap.objs.size ≤ b) ∧ b ≠ X.env.locals ∧ (∀ x c, X.env.cells.lookup x = some c → c ≠ b) ∧ ∀ p ∈ X.pn ++ pins, p.1 ≠ b) : Inv X pins σ H' s' := by
  obtain ⟨h', g', d', t', o'⟩ := s'
  have e : o' = s.os := ho
  subst e
  exact I.call (g' := g') (t' := t') (d' := d') u hok hg hch
end
abbrev XK := Value → Option Addr → Hp → Prop
abbrev St := List (Option V)
abbrev VK := V → Hp → Prop
abbrev TE := St → Hp → VK → Prop
abbrev TT := St → Hp → (Bool → Hp → Prop) → Prop
abbrev TA := St → Hp → (List V → Hp → Prop) → Prop
structure Ends where
  nx : St → Hp → Prop
  rt : VK
  bk : St → Hp → Prop := fun _ _ => False
  ct : St → Hp → Prop := fun _ _ => False
abbrev TS := Ends → St → Hp → Prop
def EP (X : Cx) (pins : List (Addr × Obj)) (σ : St) (Q : VK) (u : Value) (s' : Shared) : Prop := ∃ v H', Inv X pins σ H' s' ∧ RelV v u ∧ Q v H'
def TP (X : Cx) (pins : List (Addr × Obj)) (σ : St) (Q : Bool → Hp → Prop) (b : Bool) (s' : Shared) : Prop := ∃ H', Inv X pins σ H' s' ∧ Q b H'
def AP (X : Cx) (pins : List (Addr × Obj)) (σ : St) (Q : List V → Hp → Prop) (us : List Value) (s' : Shared) : Prop := ∃ vs H', Inv X pins σ H' s' ∧ Vals vs us ∧ Q vs H'
def SP (X : Cx) (pins : List (Addr × Obj)) (D : Ends) (f : Flow) (s' : Shared) : Prop :=
  match f with
  | .next => ∃ σ' H', Inv X pins σ' H' s' ∧ D.nx σ' H'
  | .brk => ∃ σ' H', Inv X pins σ' H' s' ∧ D.bk σ' H'
  | .cont => ∃ σ' H', Inv X pins σ' H' s' ∧ D.ct σ' H'
  | .ret u => ∃ v σ' H', Inv X pins σ' H' s' ∧ RelV v u ∧ D.rt v H'
def PE (X : Cx) (e : Expr) (t : TE) : Prop :=
  ∀ (pins : List (Addr × Obj)) (s : Shared) (σ : St) (H : Hp) (Q : VK), Inv X pins σ H s → t σ H Q → wpAny (model X.prog X.w) X.A (eval e X.env) (EP X pins σ Q) X.xe s
def PT (X : Cx) (e : Expr) (t : TT) : Prop :=
  ∀ (pins : List (Addr × Obj)) (s : Shared) (σ : St) (H : Hp) (Q : Bool → Hp → Prop), Inv X pins σ H s → t σ H Q → wpAny (model X.prog X.w) X.A (isTrue e X.env (eval e X.env)) (TP X pins σ Q) X.xe s
def PW (X : Cx) (e : Expr) (t : TT) : Prop :=
  ∀ (whole : Sem Value) (pins : List (Addr × Obj)) (s : Shared) (σ : St) (H : Hp) (Q : Bool → Hp → Prop), Inv X pins σ H s → t σ H Q → wpAny (model X.prog X.w) X.A (isTrue e X.env whole) (TP X pins σ Q) X.xe s
theorem PW.pt {X : Cx} {e : Expr} {t : TT} (h : PW X e t) : PT X e t := h _
def PA (X : Cx) (es : List Expr) (t : TA) : Prop :=
  ∀ (pos : Pos) (pins : List (Addr × Obj)) (s : Shared) (σ : St) (H : Hp) (Q : List V → Hp → Prop), Inv X pins σ H s → t σ H Q → wpAny (model X.prog X.w) X.A (spliced (backTo pos (starEach es X.env))) (AP X pins σ Q) X.xe s
def PS (X : Cx) (st : Stmt) (t : TS) : Prop :=
  ∀ (pins : List (Addr × Obj)) (s : Shared) (σ : St) (H : Hp) (D : Ends), Inv X pins σ H s → t D σ H → wpAny (model X.prog X.w) X.A (exec st X.env) (SP X pins D) X.xe s
def PSs (X : Cx) (st : List Stmt) (t : TS) : Prop :=
  ∀ (pins : List (Addr × Obj)) (s : Shared) (σ : St) (H : Hp) (D : Ends), Inv X pins σ H s → t D σ H → wpAny (model X.prog X.w) X.A (execs st X.env) (SP X pins D) X.xe s
theorem thn {α : Type} {t : Sem α} {Q Q' : α → Shared → Prop} {M : Model} {A : Around} {E : Value → Shared → Prop} {s : Shared} (h : wpAny M A t Q E s) (hQ : ∀ a s, Q a s → Q' a s) : wpAny M A t Q' E s := wpAny_mono h hQ fun _ _ x => x
end L2
namespace L2
open PySem PySem.Spec PyProof.Rows
section
variable {X : Cx}
def tVar (i : Nat) : TE := fun σ H Q => ∃ v, σ[i]? = some (some v) ∧ Q v H
def tC (v : V) : TE := fun _ H Q => Q v H
theorem pe_var {i : Nat} {x : Str} {pos : Pos} (hN : X.N[i]? = some x) (hv : Vis X.env.scope x) (hd : (x == ("__debug__" : Str)) = false := by decide) (hcd : (x == ("__classdict__" : Str)) = false := by decide) : PE X (.Name x pos) (tVar i) := by
  intro pins s σ H Q I h
  obtain ⟨v, e, h⟩ := h
  obtain ⟨m, hn, hl⟩ := I.loc
  obtain ⟨u, r, l⟩ := hl i x v hN e hv
  have fin : EP X pins σ Q u s := ⟨v, H, I, r, h⟩
  rcases l with ⟨hk, hm⟩ | ⟨hk, c, hc, hcell⟩
  · exact wpAny_Name (wpAny_loadName_local I.ok.kind hk hn hm fin) hd
  · rcases hk with hk | hk
    · exact wpAny_Name (wpAny_loadName_cell I.ok.kind hk hc hcell fin) hd
    · exact wpAny_Name (wpAny_loadName_free I.ok.kind hk hc hcell fin hcd) hd
theorem pe_int {i j pos} : PE X (.Constant (.int i) j pos) (tC (.int i)) := fun _ _ _ H _ I h => wpAny_Constant_int ⟨.int i, H, I.tok _, ⟨_, rfl⟩, h⟩
theorem pe_bl {b j pos} : PE X (.Constant (.bool b) j pos) (tC (.bl b)) := fun _ _ _ H _ I h => Constant_bool ⟨.bl b, H, I, rfl, h⟩
theorem pe_non {j pos} : PE X (.Constant .none j pos) (tC .non) := fun _ _ _ H _ I h => Constant_none ⟨.non, H, I, rfl, h⟩
theorem pe_str {x j pos} : PE X (.Constant (.str x) j pos) (tC (.str x)) := fun _ _ _ H _ I h => Calls.Constant_str ⟨.str x, H, I.tok _, ⟨_, rfl⟩, h⟩
def Gl (X : Cx) (x : Str) : Prop := X.env.kindOf x = some .globalImplicit
theorem ld_glob {E : Value → Shared → Prop} {pins : List (Addr × Obj)} {s : Shared} {σ : St} {H : Hp} {x : Str} {u : Value} {pos : Pos} {Q : Value → Shared → Prop} (I : Inv X pins σ H s) (hg : Gl X x) (hm : X.mg x = some u) (h : Q u s)
    (hd : (x == ("__debug__" : Str)) = false := by decide) : wpAny (model X.prog X.w) X.A (eval (.Name x pos) X.env) Q E s :=
  Calls.Name_function_global I.ok.kind hg (Calls.loadGlobal_global (by rw [I.ok.glob]; exact I.mod.glob.keeps I.bk) hm h) hd
theorem ld_blt {E : Value → Shared → Prop} {pins : List (Addr × Obj)} {s : Shared} {σ : St} {H : Hp} {x : Str} {u : Value} {pos : Pos} {Q : Value → Shared → Prop} (I : Inv X pins σ H s) (hg : Gl X x) (hm : X.mg x = none) (hv : bootBuiltins x = some u) (h : Q u s)
    (hn : x ≠ "__name__" := by decide) (hd : (x == ("__debug__" : Str)) = false := by decide) : wpAny (model X.prog X.w) X.A (eval (.Name x pos) X.env) Q E s := by
  obtain ⟨mb, h1, h2⟩ := I.mod.blt
  exact Calls.Name_function_global I.ok.kind hg (Calls.loadGlobal_builtin (by rw [I.ok.glob]; exact I.mod.glob.keeps I.bk) hm (by rw [I.ok.blt]; exact h1.keeps I.bk) ((h2 x hn).trans hv) h) hd
theorem pe_glob {x : Str} {v : V} {u : Value} {pos : Pos} (hg : Gl X x) (hm : X.mg x = some u) (r : RelV v u) (hd : (x == ("__debug__" : Str)) = false := by decide) : PE X (.Name x pos) (tC v) :=
  fun _ _ _ H _ I h => ld_glob I hg hm ⟨v, H, I, r, h⟩ hd
theorem pe_bltn {x : Str} {v : V} {u : Value} {pos : Pos} (hg : Gl X x) (hm : X.mg x = none) (hv : bootBuiltins x = some u) (r : RelV v u) (hn : x ≠ "__name__" := by decide) (hd : (x == ("__debug__" : Str)) = false := by decide) : PE X (.Name x pos) (tC v) :=
  fun _ _ _ H _ I h => ld_blt I hg hm hv ⟨v, H, I, r, h⟩ hn hd
variable {a b : Expr} {ta tb : TE} {pos : Pos}
def PC (X : Cx) (op : CmpOp) (a b : Expr) (t : TE) : Prop :=
  ∀ (pins : List (Addr × Obj)) (s : Shared) (σ : St) (H : Hp) (Q : VK), Inv X pins σ H s → t σ H Q →
    wpAny (model X.prog X.w) X.A (eval a X.env) (fun v s₁ => wpAny (model X.prog X.w) X.A (eval b X.env) (fun u s₂ => wpAny (model X.prog X.w) X.A (compareOp op v u) (EP X pins σ Q) X.xe s₂) X.xe s₁) X.xe s
theorem nobehind (b : Expr) {op : CmpOp} (h : op ≠ .In) (h2 : op ≠ .NotIn) : behindInMarks op b = false := by
  have e1 : (op == CmpOp.In) = false := by cases op <;> first | rfl | exact absurd rfl h
  have e2 : (op == CmpOp.NotIn) = false := by cases op <;> first | rfl | exact absurd rfl h2
  cases b <;> simp [behindInMarks, e1, e2]
def tIsN (ta : TE) : TE := fun σ H Q => ta σ H fun x H1 => Q (.bl (decide (x = .non))) H1
def tNotN (ta : TE) : TE := fun σ H Q => ta σ H fun x H1 => Q (.bl (!decide (x = .non))) H1
theorem RelV.none_iff {x : V} {v : Value} (r : RelV x v) : (v == Value.none) = decide (x = .non) := by
  cases x with
  | non => cases r; rfl
  | bl _ => cases r; rfl
  | int _ => obtain ⟨t, rfl⟩ := r; rfl
  | str _ => obtain ⟨t, rfl⟩ := r; rfl
  | byt _ => obtain ⟨t, rfl⟩ := r; rfl
  | flt _ => obtain ⟨t, rfl⟩ := r; rfl
  | ref _ => cases r; rfl
  | ty _ => cases r; rfl
theorem pc_isN {j pos'} (ha : PE X a ta) : PC X .Is a (.Constant .none j pos') (tIsN ta) := by
  intro pins s σ H Q I h
  refine thn (ha pins s σ H _ I h) fun v s1 ⟨x, H1, I1, r1, q1⟩ => ?_
  exact Constant_none (is_none_gen ⟨.bl _, H1, I1, by rw [r1.none_iff]; rfl, q1⟩)
theorem pc_notN {j pos'} (ha : PE X a ta) : PC X .IsNot a (.Constant .none j pos') (tNotN ta) := by
  intro pins s σ H Q I h
  refine thn (ha pins s σ H _ I h) fun v s1 ⟨x, H1, I1, r1, q1⟩ => ?_
  exact Constant_none (isnot_none_gen ⟨.bl _, H1, I1, by rw [r1.none_iff]; rfl, q1⟩)
def tB (t : TE) : TT := fun σ H Q => t σ H fun x H1 => ∃ c, x = .bl c ∧ Q c H1
theorem pt_cmp {op : CmpOp} {t : TE} (h : PC X op a b t) (h1 : behindInMarks op b = false := by first | exact nobehind _ (by decide) (by decide) | rfl) : PT X (.Compare a [op] [b] pos) (tB t) := by
  intro pins s σ H Q I hw
  refine wpAny_isTrue_Compare1 (thn (h pins s σ H _ I hw) fun v s1 h1 => thn h1 fun u s2 h2 => thn h2 fun c s3 ⟨x, H1, I1, r1, q1⟩ => ?_) h1
  obtain ⟨d, rfl, q⟩ := q1
  cases r1
  exact wpAny_truthy_bool ⟨H1, I1, q⟩
variable {tA tB' : TT} {rest : List Expr}
def tNot (t : TT) : TT := fun σ H Q => t σ H fun c H1 => Q (!c) H1
theorem pw_and1 (ha : PT X a tA) : PW X (.BoolOp .And [a] pos) tA := by
  intro wh pins s σ H Q I h
  refine isTrue_and (thn (ha pins s σ H Q I h) fun c s1 e => ?_)
  cases c with
  | true => exact isTrue_and_nil e
  | false => exact e
theorem pw_or1 (ha : PT X a tA) : PW X (.BoolOp .Or [a] pos) tA := by
  intro wh pins s σ H Q I h
  refine isTrue_or (thn (ha pins s σ H Q I h) fun c s1 e => ?_)
  cases c with
  | false => exact isTrue_or_nil e
  | true => exact e
theorem pt_not (ha : PT X a tA) : PT X (.UnaryOp .Not a pos) (tNot tA) := by
  intro pins s σ H Q I h
  exact isTrue_not (ha pins s σ H (fun c H1 => Q (!c) H1) I h)
theorem pe_one {op} {t : TE} (h : PE X a t) : PE X (.BoolOp op [a] pos) t := fun pins s σ H Q I hw => BoolOp_one (h pins s σ H Q I hw)
end
end L2
namespace L2
open PySem PySem.Spec PyProof.Rows
def SqL (K : PySem.W.Frag) (H : Hp) (a : Addr) (xs : List V) : Prop :=
  Rd H a (.lst xs) ∨
    ∃ (o : Obj) (its : Array Value) (n : Nat), K.lookup a = some o ∧ o.cls = .type "list" ∧ o.dict = none ∧ o.data = .seq its n ∧ its.size ≤ sizeLine ∧ Vals xs its.toList
def SqT (K : PySem.W.Frag) (H : Hp) (a : Addr) (xs : List V) : Prop :=
  Rd H a (.tup xs) ∨
    ∃ (o : Obj) (its : Array Value) (n : Nat), K.lookup a = some o ∧ o.cls = .type "tuple" ∧ o.data = .seq its n ∧ its.size ≤ sizeLine ∧ Vals xs its.toList
def absV : Value → Option V
  | .none => some .non
  | .bool b => some (.bl b)
  | .int i _ => some (.int i)
  | .str x _ => some (.str x)
  | .bytes b _ => some (.byt b)
  | .float b _ => some (.flt b)
  | .ref a => some (.ref a)
  | .type n => some (.ty n)
  | _ => none
theorem RelV.abs {x : V} {u : Value} (r : RelV x u) : absV u = some x := by
  cases x with
  | non => cases r; rfl
  | bl _ => cases r; rfl
  | int _ => obtain ⟨t, rfl⟩ := r; rfl
  | str _ => obtain ⟨t, rfl⟩ := r; rfl
  | byt _ => obtain ⟨t, rfl⟩ := r; rfl
  | flt _ => obtain ⟨t, rfl⟩ := r; rfl
  | ref _ => cases r; rfl
  | ty _ => cases r; rfl
theorem RelV.inj {x y : V} {u : Value} (r : RelV x u) (q : RelV y u) : x = y := Option.some.inj (r.abs.symm.trans q.abs)
theorem Vals.inj : ∀ {xs ys : List V} {us : List Value}, Vals xs us → Vals ys us → xs = ys
  | _, _, _, .nil, .nil => rfl
  | _, _, _, .cons r t, .cons r' t' => by rw [r.inj r', Vals.inj t t']
section
variable {X : Cx} {pins : List (Addr × Obj)} {σ : St} {H : Hp} {s : Shared} {a : Addr} {xs ys : List V}
theorem SqL.of {K : PySem.W.Frag} (h : H a = some (.lst xs)) : SqL K H a xs := .inl (.inl h)
theorem SqT.of {K : PySem.W.Frag} (h : H a = some (.tup xs)) : SqT K H a xs := .inl (.inl h)
theorem Inv.list (I : Inv X pins σ H s) (h : SqL X.K H a xs) : ∃ its : List Value, Vals xs its ∧ PlainL s.heap a its.toArray ∧ xs.length ≤ sizeLine := by
  rcases h with h | ⟨o, its, n, hk, hc, hd, hs, hz, r⟩
  · obtain ⟨z, its, n, r, e⟩ := h.ok I.hok
    exact ⟨its, r, ⟨_, n, e, rfl, rfl, rfl⟩, z⟩
  · refine ⟨its.toList, r, ⟨o, n, I.kIn a o hk, hc, hd, by simpa using hs⟩, ?_⟩
    have e := r.length
    simp only [Array.length_toList] at e
    omega
theorem Inv.tuple (I : Inv X pins σ H s) (h : SqT X.K H a xs) : ∃ its : List Value, Vals xs its ∧ IsTup s.heap a its.toArray ∧ xs.length ≤ sizeLine := by
  rcases h with h | ⟨o, its, n, hk, hc, hs, hz, r⟩
  · obtain ⟨z, its, r, p⟩ := h.ok I.hok
    exact ⟨its, r, p, z⟩
  · refine ⟨its.toList, r, ⟨o, I.kIn a o hk, hc, n, by simpa using hs⟩, ?_⟩
    have e := r.length
    simp only [Array.length_toList] at e
    omega
theorem Inv.list_inj (I : Inv X pins σ H s) (h : SqL X.K H a xs) (h' : SqL X.K H a ys) : xs = ys := by
  obtain ⟨its, r, ⟨o, n, e, _, _, d⟩, _⟩ := I.list h
  obtain ⟨its', r', ⟨o', n', e', _, _, d'⟩, _⟩ := I.list h'
  rw [e] at e'; cases e'
  rw [d] at d'
  injection d' with d1 _
  have : its = its' := by simpa using congrArg Array.toList d1
  subst this
  exact r.inj r'
theorem Inv.tuple_inj (I : Inv X pins σ H s) (h : SqT X.K H a xs) (h' : SqT X.K H a ys) : xs = ys := by
  obtain ⟨its, r, ⟨o, e, _, n, d⟩, _⟩ := I.tuple h
  obtain ⟨its', r', ⟨o', e', _, n', d'⟩, _⟩ := I.tuple h'
  rw [e] at e'; cases e'
  rw [d] at d'
  injection d' with d1 _
  have : its = its' := by simpa using congrArg Array.toList d1
  subst this
  exact r.inj r'
end
abbrev Cx.wish (X : Cx) (E : Value → Shared → Prop) : Cx := { X with xe := E }
abbrev Cx.nox (X : Cx) : Cx := X.wish fun _ _ => False
theorem Cx.Ok.wish {X : Cx} (ok : X.Ok) (E : Value → Shared → Prop) : (X.wish E).Ok :=
  ⟨ok.mod, ok.kind, ok.glob, ok.blt, ok.above, ok.inj, ok.has, ok.cab, ok.hd, ok.frames, ok.stk, ok.exf, ok.bs, ok.bsz, ok.noex, ok.exfs, ok.funs, ok.frf, ok.cab2, ok.hz⟩
theorem Cx.Ok.unwish {X : Cx} {E : Value → Shared → Prop} (ok : (X.wish E).Ok) : X.Ok :=
  ⟨ok.mod, ok.kind, ok.glob, ok.blt, ok.above, ok.inj, ok.has, ok.cab, ok.hd, ok.frames, ok.stk, ok.exf, ok.bs, ok.bsz, ok.noex, ok.exfs, ok.funs, ok.frf, ok.cab2, ok.hz⟩
section
variable {X : Cx} {pins : List (Addr × Obj)} {σ : St} {H : Hp} {s : Shared} {E : Value → Shared → Prop}
theorem Inv.wish (I : Inv X pins σ H s) (E : Value → Shared → Prop) : Inv (X.wish E) pins σ H s := ⟨I.ok.wish E, I.os, I.bare, I.base, I.loc, I.cell, I.free, I.freeC, I.pin, I.hok, I.len⟩
theorem Inv.unwish (I : Inv (X.wish E) pins σ H s) : Inv X pins σ H s := ⟨I.ok.unwish, I.os, I.bare, I.base, I.loc, I.cell, I.free, I.freeC, I.pin, I.hok, I.len⟩
theorem SP.unwish {D : Ends} {f : Flow} {s' : Shared} (h : SP (X.wish E) pins D f s') : SP X pins D f s' := by
  cases f with
  | next => obtain ⟨σ', H', I, q⟩ := h; exact ⟨σ', H', I.unwish, q⟩
  | brk => obtain ⟨σ', H', I, q⟩ := h; exact ⟨σ', H', I.unwish, q⟩
  | cont => obtain ⟨σ', H', I, q⟩ := h; exact ⟨σ', H', I.unwish, q⟩
  | ret u => obtain ⟨v, σ', H', I, r, q⟩ := h; exact ⟨v, σ', H', I.unwish, r, q⟩
theorem PSs.nox {st : List Stmt} {t : TS} (h : PSs X.nox st t) : PSs X st t := fun pins s σ H D I hw =>
  wpAny_mono (h pins s σ H D (I.wish _) hw) (fun _ _ q => q.unwish) fun _ _ z => False.elim z
end
section
variable {X : Cx} {st : Stmt} {rest : List Stmt} {t u : TS} {e : Expr} {te : TE} {pos : Pos}
def tNext : TS := fun D σ H => D.nx σ H
def tSeq (t u : TS) : TS := fun D σ H => t { D with nx := u D } σ H
theorem pss_nil : PSs X [] tNext := fun _ _ σ H _ I h => wpAny_execs_nil ⟨σ, H, I, h⟩
theorem pss_cons (h1 : PS X st t) (h2 : PSs X rest u) : PSs X (st :: rest) (tSeq t u) := by
  intro pins s σ H D I h
  refine wpAny_execs_cons (thn (h1 pins s σ H { D with nx := u D } I h) fun f s1 q => ?_)
  cases f with
  | next =>
    obtain ⟨σ', H', I', q⟩ := q
    exact h2 pins s1 σ' H' D I' q
  | ret v => exact q
  | brk => exact q
  | cont => exact q
theorem pss_one (h1 : PS X st t) : PSs X [st] t := by
  intro pins s σ H D I h
  refine wpAny_execs_cons (thn (h1 pins s σ H D I h) fun f s1 q => ?_)
  cases f with
  | next => exact wpAny_execs_nil q
  | ret v => exact q
  | brk => exact q
  | cont => exact q
theorem Inv.quiet {pins : List (Addr × Obj)} {σ : St} {H : Hp} {s : Shared} (I : Inv X pins σ H s) : interactive X.env = false := by simp [interactive, I.ok.kind]
def tDrop (te : TE) : TS := fun D σ H => te σ H fun _ H1 => D.nx σ H1
theorem ps_expr (he : PE X e te) (hs : swapsWith e none pos.line X.env = pure false := by rfl) : PS X (.Expr e pos) (tDrop te) := by
  intro pins s σ H D I h
  exact wpAny_Expr_any (thn (he pins s σ H _ I h) fun v s1 ⟨x, H1, I1, r1, q1⟩ => ⟨σ, H1, I1, q1⟩) I.quiet hs
def tRet (te : TE) : TS := fun D σ H => te σ H D.rt
theorem ps_ret (he : PE X e te) : PS X (.Return (some e) pos) (tRet te) := by
  intro pins s σ H D I h
  exact wpAny_Return_some (thn (he pins s σ H _ I h) fun v s1 ⟨x, H1, I1, r1, q1⟩ => ⟨x, σ, H1, I1, r1, q1⟩)
def tRetN : TS := fun D _ H => D.rt .non H
theorem ps_retN : PS X (.Return none pos) tRetN := fun _ _ σ H _ I h => wpAny_Return_none ⟨.non, σ, H, I, rfl, h⟩
end
abbrev TG := V → St → Hp → (St → Hp → Prop) → Prop
abbrev TGs := List V → St → Hp → (St → Hp → Prop) → Prop
def PG (X : Cx) (target : Expr) (t : TG) : Prop :=
  ∀ (pins : List (Addr × Obj)) (s : Shared) (σ : St) (H : Hp) (v : V) (u : Value) (Q : St → Hp → Prop), Inv X pins σ H s → RelV v u → t v σ H Q →
    wpAny (model X.prog X.w) X.A (assign target X.env u) (fun _ s' => ∃ σ' H', Inv X pins σ' H' s' ∧ Q σ' H') X.xe s
def PGs (X : Cx) (ts : List Expr) (t : TGs) : Prop :=
  ∀ (pins : List (Addr × Obj)) (s : Shared) (σ : St) (H : Hp) (vs : List V) (us : List Value) (Q : St → Hp → Prop), Inv X pins σ H s → Vals vs us → t vs σ H Q →
    wpAny (model X.prog X.w) X.A (assignInOrder ((assignEach ts X.env).map (·.2)) us) (fun _ s' => ∃ σ' H', Inv X pins σ' H' s' ∧ Q σ' H') X.xe s
abbrev TSet := V → V → V → Hp → (Hp → Prop) → Prop
def PSet (X : Cx) (t : TSet) : Prop :=
  ∀ (pins : List (Addr × Obj)) (s : Shared) (σ : St) (H : Hp) (o i v : V) (ov iv u : Value) (Q : Hp → Prop), Inv X pins σ H s → RelV o ov → RelV i iv → RelV v u → t o i v H Q →
    wpAny (model X.prog X.w) X.A (setItem ov iv u) (fun _ s' => ∃ H', Inv X pins σ H' s' ∧ Q H') X.xe s
section
variable {X : Cx} {pos : Pos}
def gName (i : Nat) : TG := fun v σ H Q => Q (σ.set i (some v)) H
theorem pg_name {i : Nat} {x : Str} (hN : X.N.Nodup) (hi : X.N[i]? = some x) (hx : Loc X.env.scope x) (hf : X.fn x = true ∨ X.env.scope.names.lookup x = some .local := by first | exact .inl rfl | exact .inr rfl | assumption) : PG X (.Name x pos) (gName i) := by
  intro pins s σ H v u Q I r h
  exact wpAny_assign_Name (store_ok I hN hi hx r (fun s' I' => ⟨_, H, I', h⟩) hf)
def gNil : TGs := fun vs σ H Q => vs = [] ∧ Q σ H
def gCons (t : TG) (u : TGs) : TGs := fun vs σ H Q => ∃ v r, vs = v :: r ∧ t v σ H fun σ' H' => u r σ' H' Q
theorem pgs_nil : PGs X [] gNil := by
  intro pins s σ H vs us Q I r h
  obtain ⟨e, h⟩ := h
  subst e
  cases r
  exact assignInOrder_nil ⟨σ, H, I, h⟩
theorem pgs_cons {e : Expr} {es : List Expr} {t : TG} {u : TGs} (h1 : PG X e t) (h2 : PGs X es u)
    (hs : (assignEach (e :: es) X.env).map (·.2) = assign e X.env :: (assignEach es X.env).map (·.2) := by rfl) : PGs X (e :: es) (gCons t u) := by
  intro pins s σ H vs us Q I r h
  obtain ⟨v, vr, e1, h⟩ := h
  subst e1
  cases r with
  | cons r rr =>
    rw [hs]
    refine assignInOrder_cons (thn (h1 pins s σ H _ _ _ I r h) fun _ s1 ⟨σ1, H1, I1, q1⟩ => ?_)
    exact h2 pins s1 σ1 H1 _ _ Q I1 rr q1
def gTup (K : PySem.W.Frag) (n : Nat) (t : TGs) : TG := fun v σ H Q => ∃ a xs, v = .ref a ∧ SqT K H a xs ∧ xs.length = n ∧ t xs σ H Q
theorem pg_tup {es : List Expr} {k : Nat} {t : TGs} {n : Nat} (hc : X.calm = true) (h : PGs X es t)
    (hn : (assignEach es X.env).length = n := by rfl) (hst : (assignEach es X.env).findIdx? (·.1) = none := by rfl) : PG X (.Tuple es k pos) (gTup X.K n t) := by
  intro pins s σ H v u Q I r hw
  obtain ⟨a, xs, e1, hq, hl, hw⟩ := hw
  subst e1
  cases r
  obtain ⟨its, rv, ht, hz⟩ := I.tuple hq
  refine assign_Tuple_tuple (I.ok.hd hc) ht (by simp [hn, ← hl, rv.length]) hst fun h' hx => ?_
  have I1 : Inv X pins σ H { s with heap := h' } := I.kept (t' := s.toks) fun b o e => hx b o (Nat.ne_of_lt (Heap.lt_size e)) e
  exact h pins _ σ H xs _ Q I1 (by simpa using rv) hw
def gSub (to ti : TE) (t : TSet) : TG := fun v σ H Q => to σ H fun o H1 => ti σ H1 fun i H2 => t o i v H2 fun H3 => Q σ H3
theorem pg_sub {o i : Expr} {to ti : TE} {t : TSet} (ho : PE X o to) (hi : PE X i ti) (hs : PSet X t)
    (ha : ∀ v, assign (.Subscript o i pos) X.env v = (do
      let ov ← holding [v] (eval o X.env)
      let iv ← holding [v, ov] (eval i X.env)
      standAt pos
      holding [v, ov, iv] (setItem ov iv v)
      release [v, ov, iv] []) := by intro _; rfl) : PG X (.Subscript o i pos) (gSub to ti t) := by
  intro pins s σ H v u Q I r h
  rw [ha]
  refine wpAny_bind (wpAny_holding (thn (ho pins s σ H _ I h) fun ov s1 ⟨x, H1, I1, r1, q1⟩ => ?_))
  refine wpAny_bind (wpAny_holding (thn (hi pins s1 σ H1 _ I1 q1) fun iv s2 ⟨y, H2, I2, r2, q2⟩ => ?_))
  refine wpAny_bind (wpAny_standAt (wpAny_bind (wpAny_holding (thn (hs pins s2 σ H2 x y v ov iv u _ I2 r1 r2 r q2) fun _ s3 ⟨H3, I3, q3⟩ => ?_))))
  exact wpAny_release ⟨σ, H3, I3, q3⟩
def tAsg (te : TE) (g : TG) : TS := fun D σ H => te σ H fun x H1 => g x σ H1 D.nx
theorem ps_asg {tg e : Expr} {te : TE} {g : TG} (he : PE X e te) (hg : PG X tg g) (hs : swapsWithSole [tg] e pos.line X.env = pure false := by rfl) (hw : swappedStores [tg] e X.env = pure none := by rfl)
    (h1 : (assignEach [tg] X.env).map (·.2) = [assign tg X.env] := by rfl) : PS X (.Assign [tg] e pos) (tAsg te g) := by
  intro pins s σ H D I h
  refine wpAny_Assign_stores (thn (he pins s σ H _ I h) fun v s1 ⟨x, H1, I1, r1, q1⟩ => ?_) hs hw
  rw [h1]
  exact thn (hg pins s1 σ H1 x v _ I1 r1 q1) fun _ s2 q => q
theorem ps_set {i : Nat} {x : Str} {e : Expr} {te : TE} {pos' : Pos} (hN : X.N.Nodup) (hi : X.N[i]? = some x) (hx : Loc X.env.scope x) (he : PE X e te) (hs : swapsWith e (some (.Name x pos')) pos.line X.env = pure false := by rfl) (hf : X.fn x = true ∨ X.env.scope.names.lookup x = some .local := by first | exact .inl rfl | exact .inr rfl | assumption) :
    PS X (.Assign [.Name x pos'] e pos) (tAsg te (gName i)) := by
  intro pins s σ H D I h
  refine wpAny_Assign_Name (thn (he pins s σ H _ I h) fun v s1 ⟨y, H1, I1, r1, q1⟩ => ?_) hs
  exact store_ok I1 hN hi hx r1 (fun s2 I2 => ⟨_, H1, I2, q1⟩) hf
end
section
variable {X : Cx} {pos : Pos}
end
structure It where
  go : Nat → Hp → Prop
  yld : Nat → Hp → V → Hp → Prop
  stop : Nat → Hp → Prop
def FpOk (X : Cx) (pins : List (Addr × Obj)) (H : Hp) (b : Addr) : Prop :=
  H b = none ∧ b ≠ X.env.locals ∧ b ∉ X.fs ∧ (b ∈ X.ex ∨ X.s₀.heap.objs.size ≤ b) ∧ (∀ x c, X.env.cells.lookup x = some c → c ≠ b) ∧ ∀ p ∈ X.pn ++ pins, p.1 ≠ b
theorem Inv.fpOk {X : Cx} {pins : List (Addr × Obj)} {σ : St} {H H' : Hp} {s : Shared} {b : Addr} (I : Inv X pins σ H s) (hb : s.heap.objs.size ≤ b) (hn : H' b = none) : FpOk X pins H' b := by
  refine ⟨hn, Nat.ne_of_gt (Nat.lt_of_lt_of_le I.lt hb), I.nofs hb, .inr (Nat.le_trans I.sz hb), fun x c e z => ?_, fun p hp z => ?_⟩
  · obtain ⟨v, q⟩ := I.cell x c e
    exact absurd (Nat.lt_of_lt_of_le q.lt (by rw [z]; exact hb)) (Nat.lt_irrefl _)
  · exact absurd (Nat.lt_of_lt_of_le (Heap.lt_size (I.pin p hp).1) (by rw [z]; exact hb)) (Nat.lt_irrefl _)
structure Turn (P : Program) (w : World) (K : PySem.W.Frag) (tg : Expr) (J : It) (fp : List Addr) (it : Addr) (tn : Nat → Heap → Prop) : Prop where
  mem : it ∈ fp
  obj : ∀ i h, tn i h → ∀ b ∈ fp, ∃ o, h.get? b = some o ∧ ∀ v, o.data ≠ .cell v
  keep : ∀ i h h', tn i h → (∀ b ∈ fp, ∀ o, h.get? b = some o → h'.get? b = some o) → tn i h'
  item : ∀ (X : Cx), X.prog = P → X.w = w → X.K = K → X.calm = true → ∀ (i : Nat) (pins : List (Addr × Obj)) (s : Shared) (σ : St) (H : Hp) (E : Value → Shared → Prop), Inv X pins σ H s → (∀ b ∈ fp, FpOk X pins H b) → tn i s.heap → J.go i H →
    wpAny (model P w) X.A (pyNext (.ref it)) (fun r s1 => ∃ u, r = some u ∧
      wpAny (model P w) X.A (letOwnedTupleGo tg (.ref it) u) (fun _ s2 => ∃ x H', Inv X pins σ H' s2 ∧ RelV x u ∧ J.yld i H x H' ∧ tn (i + 1) s2.heap ∧ ∀ b ∈ fp, H' b = none) E s1) E s
  done : ∀ (X : Cx), X.prog = P → X.w = w → X.K = K → X.calm = true → ∀ (i : Nat) (pins : List (Addr × Obj)) (s : Shared) (σ : St) (H : Hp) (E : Value → Shared → Prop), Inv X pins σ H s → (∀ b ∈ fp, FpOk X pins H b) → tn i s.heap → J.stop i H →
    wpAny (model P w) X.A (pyNext (.ref it)) (fun r s1 => r = none ∧ Inv X pins σ H s1) E s
  self : ∀ (A : Around) (i : Nat) (s : Shared) (Q : Value → Shared → Prop) (E : Value → Shared → Prop), tn i s.heap → Q (.ref it) s → wpAny (model P w) A (pyIter (.ref it)) Q E s
abbrev TI := St → Hp → (It → Hp → Prop) → Prop
def PIE (X : Cx) (pins : List (Addr × Obj)) (σ : St) (tg : Expr) (R : It → Hp → Prop) (itv : Value) (s2 : Shared) : Prop :=
  ∃ (it : Addr) (fp : List Addr) (tn : Nat → Heap → Prop) (J : It) (H' : Hp), itv = .ref it ∧ Inv X pins σ H' s2 ∧ Turn X.prog X.w X.K tg J fp it tn ∧ tn 0 s2.heap ∧ (∀ b ∈ fp, FpOk X pins H' b) ∧ R J H'
def PI (X : Cx) (tg iter : Expr) (wi : TI) : Prop :=
  ∀ (pins : List (Addr × Obj)) (s : Shared) (σ : St) (H : Hp) (R : It → Hp → Prop), Inv X pins σ H s → wi σ H R →
    wpAny (model X.prog X.w) X.A (eval iter X.env) (fun v s1 => wpAny (model X.prog X.w) X.A (pyIter v) (PIE X pins σ tg R) X.xe s1) X.xe s
theorem go_of {M : Model} {A : Around} {E : Value → Shared → Prop} {s : Shared} {tg : Expr} {it : Addr} {u : Value} {o : Obj} {n : String} {vs : Array Value} {Q : Unit → Shared → Prop} (ho : s.heap.get? it = some o) (hc : o.cls = .type n) (hd : o.data = .fields vs)
    (hn : ["enumerate", "zip", "dict_itemiterator", "dict_reverseitemiterator", "odict_iterator", "itertools.zip_longest", "itertools.pairwise"].contains n = false) (hQ : Q () s) : wpAny M A (letOwnedTupleGo tg (.ref it) u) Q E s := by
  unfold letOwnedTupleGo
  cases tg <;> first
    | exact wpAny_pure hQ
    | (cases u <;> first
        | exact wpAny_pure hQ
        | (refine wpAny_bind (wpAny_load ho ?_)
           rw [hc, hd]
           show wpAny M A (if (["enumerate", "zip", "dict_itemiterator", "dict_reverseitemiterator", "odict_iterator", "itertools.zip_longest", "itertools.pairwise"].contains n && vs[0]? == some (rawInt _)) = true then _ else _) Q E s
           rw [if_neg (by intro h; rw [hn, Bool.false_and] at h; cases h)]
           exact wpAny_pure hQ))
def Itl (K : PySem.W.Frag) (a : Addr) : It :=
  ⟨fun i H => ∃ xs x, SqL K H a xs ∧ xs[i]? = some x, fun i H x H' => H' = H ∧ ∀ xs, SqL K H a xs → xs[i]? = some x, fun i H => ∃ xs, SqL K H a xs ∧ xs.length ≤ i⟩
def Itt (K : PySem.W.Frag) (a : Addr) : It :=
  ⟨fun i H => ∃ xs x, SqT K H a xs ∧ xs[i]? = some x, fun i H x H' => H' = H ∧ ∀ xs, SqT K H a xs → xs[i]? = some x, fun i H => ∃ xs, SqT K H a xs ∧ xs.length ≤ i⟩
theorem turn_list {P : Program} {w : World} {K : PySem.W.Frag} {tg : Expr} (a it : Addr) : Turn P w K tg (Itl K a) [it] it (fun i h => h.IsListIter it a i) where
  mem := by simp
  obj := fun i h st b hb => by
    have e : b = it := by simpa using hb
    subst e
    obtain ⟨o, e, c, d⟩ := st
    exact ⟨o, e, fun v z => by rw [d] at z; cases z⟩
  keep := fun i h h' st k => st.at fun o e => k it (by simp) o e
  item := by
    intro X hP hw hK hc i pins s σ H E I hf st hg
    subst hP hw hK
    obtain ⟨xs, x, hq, hx⟩ := hg
    obtain ⟨its, rv, p, hz⟩ := I.list hq
    obtain ⟨u, hu, ru⟩ := rv.get hx
    obtain ⟨f0, f1, f2, f3, f4, f5⟩ := hf it (by simp)
    refine wpAny_pyNext_list_item st p.isList (x := u) (by simpa using hu) fun h' st' sb => ?_
    have I1 : Inv X pins σ H { s with heap := h' } := I.turned (t' := s.toks) (fun b o hb e => (sb.2 b hb).trans e) f0 f1 f3 f4 f5
    obtain ⟨o, e, c, d⟩ := id st'
    exact ⟨u, rfl, go_of (s := { s with heap := h' }) e c d (by decide) ⟨x, H, I1, ru, ⟨rfl, fun ys hy => by rw [I.list_inj hy hq]; exact hx⟩, st', fun b hb => (hf b hb).1⟩⟩
  done := by
    intro X hP hw hK hc i pins s σ H E I hf st hg
    subst hP hw hK
    obtain ⟨xs, hq, hx⟩ := hg
    obtain ⟨its, rv, p, hz⟩ := I.list hq
    obtain ⟨f0, f1, f2, f3, f4, f5⟩ := hf it (by simp)
    have hl := rv.length
    exact wpAny_pyNext_list_end (I.ok.hd hc) st p.isList (by simp; omega) fun h' eb => ⟨rfl, I.turned (t' := s.toks) (fun b o hb e => eb b o hb e) f0 f1 f3 f4 f5⟩
  self := fun _ _ _ _ _ st h => wpAny_pyIter_listiter st h
theorem turn_tuple {P : Program} {w : World} {K : PySem.W.Frag} {tg : Expr} (a it : Addr) : Turn P w K tg (Itt K a) [it] it (fun i h => h.IsTupleIter it a i) where
  mem := by simp
  obj := fun i h st b hb => by
    have e : b = it := by simpa using hb
    subst e
    obtain ⟨o, e, c, d⟩ := st
    exact ⟨o, e, fun v z => by rw [d] at z; cases z⟩
  keep := fun i h h' st k => st.at fun o e => k it (by simp) o e
  item := by
    intro X hP hw hK hc i pins s σ H E I hf st hg
    subst hP hw hK
    obtain ⟨xs, x, hq, hx⟩ := hg
    obtain ⟨its, rv, p, hz⟩ := I.tuple hq
    obtain ⟨u, hu, ru⟩ := rv.get hx
    obtain ⟨f0, f1, f2, f3, f4, f5⟩ := hf it (by simp)
    refine wpAny_pyNext_tuple_item st (show s.heap.IsTuple a its.toArray from p) (x := u) (by simpa using hu) fun h' st' sb => ?_
    have I1 : Inv X pins σ H { s with heap := h' } := I.turned (t' := s.toks) (fun b o hb e => (sb.2 b hb).trans e) f0 f1 f3 f4 f5
    obtain ⟨o, e, c, d⟩ := id st'
    exact ⟨u, rfl, go_of (s := { s with heap := h' }) e c d (by decide) ⟨x, H, I1, ru, ⟨rfl, fun ys hy => by rw [I.tuple_inj hy hq]; exact hx⟩, st', fun b hb => (hf b hb).1⟩⟩
  done := by
    intro X hP hw hK hc i pins s σ H E I hf st hg
    subst hP hw hK
    obtain ⟨xs, hq, hx⟩ := hg
    obtain ⟨its, rv, p, hz⟩ := I.tuple hq
    obtain ⟨f0, f1, f2, f3, f4, f5⟩ := hf it (by simp)
    have hl := rv.length
    exact wpAny_pyNext_tuple_end (I.ok.hd hc) st (show s.heap.IsTuple a its.toArray from p) (by simp; omega) fun h' eb => ⟨rfl, I.turned (t' := s.toks) (fun b o hb e => eb b o hb e) f0 f1 f3 f4 f5⟩
  self := fun _ _ _ _ _ st h => wpAny_pyIter_tupleiter st h
end L2
namespace L2
open PySem PySem.Spec PyProof.Rows
section
variable {X : Cx} {tg : Expr}
def iList (K : PySem.W.Frag) (tl : TE) : TI := fun σ H R => tl σ H fun x H1 => ∃ a, x = .ref a ∧ (∃ xs, SqL K H1 a xs) ∧ R (Itl K a) H1
def iTup (K : PySem.W.Frag) (tl : TE) : TI := fun σ H R => tl σ H fun x H1 => ∃ a, x = .ref a ∧ (∃ xs, SqT K H1 a xs) ∧ R (Itt K a) H1
theorem pi_list {l : Expr} {tl : TE} (hl : PE X l tl) : PI X tg l (iList X.K tl) := by
  intro pins s σ H R I h
  refine thn (hl pins s σ H _ I h) fun v s1 ⟨x, H1, I1, r1, q1⟩ => ?_
  obtain ⟨a, e, ⟨xs, hq⟩, q⟩ := q1
  subst e
  cases r1
  obtain ⟨its, rv, p, hz⟩ := I1.list hq
  refine wpAny_pyIter_list p.isList ?_
  refine ⟨s1.heap.objs.size, [s1.heap.objs.size], _, _, H1, rfl, I1.kept (t' := s1.toks) fun b o e => Heap.get?_push_of_some _ e, turn_list a _, ⟨_, Heap.get?_push_size _ rfl, rfl, rfl⟩, fun b hb => ?_, q⟩
  have e : b = s1.heap.objs.size := by simpa using hb
  subst e
  exact I1.fpOk (Nat.le_refl _) (I1.hok.fresh (Nat.le_refl _))
theorem pi_tup {l : Expr} {tl : TE} (hl : PE X l tl) : PI X tg l (iTup X.K tl) := by
  intro pins s σ H R I h
  refine thn (hl pins s σ H _ I h) fun v s1 ⟨x, H1, I1, r1, q1⟩ => ?_
  obtain ⟨a, e, ⟨xs, hq⟩, q⟩ := q1
  subst e
  cases r1
  obtain ⟨its, rv, p, hz⟩ := I1.tuple hq
  refine wpAny_pyIter_tuple (show s1.heap.IsTuple a its.toArray from p) ?_
  refine ⟨s1.heap.objs.size, [s1.heap.objs.size], _, _, H1, rfl, I1.kept (t' := s1.toks) fun b o e => Heap.get?_push_of_some _ e, turn_tuple a _, ⟨_, Heap.get?_push_size _ rfl, rfl, rfl⟩, fun b hb => ?_, q⟩
  have e : b = s1.heap.objs.size := by simpa using hb
  subst e
  exact I1.fpOk (Nat.le_refl _) (I1.hok.fresh (Nat.le_refl _))
def tFor (wi : TI) (g : TG) (tb : TS) : TS := fun D σ H => wi σ H fun J H1 => ∃ W : Nat → Nat → St → Hp → Prop, (∃ m, W 0 m σ H1) ∧ ∀ i m σ H, W i m σ H →
  (J.stop i H ∧ D.nx σ H) ∨ (J.go i H ∧ ∃ N : St → Hp → Prop, (∀ σ' H', N σ' H' → ∃ m', m' < m ∧ W (i + 1) m' σ' H') ∧ ∀ x H', J.yld i H x H' → g x σ H' fun σ2 H2 => tb { D with nx := N, ct := N, bk := D.nx } σ2 H2)
def pinsAt (fp : List Addr) (h : Heap) : List (Addr × Obj) := fp.filterMap fun b => (h.get? b).map fun o => (b, o)
theorem mem_pinsAt {fp : List Addr} {h : Heap} {b : Addr} {o : Obj} (hb : b ∈ fp) (e : h.get? b = some o) : (b, o) ∈ pinsAt fp h := List.mem_filterMap.mpr ⟨b, hb, by rw [e]; rfl⟩
theorem of_pinsAt {fp : List Addr} {h : Heap} {p : Addr × Obj} (hp : p ∈ pinsAt fp h) : p.1 ∈ fp ∧ h.get? p.1 = some p.2 := by
  obtain ⟨b, hb, e⟩ := List.mem_filterMap.mp hp
  cases q : h.get? b with
  | none => rw [q] at e; cases e
  | some o =>
    rw [q] at e
    have e' : (b, o) = p := Option.some.inj e
    subst e'
    exact ⟨hb, q⟩
theorem Inv.pinned {pins : List (Addr × Obj)} {σ : St} {H : Hp} {s : Shared} {fp : List Addr} (I : Inv X pins σ H s) (hf : ∀ b ∈ fp, FpOk X pins H b) (ho : ∀ b ∈ fp, ∃ o, s.heap.get? b = some o ∧ ∀ v, o.data ≠ .cell v) : Inv X (pins ++ pinsAt fp s.heap) σ H s :=
  I.pins_of fun p hp => (List.mem_append.mp hp).elim (fun z => I.pin p (List.mem_append_right _ z)) fun z => by
    obtain ⟨hb, e⟩ := of_pinsAt z
    obtain ⟨f0, f1, f2, _⟩ := hf p.1 hb
    obtain ⟨o, e', d⟩ := ho p.1 hb
    rw [e] at e'; cases e'
    exact ⟨e, f0, f1, f2, d⟩
theorem Inv.unpinned {pins pl : List (Addr × Obj)} {σ : St} {H : Hp} {s : Shared} (I : Inv X (pins ++ pl) σ H s) : Inv X pins σ H s := I.pins_of fun p hp => I.pin p (List.mem_append_right _ (List.mem_append_left _ hp))
theorem ps_for {iter : Expr} {body : List Stmt} {wi : TI} {g : TG} {tb : TS} {pos : Pos} (hp : PassesOwn (model X.prog X.w) X.A X.env X.xe) (hc : X.calm = true) (hi : PI X tg iter wi) (hg : PG X tg g) (hb : PSs X body tb)
    (hs : ∀ x, foldedSetIterable iter X.env x = pure x := by intro _; rfl) : PS X (.For tg iter body [] pos) (tFor wi g tb) := by
  intro pins s σ H D I h
  refine wpAny_For (thn (hi pins s σ H _ I h) fun v s1 h1 => thn h1 fun itv s2 h2 => ?_) hs
  obtain ⟨it, fp, tn, J, H2, e, I2, T, st2, f2, W, ⟨m0, w0⟩, turn⟩ := h2
  subst e
  -- what stays true of the iterator's objects through the loop
  have stat : ∀ {H' : Hp}, (∀ b ∈ fp, H' b = none) → ∀ b ∈ fp, FpOk X pins H' b := fun hn b hb => ⟨hn b hb, (f2 b hb).2⟩
  refine codeAny_forLoop_any (fun n s' => ∃ i σ' H', Inv X pins σ' H' s' ∧ tn i s'.heap ∧ (∀ b ∈ fp, H' b = none) ∧ W i n σ' H') ?_ m0 ⟨0, σ, H2, I2, st2, fun b hb => (f2 b hb).1, w0⟩
  rintro n s3 ⟨i, σ3, H3, I3, st3, fr3, w3⟩
  rcases turn i n σ3 H3 w3 with ⟨stop, qn⟩ | ⟨go, N, hN, step⟩
  · refine wpAny_passesOwn hp (thn (T.done X rfl rfl rfl hc i pins s3 σ3 H3 X.xe I3 (stat fr3) st3 stop) fun r s4 ⟨hr, I4⟩ => ?_)
    subst hr
    exact wpAny_execs_nil ⟨σ3, H3, I4, qn⟩
  · refine wpAny_passesOwn hp (thn (T.item X rfl rfl rfl hc i pins s3 σ3 H3 X.xe I3 (stat fr3) st3 go) fun r s4 ⟨u, hr, h4⟩ => ?_)
    subst hr
    refine wpAny_passesOwn hp (thn h4 fun _ s5 ⟨x, H5, I5, r5, y5, st5, fr5⟩ => ?_)
    have I5' := I5.pinned (stat fr5) (T.obj _ _ st5)
    refine wpAny_passesOwn hp (thn (hg _ s5 σ3 H5 x u _ I5' r5 (step x H5 y5)) fun _ s6 ⟨σ6, H6, I6, q6⟩ => ?_)
    refine wpAny_passesOwn hp (thn (hb _ s6 σ6 H6 _ I6 q6) fun f s7 q7 => ?_)
    have again : ∀ {σ7 : St} {H7 : Hp}, Inv X (pins ++ pinsAt fp s5.heap) σ7 H7 s7 → N σ7 H7 → ∃ m, m < n ∧ ∃ i σ' H', Inv X pins σ' H' s7 ∧ tn i s7.heap ∧ (∀ b ∈ fp, H' b = none) ∧ W i m σ' H' := fun {σ7 H7} I7 n7 => by
      obtain ⟨m', hm, w7⟩ := hN σ7 H7 n7
      refine ⟨m', hm, i + 1, σ7, H7, I7.unpinned, T.keep _ _ _ st5 fun b hb o e => (I7.pin (b, o) (List.mem_append_right _ (List.mem_append_right _ (mem_pinsAt hb e)))).1, fun b hb => ?_, w7⟩
      obtain ⟨o, e, d⟩ := T.obj _ _ st5 b hb
      exact (I7.pin (b, o) (List.mem_append_right _ (List.mem_append_right _ (mem_pinsAt hb e)))).2.1
    cases f with
    | next => obtain ⟨σ7, H7, I7, n7⟩ := q7; exact again I7 n7
    | cont => obtain ⟨σ7, H7, I7, n7⟩ := q7; exact again I7 n7
    | brk => obtain ⟨σ7, H7, I7, q7⟩ := q7; exact ⟨σ7, H7, I7.unpinned, q7⟩
    | ret v => obtain ⟨x7, σ7, H7, I7, r7, q7⟩ := q7; exact ⟨x7, σ7, H7, I7.unpinned, r7, q7⟩
end
theorem for_list {K : PySem.W.Frag} {a : Addr} {xs : List V} {g : TG} {tb : TS} {D : Ends} {σ : St} {H : Hp} (Pv : Nat → St → Hp → Prop) (h0 : Pv 0 σ H) (hl : ∀ i σ H, i ≤ xs.length → Pv i σ H → SqL K H a xs)
    (hs : ∀ i x σ H, xs[i]? = some x → Pv i σ H → g x σ H fun σ2 H2 => tb { D with nx := Pv (i + 1), ct := Pv (i + 1), bk := D.nx } σ2 H2) (hd : ∀ σ H, Pv xs.length σ H → D.nx σ H) :
    ∃ W : Nat → Nat → St → Hp → Prop, (∃ m, W 0 m σ H) ∧ ∀ i m σ H, W i m σ H →
      ((Itl K a).stop i H ∧ D.nx σ H) ∨ ((Itl K a).go i H ∧ ∃ N : St → Hp → Prop, (∀ σ' H', N σ' H' → ∃ m', m' < m ∧ W (i + 1) m' σ' H') ∧ ∀ x H', (Itl K a).yld i H x H' → g x σ H' fun σ2 H2 => tb { D with nx := N, ct := N, bk := D.nx } σ2 H2) := by
  refine ⟨fun i m σ H => m = xs.length - i ∧ i ≤ xs.length ∧ Pv i σ H, ⟨xs.length, by simp, Nat.zero_le _, h0⟩, ?_⟩
  rintro i m σ H ⟨rfl, hi, p⟩
  have q := hl i σ H hi p
  by_cases hlt : i < xs.length
  · refine .inr ⟨⟨xs, xs[i], q, by simp [hlt]⟩, Pv (i + 1), fun σ' H' p' => ⟨xs.length - (i + 1), by omega, rfl, hlt, p'⟩, fun x H' y => ?_⟩
    obtain ⟨e, y⟩ := y
    subst e
    exact hs i x σ _ (y xs q) p
  · have e : i = xs.length := by omega
    subst e
    exact .inl ⟨⟨xs, q, Nat.le_refl _⟩, hd σ H p⟩
theorem for_tup {K : PySem.W.Frag} {a : Addr} {xs : List V} {g : TG} {tb : TS} {D : Ends} {σ : St} {H : Hp} (Pv : Nat → St → Hp → Prop) (h0 : Pv 0 σ H) (hl : ∀ i σ H, i ≤ xs.length → Pv i σ H → SqT K H a xs)
    (hs : ∀ i x σ H, xs[i]? = some x → Pv i σ H → g x σ H fun σ2 H2 => tb { D with nx := Pv (i + 1), ct := Pv (i + 1), bk := D.nx } σ2 H2) (hd : ∀ σ H, Pv xs.length σ H → D.nx σ H) :
    ∃ W : Nat → Nat → St → Hp → Prop, (∃ m, W 0 m σ H) ∧ ∀ i m σ H, W i m σ H →
      ((Itt K a).stop i H ∧ D.nx σ H) ∨ ((Itt K a).go i H ∧ ∃ N : St → Hp → Prop, (∀ σ' H', N σ' H' → ∃ m', m' < m ∧ W (i + 1) m' σ' H') ∧ ∀ x H', (Itt K a).yld i H x H' → g x σ H' fun σ2 H2 => tb { D with nx := N, ct := N, bk := D.nx } σ2 H2) := by
  refine ⟨fun i m σ H => m = xs.length - i ∧ i ≤ xs.length ∧ Pv i σ H, ⟨xs.length, by simp, Nat.zero_le _, h0⟩, ?_⟩
  rintro i m σ H ⟨rfl, hi, p⟩
  have q := hl i σ H hi p
  by_cases hlt : i < xs.length
  · refine .inr ⟨⟨xs, xs[i], q, by simp [hlt]⟩, Pv (i + 1), fun σ' H' p' => ⟨xs.length - (i + 1), by omega, rfl, hlt, p'⟩, fun x H' y => ?_⟩
    obtain ⟨e, y⟩ := y
    subst e
    exact hs i x σ _ (y xs q) p
  · have e : i = xs.length := by omega
    subst e
    exact .inl ⟨⟨xs, q, Nat.le_refl _⟩, hd σ H p⟩
end L2
namespace L2
open PySem PySem.Spec PyProof.Rows
abbrev R2 := V → V → Hp → VK → Prop
def OpR (X : Cx) (f : Value → Value → Sem Value) (r : R2) : Prop :=
  ∀ (pins : List (Addr × Obj)) (s : Shared) (σ : St) (H : Hp) (x y : V) (v u : Value) (Q : VK), Inv X pins σ H s → RelV x v → RelV y u → r x y H Q →
    wpAny (model X.prog X.w) X.A (f v u) (EP X pins σ Q) X.xe s
def UnR (X : Cx) (f : Value → Sem Value) (r : V → Hp → VK → Prop) : Prop :=
  ∀ (pins : List (Addr × Obj)) (s : Shared) (σ : St) (H : Hp) (x : V) (v : Value) (Q : VK), Inv X pins σ H s → RelV x v → r x H Q →
    wpAny (model X.prog X.w) X.A (f v) (EP X pins σ Q) X.xe s
def CallR (X : Cx) (f : Value) (r : List V → Hp → VK → Prop) : Prop :=
  ∀ (pins : List (Addr × Obj)) (s : Shared) (σ : St) (H : Hp) (xs : List V) (us : List Value) (Q : VK), Inv X pins σ H s → Vals xs us → r xs H Q →
    wpAny (model X.prog X.w) X.A (call f us) (EP X pins σ Q) X.xe s
def tOp (r : R2) (ta tb : TE) : TE := fun σ H Q => ta σ H fun x H1 => tb σ H1 fun y H2 => r x y H2 Q
def tUn (r : V → Hp → VK → Prop) (ta : TE) : TE := fun σ H Q => ta σ H fun x H1 => r x H1 Q
def rI (C : Int → Int → Prop) (g : Int → Int → V) : R2 := fun x y H Q => ∃ i j, x = .int i ∧ y = .int j ∧ C i j ∧ Q (g i j) H
def rI0 (g : Int → Int → V) : R2 := fun x y H Q => ∃ i j, x = .int i ∧ y = .int j ∧ Q (g i j) H
def rU (g : Int → V) : V → Hp → VK → Prop := fun x H Q => ∃ i, x = .int i ∧ Q (g i) H
section
variable {X : Cx} {a b c : Expr} {ta tb tc : TE} {pos : Pos}
theorem binT (ha : PE X a ta) (hb : PE X b tb) {pins : List (Addr × Obj)} {s : Shared} {σ : St} {H : Hp} {R : V → V → Hp → Prop} (I : Inv X pins σ H s)
    (h : ta σ H fun x H1 => tb σ H1 fun y H2 => R x y H2) {Q : Value → Shared → Prop} {f : Value → Value → Sem Value}
    (hf : ∀ v u s2 x y H2, Inv X pins σ H2 s2 → RelV x v → RelV y u → R x y H2 → wpAny (model X.prog X.w) X.A (f v u) Q X.xe s2) :
    wpAny (model X.prog X.w) X.A (eval a X.env) (fun v s₁ => wpAny (model X.prog X.w) X.A (eval b X.env) (fun u s₂ => wpAny (model X.prog X.w) X.A (f v u) Q X.xe s₂) X.xe s₁) X.xe s := by
  refine thn (ha pins s σ H _ I h) fun v s1 ⟨x, H1, I1, r1, q1⟩ => ?_
  refine thn (hb pins s1 σ H1 _ I1 q1) fun u s2 ⟨y, H2, I2, r2, q2⟩ => ?_
  exact hf v u s2 x y H2 I2 r1 r2 q2
theorem pe_op {op : Operator} {r : R2} (ho : OpR X (binaryOp op) r) (ha : PE X a ta) (hb : PE X b tb) : PE X (.BinOp a op b pos) (tOp r ta tb) := by
  intro pins s σ H Q I h
  exact wpAny_BinOp (binT ha hb I h fun v u s2 x y H2 I2 rx ry q => ho pins s2 σ H2 x y v u Q I2 rx ry q)
theorem pe_un {op : UnaryOp} {r : V → Hp → VK → Prop} (ho : UnR X (unaryOp op) r) (ha : PE X a ta) : PE X (.UnaryOp op a pos) (tUn r ta) := by
  intro pins s σ H Q I h
  exact UnaryOp_ (thn (ha pins s σ H _ I h) fun v s1 ⟨x, H1, I1, r1, q1⟩ => ho pins s1 σ H1 x v Q I1 r1 q1)
theorem opI {f : Value → Value → Sem Value} {C : Int → Int → Prop} {g : Int → Int → Int}
    (rule : ∀ (i j : Int) (t u : Tok) (s : Shared) (Q : Value → Shared → Prop) (E : Value → Shared → Prop), C i j → Q (.int (g i j) s.toks) { s with toks := s.toks + 1 } → wpAny (model X.prog X.w) X.A (f (.int i t) (.int j u)) Q E s) :
    OpR X f (rI C fun i j => .int (g i j)) := by
  intro pins s σ H x y v u Q I rx ry h
  obtain ⟨i, j, rfl, rfl, hc, q⟩ := h
  obtain ⟨t, rfl⟩ := rx
  obtain ⟨t', rfl⟩ := ry
  exact rule i j t t' s _ _ hc ⟨.int (g i j), H, I.tok _, ⟨_, rfl⟩, q⟩
theorem opI0 {f : Value → Value → Sem Value} {g : Int → Int → Int}
    (rule : ∀ (i j : Int) (t u : Tok) (s : Shared) (Q : Value → Shared → Prop) (E : Value → Shared → Prop), Q (.int (g i j) s.toks) { s with toks := s.toks + 1 } → wpAny (model X.prog X.w) X.A (f (.int i t) (.int j u)) Q E s) :
    OpR X f (rI0 fun i j => .int (g i j)) := by
  intro pins s σ H x y v u Q I rx ry h
  obtain ⟨i, j, rfl, rfl, q⟩ := h
  obtain ⟨t, rfl⟩ := rx
  obtain ⟨t', rfl⟩ := ry
  exact rule i j t t' s _ _ ⟨.int (g i j), H, I.tok _, ⟨_, rfl⟩, q⟩
theorem opB0 {f : Value → Value → Sem Value} {g : Int → Int → Bool}
    (rule : ∀ (i j : Int) (t u : Tok) (s : Shared) (Q : Value → Shared → Prop) (E : Value → Shared → Prop), Q (.bool (g i j)) s → wpAny (model X.prog X.w) X.A (f (.int i t) (.int j u)) Q E s) :
    OpR X f (rI0 fun i j => .bl (g i j)) := by
  intro pins s σ H x y v u Q I rx ry h
  obtain ⟨i, j, rfl, rfl, q⟩ := h
  obtain ⟨t, rfl⟩ := rx
  obtain ⟨t', rfl⟩ := ry
  exact rule i j t t' s _ _ ⟨.bl (g i j), H, I, rfl, q⟩
def CPow (i j : Int) : Prop := 0 ≤ j ∧ j ≤ 1000000 ∧ i.natAbs < 2 ^ 64
def CMul (i j : Int) : Prop := (-(2 ^ 64) < i ∧ i < 2 ^ 64) ∨ (-(2 ^ 64) < j ∧ j < 2 ^ 64)
theorem CMul.ok {i j : Int} (h : CMul i j) : IntMulOk i j := by
  rcases h with ⟨h1, h2⟩ | ⟨h1, h2⟩
  · exact .of_left (intBits_le_64 h1 h2)
  · exact .of_right (intBits_le_64 h1 h2)
theorem two_pow_nn (k : Nat) : (0 : Int) ≤ 2 ^ k := by
  rw [two_pow_cast]
  exact Int.natCast_nonneg _
theorem op_add : OpR X (binaryOp .Add) (rI0 fun i j => .int (i + j)) := opI0 fun _ _ _ _ _ _ _ q => add_int q
theorem op_sub : OpR X (binaryOp .Sub) (rI0 fun i j => .int (i - j)) := opI0 fun _ _ _ _ _ _ _ q => sub_int q
theorem op_mul : OpR X (binaryOp .Mult) (rI CMul fun i j => .int (i * j)) := opI fun _ _ _ _ _ _ _ hc q => mul_int q hc.ok
theorem op_mod : OpR X (binaryOp .Mod) (rI (fun _ j => 0 < j) fun i j => .int (i % j)) := opI fun i j _ _ _ _ _ hc q => by
  have h1 : (0 : Int) < j := hc
  exact mod_int' (by omega) (by rw [Int.fmod_eq_emod_of_nonneg i (by omega)]; exact q)
theorem op_pow : OpR X (binaryOp .Pow) (rI CPow fun i j => .int (i ^ j.toNat)) := opI fun _ _ _ _ _ _ _ hc q => pow_int_small hc.1 hc.2.1 hc.2.2 q
theorem op_shr : OpR X (binaryOp .RShift) (rI (fun _ j => 0 ≤ j) fun i j => .int (i / 2 ^ j.toNat)) := opI fun i j _ _ _ _ _ hc q =>
  rshift_int hc (by rw [Int.fdiv_eq_ediv_of_nonneg i (two_pow_nn _)]; exact q)
theorem unI {f : Value → Sem Value} {g : Int → Int}
    (rule : ∀ (i : Int) (t : Tok) (s : Shared) (Q : Value → Shared → Prop) (E : Value → Shared → Prop), Q (.int (g i) s.toks) { s with toks := s.toks + 1 } → wpAny (model X.prog X.w) X.A (f (.int i t)) Q E s) :
    UnR X f (rU fun i => .int (g i)) := by
  intro pins s σ H x v Q I rx h
  obtain ⟨i, rfl, q⟩ := h
  obtain ⟨t, rfl⟩ := rx
  exact rule i t s _ _ ⟨.int (g i), H, I.tok _, ⟨_, rfl⟩, q⟩
theorem un_neg : UnR X (unaryOp .USub) (rU fun i => .int (-i)) := unI fun _ _ _ _ _ q => neg_int q
end
def scal : V → V → Bool
  | .non, .non => true | .non, .int _ => true | .int _, .non => true | .non, .bl _ => true | .bl _, .non => true | .non, .str _ => true | .str _, .non => true
  | .int _, .int _ => true | .bl _, .bl _ => true | .str _, .str _ => true | .byt _, .byt _ => true
  | .int _, .str _ => true | .str _, .int _ => true | .bl _, .str _ => true | .str _, .bl _ => true
  | _, _ => false
def rEq : R2 := fun x y H Q => scal x y = true ∧ Q (.bl (decide (x = y))) H
def rNe : R2 := fun x y H Q => scal x y = true ∧ Q (.bl (!decide (x = y))) H
theorem dec_int {i j : Int} : decide (V.int i = V.int j) = (i == j) := by
  rw [Bool.eq_iff_iff]
  simp
theorem dec_bl {i j : Bool} : decide (V.bl i = V.bl j) = (i == j) := by
  rw [Bool.eq_iff_iff]
  simp
theorem dec_str {i j : Str} : decide (V.str i = V.str j) = (i == j) := by
  rw [Bool.eq_iff_iff]
  simp
theorem dec_byt {i j : Array UInt8} : decide (V.byt i = V.byt j) = (i.toList == j.toList) := by
  rw [Bool.eq_iff_iff]
  cases i
  cases j
  simp
section
variable {X : Cx} {a b c : Expr} {ta tb tc : TE} {pos : Pos}
theorem fin_bl {pins : List (Addr × Obj)} {σ : St} {H : Hp} {s : Shared} {Q : VK} {k k' : Bool} (I : Inv X pins σ H s) (q : Q (.bl k) H) (e : k = k') : EP X pins σ Q (.bool k') s := by
  subst e
  exact ⟨.bl k, H, I, rfl, q⟩
theorem op_eq : OpR X (compareOp .Eq) rEq := by
  intro pins s σ H x y v u Q I rx ry h
  obtain ⟨hs, q⟩ := h
  cases x with
  | non =>
    cases rx
    cases y with
    | non => cases ry; exact PySem.EqNone.eq_none_none (fin_bl I q (by simp))
    | bl j => cases ry; exact PySem.EqNone.eq_none_bool (fin_bl I q (by simp))
    | int j => obtain ⟨t', rfl⟩ := ry; exact PySem.EqNone.eq_none_int (fin_bl I q (by simp))
    | str j => obtain ⟨t', rfl⟩ := ry; exact PySem.EqNone.eq_none_str (fin_bl I q (by simp))
    | _ => exact absurd (show false = true from hs) Bool.false_ne_true
  | bl i =>
    cases rx
    cases y with
    | non => cases ry; exact PySem.EqNone.eq_bool_none (fin_bl I q (by simp))
    | bl j => cases ry; exact eq_bool (fin_bl I q dec_bl)
    | str j => obtain ⟨t', rfl⟩ := ry; exact PySem.EqMixed.eq_bool_str (fin_bl I q (by simp))
    | _ => exact absurd (show false = true from hs) Bool.false_ne_true
  | int i =>
    obtain ⟨t, rfl⟩ := rx
    cases y with
    | non => cases ry; exact PySem.EqNone.eq_int_none (fin_bl I q (by simp))
    | int j => obtain ⟨t', rfl⟩ := ry; exact eq_int (fin_bl I q dec_int)
    | str j => obtain ⟨t', rfl⟩ := ry; exact PySem.EqMixed.eq_int_str (fin_bl I q (by simp))
    | _ => exact absurd (show false = true from hs) Bool.false_ne_true
  | str i =>
    obtain ⟨t, rfl⟩ := rx
    cases y with
    | non => cases ry; exact PySem.EqNone.eq_str_none (fin_bl I q (by simp))
    | bl j => cases ry; exact PySem.EqMixed.eq_str_bool (fin_bl I q (by simp))
    | int j => obtain ⟨t', rfl⟩ := ry; exact PySem.EqMixed.eq_str_int (fin_bl I q (by simp))
    | str j => obtain ⟨t', rfl⟩ := ry; exact eq_str (fin_bl I q dec_str)
    | _ => exact absurd (show false = true from hs) Bool.false_ne_true
  | byt i =>
    obtain ⟨t, rfl⟩ := rx
    cases y with
    | byt j => obtain ⟨t', rfl⟩ := ry; exact PySem.W.eq_bytes (fin_bl I q dec_byt)
    | _ => exact absurd (show false = true from hs) Bool.false_ne_true
  | _ => cases y <;> exact absurd (show false = true from hs) Bool.false_ne_true
theorem op_ne : OpR X (compareOp .NotEq) rNe := by
  intro pins s σ H x y v u Q I rx ry h
  obtain ⟨hs, q⟩ := h
  cases x with
  | non =>
    cases rx
    cases y with
    | non => cases ry; exact PySem.EqNone.ne_none_none (fin_bl I q (by simp))
    | bl j => cases ry; exact PySem.EqNone.ne_none_bool (fin_bl I q (by simp))
    | int j => obtain ⟨t', rfl⟩ := ry; exact PySem.EqNone.ne_none_int (fin_bl I q (by simp))
    | str j => obtain ⟨t', rfl⟩ := ry; exact PySem.EqNone.ne_none_str (fin_bl I q (by simp))
    | _ => exact absurd (show false = true from hs) Bool.false_ne_true
  | bl i =>
    cases rx
    cases y with
    | non => cases ry; exact PySem.EqNone.ne_bool_none (fin_bl I q (by simp))
    | bl j => cases ry; exact ne_bool (fin_bl I q (congrArg not dec_bl))
    | str j => obtain ⟨t', rfl⟩ := ry; exact PySem.EqMixed.ne_bool_str (fin_bl I q (by simp))
    | _ => exact absurd (show false = true from hs) Bool.false_ne_true
  | int i =>
    obtain ⟨t, rfl⟩ := rx
    cases y with
    | non => cases ry; exact PySem.EqNone.ne_int_none (fin_bl I q (by simp))
    | int j => obtain ⟨t', rfl⟩ := ry; exact ne_int (fin_bl I q (congrArg not dec_int))
    | str j => obtain ⟨t', rfl⟩ := ry; exact PySem.EqMixed.ne_int_str (fin_bl I q (by simp))
    | _ => exact absurd (show false = true from hs) Bool.false_ne_true
  | str i =>
    obtain ⟨t, rfl⟩ := rx
    cases y with
    | non => cases ry; exact PySem.EqNone.ne_str_none (fin_bl I q (by simp))
    | bl j => cases ry; exact PySem.EqMixed.ne_str_bool (fin_bl I q (by simp))
    | int j => obtain ⟨t', rfl⟩ := ry; exact PySem.EqMixed.ne_str_int (fin_bl I q (by simp))
    | str j => obtain ⟨t', rfl⟩ := ry; exact ne_str (fin_bl I q (congrArg not dec_str))
    | _ => exact absurd (show false = true from hs) Bool.false_ne_true
  | byt i =>
    obtain ⟨t, rfl⟩ := rx
    cases y with
    | byt j => obtain ⟨t', rfl⟩ := ry; exact PySem.W.ne_bytes (fin_bl I q (congrArg not dec_byt))
    | _ => exact absurd (show false = true from hs) Bool.false_ne_true
  | _ => cases y <;> exact absurd (show false = true from hs) Bool.false_ne_true
theorem op_lt : OpR X (compareOp .Lt) (rI0 fun i j => .bl (decide (i < j))) := opB0 fun _ _ _ _ _ _ _ q => lt_int q
theorem op_le : OpR X (compareOp .LtE) (rI0 fun i j => .bl (decide (i ≤ j))) := opB0 fun _ _ _ _ _ _ _ q => le_int q
theorem op_gt : OpR X (compareOp .Gt) (rI0 fun i j => .bl (decide (j < i))) := opB0 fun _ _ _ _ _ _ _ q => gt_int q
theorem op_ge : OpR X (compareOp .GtE) (rI0 fun i j => .bl (decide (j ≤ i))) := opB0 fun _ _ _ _ _ _ _ q => ge_int q
theorem nomark (b : Expr) {op : CmpOp} (h : op ≠ .In := by decide) (h2 : op ≠ .NotIn := by decide) : behindInMarks op b = false := by
  have e1 : (op == CmpOp.In) = false := by cases op <;> first | rfl | exact absurd rfl h
  have e2 : (op == CmpOp.NotIn) = false := by cases op <;> first | rfl | exact absurd rfl h2
  cases b <;> simp [behindInMarks, e1, e2]
theorem pe_cmpR {op : CmpOp} {r : R2} (ho : OpR X (compareOp op) r) (ha : PE X a ta) (hb : PE X b tb) (hm : behindInMarks op b = false) : PE X (.Compare a [op] [b] pos) (tOp r ta tb) := by
  intro pins s σ H Q I h
  exact wpAny_Compare1 (binT ha hb I h fun v u s2 x y H2 I2 rx ry q => ho pins s2 σ H2 x y v u Q I2 rx ry q) hm
theorem line63 : (sizeLine : Nat) < 2 ^ 63 := by rw [sizeLine_eq]; decide
theorem vals1 {x : V} {us : List Value} (r : Vals [x] us) : ∃ u, us = [u] ∧ RelV x u := by
  cases r with
  | cons r1 r2 => cases r2; exact ⟨_, rfl, r1⟩
theorem vals2 {x y : V} {us : List Value} (r : Vals [x, y] us) : ∃ u w', us = [u, w'] ∧ RelV x u ∧ RelV y w' := by
  cases r with
  | cons r1 r2 =>
    cases r2 with
    | cons r3 r4 => cases r4; exact ⟨_, _, rfl, r1, r3⟩
theorem call_abs : CallR X (.builtin "abs") (fun xs H Q => ∃ i, xs = [.int i] ∧ Q (.int (if i < 0 then -i else i)) H) := by
  intro pins s σ H xs us Q I r h
  obtain ⟨i, rfl, q⟩ := h
  obtain ⟨u, rfl, t, rfl⟩ := vals1 r
  exact call_abs_int fun u tk => ⟨.int (if i < 0 then -i else i), H, I.tok _, ⟨_, rfl⟩, q⟩
theorem call_max2 (hc : X.calm = true) : CallR X (.builtin "max") (fun xs H Q => ∃ i j, xs = [.int i, .int j] ∧ Q (.int (if j > i then j else i)) H) := by
  intro pins s σ H xs us Q I r h
  obtain ⟨i, j, rfl, q⟩ := h
  obtain ⟨u, w', rfl, ⟨t, rfl⟩, ⟨t', rfl⟩⟩ := vals2 r
  refine max_two_ints (I.ok.hd hc) fun h' tk k => ⟨_, H, I.kept k, ?_, q⟩
  by_cases hj : j > i
  · rw [if_pos hj, if_pos hj]; exact ⟨_, rfl⟩
  · rw [if_neg hj, if_neg hj]; exact ⟨_, rfl⟩
theorem call_min2 (hc : X.calm = true) : CallR X (.builtin "min") (fun xs H Q => ∃ i j, xs = [.int i, .int j] ∧ Q (.int (if j < i then j else i)) H) := by
  intro pins s σ H xs us Q I r h
  obtain ⟨i, j, rfl, q⟩ := h
  obtain ⟨u, w', rfl, ⟨t, rfl⟩, ⟨t', rfl⟩⟩ := vals2 r
  refine min_two_ints (I.ok.hd hc) fun h' tk k => ⟨_, H, I.kept k, ?_, q⟩
  by_cases hj : j < i
  · rw [if_pos hj, if_pos hj]; exact ⟨_, rfl⟩
  · rw [if_neg hj, if_neg hj]; exact ⟨_, rfl⟩
theorem call_int1 : CallR X (.type "int") (fun xs H Q => (∃ i, xs = [.int i] ∧ Q (.int i) H) ∨ ∃ k, xs = [.bl k] ∧ Q (.int (if k then 1 else 0)) H) := by
  intro pins s σ H xs us Q I r h
  rcases h with ⟨i, rfl, q⟩ | ⟨k, rfl, q⟩
  · obtain ⟨u, rfl, t, rfl⟩ := vals1 r
    exact call_int_int ⟨.int i, H, I, ⟨_, rfl⟩, q⟩
  · obtain ⟨u, rfl, r1⟩ := vals1 r
    cases r1
    exact call_int_bool ⟨.int (if k then 1 else 0), H, I.tok _, ⟨_, rfl⟩, q⟩
end
end L2
namespace L2
open PySem PySem.Spec PyProof.Rows
structure ObjM (h : Heap) (x dx C : Addr) (mA : Str → Option Value) : Prop where
  obj : h.get? x = some (PySem.W.instObj C dx)
  ns : h.Ns1 dx mA
  ne : dx ≠ x
theorem lookIn_ns {h : Heap} {dx : Addr} {mA : Str → Option Value} (n : h.Ns1 dx mA) : ∃ od, h.get? dx = some od ∧ ∀ name, PySem.W.lookIn name od = some (mA name) := by
  obtain ⟨o, es, ep, ho, hd, hk, _, hm⟩ := n
  refine ⟨o, ho, fun name => ?_⟩
  have e := hm name
  unfold nsFind findBy at e
  rw [← Array.find?_toList] at e
  unfold PySem.W.lookIn
  rw [hd]
  dsimp only
  split
  · rename_i y q
    rw [q] at e
    exact congrArg some e
  · rename_i q
    rw [q] at e
    have a : es.toList.any (·.refKey) = false := by
      rw [List.any_eq_false]
      intro y hy
      obtain ⟨z, t, hkey⟩ := hk y (Array.mem_toList_iff.mp hy)
      simp [DictEntry.refKey, hkey]
    have a' : ¬ es.toList.any (·.refKey) = true := by rw [a]; exact Bool.false_ne_true
    rw [if_neg a']
    exact congrArg some e
theorem ObjM.look {h : Heap} {x dx C : Addr} {mA : Str → Option Value} (I : ObjM h x dx C mA) : ∃ od, PySem.W.InstAt h x (PySem.W.instObj C dx) C (some od) ∧ ∀ name, PySem.W.lookIn name od = some (mA name) :=
  let ⟨od, ho, hl⟩ := lookIn_ns I.ns
  ⟨od, ⟨I.obj, rfl, rfl, ho⟩, hl⟩
section
variable {prog : Program} {w : World} {A : Around} {E : Value → Shared → Prop} {s : Shared} {K : PySem.W.Frag} {x dx C f : Addr} {mA : Str → Option Value} {name : Str} {v : Value}
theorem get_map {expr : Bool} {Q : Value → Shared → Prop} (X : K.In s.heap) (I : ObjM s.heap x dx C mA) (hg : PySem.W.plainGet K C name = true) (hh : PySem.W.hasDictIn K C = true)
    (ha : PySem.W.findIn K (.ref C) name = some none) (hv : mA name = some v) (hv' : PySem.W.handedIn v = true) (h : Q v { s with toks := s.toks + 1 }) :
    wpAny (model prog w) A (getAttr (.ref x) name expr) Q E s := by
  obtain ⟨od, J, hl⟩ := I.look
  exact PySem.W.get_value X J (PySem.W.plainGet_of hg).1 (PySem.W.findObj_own hh ha rfl (by rw [hl, hv])) hv' h
theorem get_meth {pl : Sem Bool} {Q : Value × List Value → Shared → Prop} (X : K.In s.heap) (I : ObjM s.heap x dx C mA) (hg : PySem.W.plainGet K C name = true)
    (hf : PySem.W.findIn K (.ref C) name = some (some (.ref f))) (ht : PySem.W.isFn K (.ref f) = true) (hv : mA name = none) (h : Q (.ref f, [.ref x]) s) :
    wpAny (model prog w) A (getMethod (.ref x) name pl) Q E s := by
  obtain ⟨od, J, hl⟩ := I.look
  exact PySem.W.method_fn X J (PySem.W.plainGet_of hg).1 (PySem.W.plainGet_of hg).2 hf (beq_iff_eq.mp ht) (by show (PySem.W.lookIn name od).map (·.isSome) = some false; rw [hl, hv]; rfl) h
theorem set_map {ns : List Str} {Q : Unit → Shared → Prop} (X : K.In s.heap) (I : ObjM s.heap x dx C mA)
    (hs : PySem.W.findIn K (.ref C) "__setattr__" = some (some (.builtin "object.__setattr__"))) (hp : PySem.W.plainOver K C = true) (ht : PySem.W.takerIn K C name = some none) (hh : PySem.W.hasDictIn K C = true)
    (hw : PySem.Within mA ns) (hsz : ns.length ≤ sizeLine)
    (h : ∀ h', ObjM h' x dx C (fun y => if y = name then some v else mA y) → Heap.SameBut dx s.heap h' → Q () { s with heap := h', toks := s.toks + 2 }) :
    wpAny (model prog w) A (setAttr (.ref x) name v) Q E s := by
  obtain ⟨od, J, hl⟩ := I.look
  refine PySem.W.set_plain X J hs (PySem.W.osa_open (s := { s with toks := s.toks + 1 }) (r := none) X J hp ht fun b => ?_)
  obtain ⟨cd, hc, hd'⟩ := PySem.W.any_some hh
  have hx : s.heap.get? x = some ⟨.ref C, some dx, .plain, #[]⟩ := I.obj
  refine wpAny_bind (wpAny_pure (wpAny_bind (wpAny_bind (wpAny_loadPart hx (wpAny_bind (PySem.W.Looks.here (s := { s with toks := s.toks + 1 }) (PySem.W.looks_clsIn X hc) ?_))))))
  rw [hd']
  refine wpAny_pure (a := some dx) (wpAny_bind (wpAny_pure (wpAny_bind ?_)))
  refine wpAny_nsSet1 (s := { s with toks := s.toks + 1 }) I.ns fun h' hn2 hs2 => ?_
  obtain ⟨oD, esD, epD, hoD, hdD, hcD⟩ := hn2.count (PySem.Within.cons name v hw)
  refine wpAny_bind (wpAny_lookBehind hoD (by rw [hdD]; exact pastItsLine_dict (Nat.le_trans hcD (by rw [List.length_cons]; omega))) ?_)
  exact wpAny_pure (h _ ⟨(hs2.2 _ (Ne.symm I.ne)).trans I.obj, hn2, I.ne⟩ hs2)
theorem make_map {R : Result → Shared → Prop} {vs : List Value} {kw : List (Str × Value)} (X : K.In s.heap) (hm : PySem.W.makesIn K C = true)
    (hi : PySem.W.findIn K (.ref C) "__init__" = some (some (.ref f))) (hf : PySem.W.typeIn K (.ref f) = some (.type "function"))
    (h : codeAny (model prog w) (A.under (.builtin "type.__call__" ⟨.ref C :: vs, kw⟩)) (.call (.ref f) ⟨.ref (s.heap.objs.size + 1) :: vs, kw⟩) (PySem.W.InitBack (s.heap.objs.size + 1) R)
      { s with heap := (s.heap.push PySem.W.emptyDict).push (PySem.W.instObj C s.heap.objs.size) }) :
    codeAny (model prog w) A (.call (.ref C) ⟨vs, kw⟩) R s := by
  obtain ⟨hh, g, d, t, os⟩ := s
  exact PySem.W.make_core (PySem.W.makes_of X hm) (PySem.W.looks_findIn X hi) (fun self => PySem.W.bind_fn X self hf) (.inl rfl) h
end
def putF (f : Str) (v : V) : List (Str × V) → List (Str × V)
  | [] => [(f, v)]
  | (g, x) :: r => if g = f then (g, v) :: r else (g, x) :: putF f v r
theorem lookup_putF (f g : Str) (v : V) : ∀ fs : List (Str × V), (putF f v fs).lookup g = if g = f then some v else fs.lookup g
  | [] => by
    show List.lookup g [(f, v)] = _
    by_cases h : g = f
    · have hb : (g == f) = true := beq_iff_eq.mpr h
      simp only [List.lookup, hb, if_pos h]
    · have hb : (g == f) = false := beq_eq_false_iff_ne.mpr h
      simp only [List.lookup, hb, if_neg h]
  | (k, x) :: r => by
    have ih := lookup_putF f g v r
    rw [show putF f v ((k, x) :: r) = (if k = f then (k, v) :: r else (k, x) :: putF f v r) from rfl]
    by_cases hk : k = f
    · rw [if_pos hk]
      by_cases h : g = k
      · have hb : (g == k) = true := beq_iff_eq.mpr h
        simp only [List.lookup, hb, if_pos (h.trans hk)]
      · have hb : (g == k) = false := beq_eq_false_iff_ne.mpr h
        simp only [List.lookup, hb, if_neg (fun e : g = f => h (e.trans hk.symm))]
    · rw [if_neg hk]
      by_cases h : g = k
      · have hb : (g == k) = true := beq_iff_eq.mpr h
        simp only [List.lookup, hb, if_neg (fun e : g = f => hk (h.symm.trans e))]
      · have hb : (g == k) = false := beq_eq_false_iff_ne.mpr h
        simp only [List.lookup, hb]
        exact ih
theorem keys_putF (f : Str) (v : V) : ∀ fs : List (Str × V), f ∈ (putF f v fs).map (·.1) ∧ ∀ g, g ∈ fs.map (·.1) → g ∈ (putF f v fs).map (·.1)
  | [] => ⟨by simp [putF], fun g h => by simp at h⟩
  | (k, x) :: r => by
    obtain ⟨i1, i2⟩ := keys_putF f v r
    rw [show putF f v ((k, x) :: r) = (if k = f then (k, v) :: r else (k, x) :: putF f v r) from rfl]
    by_cases hk : k = f
    · rw [if_pos hk]
      subst hk
      exact ⟨by simp, fun g h => by simpa using h⟩
    · rw [if_neg hk]
      refine ⟨?_, fun g h => ?_⟩
      · rw [List.map_cons]
        exact List.mem_cons_of_mem _ i1
      · rw [List.map_cons] at h ⊢
        rcases List.mem_cons.mp h with e | e
        · exact List.mem_cons.mpr (.inl e)
        · exact List.mem_cons_of_mem _ (i2 g e)
theorem length_putF (f : Str) (v : V) : ∀ fs : List (Str × V), (putF f v fs).length ≤ fs.length + 1
  | [] => by simp [putF]
  | (k, x) :: r => by
    have ih := length_putF f v r
    rw [show putF f v ((k, x) :: r) = (if k = f then (k, v) :: r else (k, x) :: putF f v r) from rfl]
    by_cases hk : k = f
    · rw [if_pos hk, List.length_cons, List.length_cons]; omega
    · rw [if_neg hk, List.length_cons, List.length_cons]; omega
theorem RelO.some_of {v : V} {o : Option Value} (r : RelO (some v) o) : ∃ u, o = some u ∧ RelV v u := by
  cases o with
  | none => exact (show False from r).elim
  | some u => exact ⟨u, rfl, r⟩
theorem RelO.none_of {o : Option Value} (r : RelO none o) : o = none := by
  cases o with
  | none => rfl
  | some u => exact (show False from r).elim
theorem handed_of {v : V} {u : Value} (r : RelV v u) : PySem.W.handedIn u = true := by
  cases v with
  | non => cases (show u = Value.none from r); rfl
  | bl b => cases (show u = Value.bool b from r); rfl
  | int i => obtain ⟨t, e⟩ := (show ∃ t, u = Value.int i t from r); cases e; rfl
  | str x => obtain ⟨t, e⟩ := (show ∃ t, u = Value.str x t from r); cases e; rfl
  | byt b => obtain ⟨t, e⟩ := (show ∃ t, u = Value.bytes b t from r); cases e; rfl
  | flt b => obtain ⟨t, e⟩ := (show ∃ t, u = Value.float b t from r); cases e; rfl
  | ref a => cases (show u = Value.ref a from r); rfl
  | ty n => cases (show u = Value.type n from r); rfl
section
variable {P : Program} {w : World} {H H' : Hp} {h h' : Heap} {a C dx : Addr} {fs fs' : List (Str × V)}
theorem ins_get (hok : HOk P w H h) (e : H a = some (.ins C dx fs)) : ∃ mA, ObjM h a dx C mA ∧ (∀ f, RelO (fs.lookup f) (mA f)) ∧ PySem.Within mA (fs.map (·.1)) ∧ fs.length ≤ 1000 ∧ H dx = some (.own a) := by
  obtain ⟨d, z, ne, ob, mA, n, r, q⟩ := (show ObjOk P w H h a (.ins C dx fs) from hok a _ e)
  exact ⟨mA, ⟨ob, n, ne⟩, r, q, z, d⟩
end
structure Cls (K : PySem.W.Frag) (C : Addr) : Prop where
  pg : PySem.W.plainGet K C Str.empty = true
  hd : PySem.W.hasDictIn K C = true
  po : PySem.W.plainOver K C = true
  sa : PySem.W.findIn K (.ref C) "__setattr__" = some (some (.builtin "object.__setattr__"))
theorem Cls.get {K : PySem.W.Frag} {C : Addr} (c : Cls K C) (f : Str) : PySem.W.plainGet K C f = true := c.pg
def NoAttr (K : PySem.W.Frag) (C : Addr) (f : Str) : Prop := PySem.W.findIn K (.ref C) f = some none
theorem NoAttr.taker {K : PySem.W.Frag} {C : Addr} {f : Str} (n : NoAttr K C f) : PySem.W.takerIn K C f = some none := by
  unfold PySem.W.takerIn
  rw [show PySem.W.findIn K (.ref C) f = some none from n]
  rfl
structure Meth (K : PySem.W.Frag) (C : Addr) (m : Str) (f : Addr) : Prop where
  at_ : PySem.W.findIn K (.ref C) m = some (some (.ref f))
  fn : PySem.W.isFn K (.ref f) = true
  kp : PySem.W.keepIn K (.ref f) = true
section
variable {X : Cx} {pins : List (Addr × Obj)} {σ : St} {H : Hp} {s : Shared} {a C dx : Addr} {fs : List (Str × V)} {f : Str} {v : V} {A : Around} {E : Value → Shared → Prop}
theorem getattr_ok {b : Bool} {Q : Value → Shared → Prop} (I : Inv X pins σ H s) (e : H a = some (.ins C dx fs)) (c : Cls X.K C) (n : NoAttr X.K C f) (l : fs.lookup f = some v)
    (h : ∀ u s', Inv X pins σ H s' → RelV v u → Q u s') : wpAny (model X.prog X.w) A (getAttr (.ref a) f b) Q E s := by
  obtain ⟨mA, O, r, _, _, _⟩ := ins_get I.hok e
  obtain ⟨u, hu, ru⟩ := RelO.some_of (v := v) (o := mA f) (by rw [← l]; exact r f)
  exact get_map I.kIn O (c.get f) c.hd n hu (handed_of ru) (h u _ (I.tok _) ru)
theorem getmeth_ok {m : Str} {g : Addr} {pl : Sem Bool} {Q : Value × List Value → Shared → Prop} (I : Inv X pins σ H s) (e : H a = some (.ins C dx fs)) (c : Cls X.K C) (k : Meth X.K C m g) (l : fs.lookup m = none)
    (h : Q (.ref g, [.ref a]) s) : wpAny (model X.prog X.w) A (getMethod (.ref a) m pl) Q E s := by
  obtain ⟨mA, O, r, _, _, _⟩ := ins_get I.hok e
  have hn : mA m = none := RelO.none_of (by rw [← l]; exact r m)
  exact get_meth I.kIn O (c.get m) k.at_ k.fn hn h
theorem setattr_ok {y : V} {u : Value} {Q : Unit → Shared → Prop} (I : Inv X pins σ H s) (e : H a = some (.ins C dx fs)) (c : Cls X.K C) (n : NoAttr X.K C f) (hl : fs.length < 1000) (ry : RelV y u)
    (h : ∀ s', Inv X pins σ (upd H a (.ins C dx (putF f y fs))) s' → Q () s') : wpAny (model X.prog X.w) A (setAttr (.ref a) f u) Q E s := by
  obtain ⟨mA, O, r, wi, _, ho⟩ := ins_get I.hok e
  have hz : (fs.map (·.1)).length ≤ sizeLine := by rw [List.length_map, sizeLine_eq]; omega
  refine set_map I.kIn O c.sa c.po n.taker c.hd wi hz fun h' O' sb => h _ ?_
  have hd : ∃ o, h'.get? dx = some o := let ⟨o, _, _, e', _⟩ := O'.ns; ⟨o, e'⟩
  refine I.write (x := a) (e := dx) (by rw [e]; exact True.intro) (.inr ho) (fun b q hb z => (sb.2 b hb).trans z) hd ?_
  refine ⟨by rw [upd_ne O.ne]; exact ho, ?_, O.ne, O'.obj, _, O'.ns, fun g => ?_, fun g hg => ?_⟩
  · have := length_putF f y fs; omega
  · show RelO ((putF f y fs).lookup g) (if g = f then some u else mA g)
    rw [lookup_putF]
    by_cases q : g = f
    · rw [if_pos q, if_pos q]; exact ry
    · rw [if_neg q, if_neg q]; exact r g
  · by_cases q : g = f
    · rw [q]; exact (keys_putF f y fs).1
    · refine (keys_putF f y fs).2 g (wi g fun z => hg ?_)
      show (if g = f then some u else mA g) = none
      rw [if_neg q]; exact z
theorem Inv.made (I : Inv X pins σ H s) : Inv X pins σ (upd (upd H s.heap.objs.size (.own (s.heap.objs.size + 1))) (s.heap.objs.size + 1) (.ins C s.heap.objs.size []))
    { s with heap := (s.heap.push PySem.W.emptyDict).push (PySem.W.instObj C s.heap.objs.size) } := by
  have e1 : (s.heap.push PySem.W.emptyDict).get? s.heap.objs.size = some PySem.W.emptyDict := Heap.get?_push_size s.heap rfl
  have e2 : ((s.heap.push PySem.W.emptyDict).push (PySem.W.instObj C s.heap.objs.size)).get? (s.heap.objs.size + 1) = some (PySem.W.instObj C s.heap.objs.size) := by
    have := Heap.get?_push_size (s.heap.push PySem.W.emptyDict) (o := PySem.W.instObj C s.heap.objs.size) rfl
    rwa [Heap.size_push] at this
  have e3 : (s.heap.push PySem.W.emptyDict).Ns s.heap.objs.size (fun _ => none) := ⟨PySem.W.emptyDict, #[], _, e1, rfl, (fun e he => absurd he (by simp)), fun _ => rfl⟩
  have I1 := I.laid (a := s.heap.objs.size) (o := .own (s.heap.objs.size + 1)) (h' := s.heap.push PySem.W.emptyDict) (t' := s.toks) (fun b u q => Heap.get?_push_of_some _ q) (Nat.le_refl _) ⟨_, e1⟩
  refine I1.laid (a := s.heap.objs.size + 1) (o := .ins C s.heap.objs.size []) (t' := s.toks) (fun b u q => Heap.get?_push_of_some _ q) (Nat.le_of_eq (Heap.size_push _ _)) ?_
  have ne : s.heap.objs.size ≠ s.heap.objs.size + 1 := Nat.ne_of_lt (Nat.lt_succ_self _)
  refine ⟨by rw [upd_ne ne, upd_same], Nat.zero_le _, ne, e2, fun _ => none, (Heap.Ns1.of_empty e3).at fun o q => Heap.get?_push_of_some _ q, fun _ => True.intro, fun y hy => absurd rfl hy⟩
theorem attr_of {prog : Program} {w : World} {env : Env} {e : Expr} {f : Str} {pos : Pos} {s : Shared} {Q : Value → Shared → Prop} (hb : attributeBase e f env (eval e env) = eval e env)
    (h : wpAny (model prog w) A (eval e env) (fun o s₁ => wpAny (model prog w) A (getAttr o f true) Q E s₁) E s) : wpAny (model prog w) A (eval (.Attribute e f pos) env) Q E s :=
  Attribute_any_ h (by rw [arm_eval_Attribute, hb])
end
def tFld (K : PySem.W.Frag) (ta : TE) (f : Str) : TE := fun σ H Q => ta σ H fun x H1 => ∃ a C dx fs v, x = .ref a ∧ H1 a = some (.ins C dx fs) ∧ Cls K C ∧ NoAttr K C f ∧ fs.lookup f = some v ∧ Q v H1
def sFld (K : PySem.W.Frag) (ta tv : TE) (f : Str) : TS := fun D σ H => tv σ H fun y H1 => ta σ H1 fun x H2 => ∃ a C dx fs, x = .ref a ∧ H2 a = some (.ins C dx fs) ∧ Cls K C ∧ NoAttr K C f ∧ fs.length < 1000 ∧
  D.nx σ (upd H2 a (.ins C dx (putF f y fs)))
section
variable {X : Cx} {o e value : Expr} {f : Str} {pos pos' tpos : Pos} {ta tv : TE}
theorem pe_fld (he : PE X e ta) (hb : attributeBase e f X.env (eval e X.env) = eval e X.env) : PE X (.Attribute e f pos) (tFld X.K ta f) := by
  intro pins s σ H Q I h
  refine attr_of hb (thn (he pins s σ H _ I h) fun u s1 ⟨x, H1, I1, rx, a, C, dx, fs, v, ex, ea, c, n, l, q⟩ => ?_)
  subst ex
  obtain rfl : u = Value.ref a := rx
  exact getattr_ok I1 ea c n l fun u' s2 I2 ru => ⟨v, H1, I2, ru, q⟩
theorem ps_fld (ha : PE X o ta) (hv : PE X value tv) (hs : swapsWith value (some (.Attribute o f pos')) pos.line X.env = pure false) : PS X (.Assign [.Attribute o f pos'] value pos) (sFld X.K ta tv f) := by
  intro pins s σ H D I h
  refine plainObj_wpAny_Assign_Attribute (thn (hv pins s σ H _ I h) fun u s1 ⟨y, H1, I1, ry, q⟩ => thn (ha pins s1 σ H1 _ I1 q) fun ov s2 ⟨x, H2, I2, rx, a, C, dx, fs, ex, ea, c, n, l, q2⟩ => ?_) hs
  subst ex
  obtain rfl : ov = Value.ref a := rx
  exact setattr_ok I2 ea c n l ry fun s3 I3 => ⟨σ, _, I3, q2⟩
end
section
variable {X : Cx} {pins : List (Addr × Obj)} {σ : St} {H : Hp} {s : Shared} {A : Around} {E : Value → Shared → Prop} {Q : Value → Shared → Prop} {c : Value} {b : Bool}
inductive TyOf (K : PySem.W.Frag) (H : Hp) : V → Value → Prop where
  | non : TyOf K H .non (.type "NoneType")
  | bl (x : Bool) : TyOf K H (.bl x) (.type "bool")
  | int (i : Int) : TyOf K H (.int i) (.type "int")
  | str (x : Str) : TyOf K H (.str x) (.type "str")
  | flt (x : UInt64) : TyOf K H (.flt x) (.type "float")
  | lst {a : Addr} {xs : List V} (e : H a = some (.lst xs)) : TyOf K H (.ref a) (.type "list")
  | frz {a : Addr} {o : Obj} {xs : List V} (e : H a = some (.frz o (.lst xs))) : TyOf K H (.ref a) (.type "list")
  | tup {a : Addr} {xs : List V} (e : H a = some (.tup xs)) : TyOf K H (.ref a) (.type "tuple")
  | dK {a : Addr} {kvs : List (Key × V)} (e : H a = some (.dK kvs)) : TyOf K H (.ref a) (.type "dict")
  | dT {a : Addr} {kvs : List (List Key × V)} (e : H a = some (.dT kvs)) : TyOf K H (.ref a) (.type "dict")
  | ins {a C dx : Addr} {fs : List (Str × V)} (e : H a = some (.ins C dx fs)) (cl : Cls K C) (ha : PySem.W.findIn K (.ref C) "__class__" = some (some (.builtin "object.__class__")))
      (hn : PySem.W.specialIn K (.builtin "object.__class__") "__get__" = some (some (.builtin "getset_descriptor.__get__"))) (htk : PySem.W.takesIn K (.builtin "object.__class__") = some true)
      (hm : PySem.W.mroIn K C (.type "object") = some true) : TyOf K H (.ref a) (.ref C)
theorem isinst_ok {x : V} {u t : Value} (I : Inv X pins σ H s) (rx : RelV x u) (ty : TyOf X.K H x t) (e : PySem.W.kitOne X.K t c = some b) (h : ∀ tk, Q (.bool b) { s with toks := tk }) :
    wpAny (model X.prog X.w) A (call (.builtin "isinstance") [u, c]) Q E s := by
  cases ty with
  | non => cases (show u = Value.none from rx); exact PySem.W.kia_one PySem.W.kitx_none I.kIn True.intro e (fun z => nomatch z) h
  | bl y => cases (show u = Value.bool y from rx); exact PySem.W.kia_one PySem.W.kitx_bool I.kIn True.intro e (fun z => nomatch z) h
  | int i => obtain ⟨t, q⟩ := (show ∃ t, u = Value.int i t from rx); cases q; exact PySem.W.kia_one PySem.W.kitx_int I.kIn True.intro e (fun z => nomatch z) h
  | str y => obtain ⟨t, q⟩ := (show ∃ t, u = Value.str y t from rx); cases q; exact PySem.W.kia_one PySem.W.kitx_str I.kIn True.intro e (fun z => nomatch z) h
  | flt y => obtain ⟨t, q⟩ := (show ∃ t, u = Value.float y t from rx); cases q; exact PySem.W.kia_one PySem.W.kitx_float I.kIn True.intro e (fun z => nomatch z) h
  | @lst a xs ea =>
    cases (show u = Value.ref a from rx)
    obtain ⟨_, _, n, _, h1⟩ := (show ObjOk X.prog X.w H s.heap a (.lst xs) from I.hok a _ ea)
    exact PySem.W.kia_one PySem.W.kitx_list I.kIn ⟨_, h1, rfl⟩ e (fun z => nomatch z) h
  | @frz a ob xs ea =>
    cases (show u = Value.ref a from rx)
    obtain ⟨_, _, _, n, _, h1⟩ := (show ObjOk X.prog X.w H s.heap a (.frz ob (.lst xs)) from I.hok a _ ea)
    exact PySem.W.kia_one PySem.W.kitx_list I.kIn ⟨_, h1, rfl⟩ e (fun z => nomatch z) h
  | @tup a xs ea =>
    cases (show u = Value.ref a from rx)
    obtain ⟨_, _, _, p⟩ := (show ObjOk X.prog X.w H s.heap a (.tup xs) from I.hok a _ ea)
    obtain ⟨o, h1, h2, _⟩ := p
    exact PySem.W.kia_one PySem.W.kitx_tuple I.kIn ⟨o, h1, h2⟩ e (fun z => nomatch z) h
  | @dK a kvs ea =>
    cases (show u = Value.ref a from rx)
    obtain ⟨_, _, vs, _, p⟩ := (show ObjOk X.prog X.w H s.heap a (.dK kvs) from I.hok a _ ea)
    obtain ⟨o, es, ep, h1, h2, _⟩ := p
    exact PySem.W.kia_one PySem.W.kitx_dict I.kIn ⟨o, h1, h2.1⟩ e (fun z => nomatch z) h
  | @dT a kvs ea =>
    cases (show u = Value.ref a from rx)
    obtain ⟨_, _, xs, _, o, es, ep, h1, h2, _⟩ := (show ObjOk X.prog X.w H s.heap a (.dT kvs) from I.hok a _ ea)
    exact PySem.W.kia_one PySem.W.kitx_dict I.kIn ⟨o, h1, h2.1⟩ e (fun z => nomatch z) h
  | @ins a C dx fs ea cl ha hn htk hm =>
    cases (show u = Value.ref a from rx)
    obtain ⟨mA, O, _⟩ := ins_get I.hok ea
    obtain ⟨od, J, _⟩ := O.look
    exact PySem.W.kia_one (PySem.W.kitx_own (cl.get _) cl.hd ha hn htk hm) I.kIn J e (fun z => nomatch z) h
end
end L2
namespace L2
open PySem PySem.Spec PyProof.Rows
structure Room (k : Nat) (A : Around) : Prop where
  hd : A.handled = none
  dp : A.depth + 3 * k + 5 < recursionLimit
  un : A.units + 16 * k + 200 < cLine
theorem Room.mono {j k : Nat} {A : Around} (r : Room k A) (h : j ≤ k) : Room j A := ⟨r.hd, by have := r.dp; omega, by have := r.un; omega⟩
theorem Room.deeper {k : Nat} {A : Around} (r : Room (k + 1) A) (env : Env) : Room k (A.deeper env) :=
  ⟨r.hd, by have := r.dp; show A.depth + 1 + 3 * k + 5 < _; omega, by have := r.un; show A.units + 3 + 16 * k + 200 < _; omega⟩
theorem make_depth {A : Around} {C : Addr} {us : List Value} {kw : List (Str × Value)} : (A.under (.builtin "type.__call__" ⟨.ref C :: us, kw⟩)).depth = A.depth + 1 := by
  first | rfl | simp [Around.under, Code.weight, Code.isCreation, Code.isGuard, Code.isCaller, Code.frames, Code.isFrame, guardIds]
theorem make_units {A : Around} {C : Addr} {us : List Value} {kw : List (Str × Value)} : (A.under (.builtin "type.__call__" ⟨.ref C :: us, kw⟩)).units = A.units + 1 := by
  first | rfl | simp [Around.under, Code.cUnits, Code.frames, Code.isFrame]
theorem Room.make {k : Nat} {A : Around} (r : Room (k + 1) A) (C : Addr) (us : List Value) (kw : List (Str × Value)) : Room k (A.under (.builtin "type.__call__" ⟨.ref C :: us, kw⟩)) :=
  ⟨r.hd, by have := r.dp; rw [make_depth]; omega, by have := r.un; rw [make_units]; omega⟩
theorem Room.depth {k : Nat} {A : Around} (r : Room k A) : A.depth < recursionLimit := by have := r.dp; omega
theorem Room.units {k : Nat} {A : Around} (r : Room k A) : A.units + 64 < cLine := by have := r.un; omega
def tNil : TA := fun _ H Q => Q [] H
def tCons (ta : TE) (tr : TA) : TA := fun σ H Q => ta σ H fun x H1 => tr σ H1 fun xs H2 => Q (x :: xs) H2
section
variable {X : Cx} {e : Expr} {es : List Expr} {te : TE} {t : TA} {pos : Pos}
theorem pa_nil : PA X [] tNil := fun _ _ _ _ H Q I h => Calls.spliced_nil ⟨[], H, I, .nil, h⟩
theorem pa_cons (ha : PE X e te) (hr : PA X es t) (hs : starEach (e :: es) X.env = (false, eval e X.env) :: starEach es X.env := by rfl) : PA X (e :: es) (tCons te t) := by
  intro pos pins s σ H Q I h
  rw [hs]
  show wpAny _ _ (spliced ((false, eval e X.env) :: backTo pos (starEach es X.env))) _ _ s
  refine Calls.spliced_cons (thn (ha pins s σ H _ I h) fun u s1 ⟨x, H1, I1, r1, q1⟩ => ?_)
  exact thn (hr pos pins s1 σ H1 _ I1 q1) fun us s2 ⟨xs, H2, I2, r2, q2⟩ => ⟨x :: xs, H2, I2, .cons r1 r2, q2⟩
def tTup (t : TA) : TE := fun σ H Q => t σ H fun xs H1 => xs.length ≤ sizeLine ∧ ∀ p, H1 p = none → Q (.ref p) (upd H1 p (.tup xs))
def tLst (t : TA) : TE := fun σ H Q => t σ H fun xs H1 => xs.length ≤ sizeLine ∧ ∀ p, H1 p = none → Q (.ref p) (upd H1 p (.lst xs))
theorem pe_tup {x1} (h : PA X es t) : PE X (.Tuple es x1 pos) (tTup t) := by
  intro pins s σ H Q I hq
  refine wpAny_Tuple_spliced (thn (h pos pins s σ H _ I hq) fun us s1 ⟨xs, H1, I1, r, z, q⟩ => ⟨by rw [← r.length]; exact z, ?_⟩)
  have hf : H1 s1.heap.objs.size = none := I1.hok.fresh (Nat.le_refl _)
  refine ⟨.ref s1.heap.objs.size, upd H1 s1.heap.objs.size (.tup xs), I1.laid (t' := s1.toks) (fun b u e => Heap.get?_push_of_some _ e) (Nat.le_refl _) ?_, rfl, q _ hf⟩
  exact ⟨z, us, r, ⟨_, Heap.get?_push_size _ rfl, rfl, _, rfl⟩⟩
theorem pe_lst (h : PA X es t) : PE X (.List es pos) (tLst t) := by
  intro pins s σ H Q I hq
  refine wpAny_List_spliced (thn (h pos pins s σ H _ I hq) fun us s1 ⟨xs, H1, I1, r, z, q⟩ => ⟨by rw [← r.length]; exact z, ?_⟩)
  have hf : H1 s1.heap.objs.size = none := I1.hok.fresh (Nat.le_refl _)
  refine ⟨.ref s1.heap.objs.size, upd H1 s1.heap.objs.size (.lst xs), I1.laid (t' := s1.toks) (fun b u e => Heap.get?_push_of_some _ e) (Nat.le_refl _) ?_, rfl, q _ hf⟩
  exact ⟨z, us, 0, r, Heap.get?_push_size _ rfl⟩
end
abbrev Sp := List V → Hp → VK → XK → Prop
abbrev CXT := List Env → Hp → Shared → XK → Value → Shared → Prop
structure Env0 (P : Program) (w : World) (K : PySem.W.Frag) (mg : Str → Option Value) (base : Heap) (A : Around) (outer : List Env) (s : Shared) (H : Hp) : Prop where
  frames : A.frames = some outer
  mod : Mod K mg base
  bs : ∀ b o, base.get? b = some o → s.heap.get? b = some o ∧ H b = none
  bsz : base.objs.size ≤ s.heap.objs.size
  funs : s.heap.FunFrames base outer
  frf : ∀ b ∈ frs outer, H b = none
  hok : HOk P w H s.heap
  bare : AllBare s.gens
def CE (outer : List Env) (P : Program) (w : World) (H : Hp) (s : Shared) (Q : VK) (u : Value) (s' : Shared) : Prop :=
  ∃ v H', s'.os = s.os ∧ AllBare s'.gens ∧ Un (frs outer) [] H H' s.heap s'.heap ∧ HOk P w H' s'.heap ∧ RelV v u ∧ Q v H'
def CR (CX : CXT) (outer : List Env) (P : Program) (w : World) (H : Hp) (s : Shared) (Q : VK) (E : XK) (r : Result) (s' : Shared) : Prop :=
  match r with
  | .ok (.ret u) => CE outer P w H s Q u s'
  | .ok _ => False
  | .error e => CX outer H s E e s'
structure FnOk (P : Program) (w : World) (K : PySem.W.Frag) (mg : Str → Option Value) (base : Heap) (CX : CXT) (k : Nat) (f : Addr) (fd : FuncData) (ps : List Str) (sp : Sp) : Prop where
  len : ∀ vs H Q E, sp vs H Q E → vs.length = ps.length
  run : ∀ (A : Around) (outer : List Env) (s : Shared) (H : Hp) (args : Args) (us : List Value) (vs : List V) (Q : VK) (E : XK), Room k A → Env0 P w K mg base A outer s H → BindsTo s fd args (ps.zip us) → Vals vs us → sp vs H Q E →
    codeAny (model P w) A (.call (.ref f) args) (CR CX outer P w H s Q E) s
theorem Env0.make {P : Program} {w : World} {K : PySem.W.Frag} {mg : Str → Option Value} {base : Heap} {A : Around} {outer : List Env} {s : Shared} {H : Hp} (e : Env0 P w K mg base A outer s H) (C : Addr) (us : List Value) (kw : List (Str × Value)) :
    Env0 P w K mg base (A.under (.builtin "type.__call__" ⟨.ref C :: us, kw⟩)) outer s H := ⟨by first | exact e.frames | (simpa [Around.under, Code.envs, Code.isFrame, pushEnvs] using e.frames), e.mod, e.bs, e.bsz, e.funs, e.frf, e.hok, e.bare⟩
section
variable {X : Cx} {pins : List (Addr × Obj)} {σ : St} {H : Hp} {s s' : Shared}
theorem Inv.env0 (I : Inv X pins σ H s) : Env0 X.prog X.w X.K X.mg X.base X.A X.stack s H :=
  ⟨I.ok.frames, I.ok.mod, I.bs, Nat.le_trans I.ok.bsz I.sz, I.stack, I.stkFree, I.hok, I.bare⟩
theorem Inv.after {Q : VK} {u : Value} (I : Inv X pins σ H s) (h : CE X.stack X.prog X.w H s Q u s') : EP X pins σ Q u s' := by
  obtain ⟨v, H', os, bare, un, hok, r, q⟩ := h
  obtain ⟨hh, g, d, t, os'⟩ := s'
  obtain rfl : os' = s.os := os
  exact ⟨v, H', I.call (h' := hh) (g' := g) (d' := d) (t' := t) (ch := []) un hok bare (fun b z => absurd z (by simp)), r, q⟩
end
def tCall (sp : Sp) (dvs : List V) (E : XK) (t : TA) : TE := fun σ H Q => t σ H fun vs H1 => sp (vs ++ dvs) H1 Q E
def tMeth (C : Addr) (m : Str) (sp : Sp) (dvs : List V) (E : XK) (ta : TE) (t : TA) : TE := fun σ H Q => ta σ H fun x H1 => ∃ a dx fs, x = .ref a ∧ H1 a = some (.ins C dx fs) ∧ fs.lookup m = none ∧
  t σ H1 fun vs H2 => sp (x :: (vs ++ dvs)) H2 Q E
def tMake (C : Addr) (sp : Sp) (dvs : List V) (E : XK) (t : TA) : TE := fun σ H Q => t σ H fun vs H1 => ∀ x dx, H1 x = none → H1 dx = none → dx ≠ x →
  sp (.ref x :: (vs ++ dvs)) (upd (upd H1 dx (.own x)) x (.ins C dx [])) (fun v H2 => v = .non ∧ Q (.ref x) H2) E
def Binds (K : PySem.W.Frag) (fd : FuncData) (ps : List Str) (ds : List Value) : Prop :=
  ∀ (s : Shared) (us : List Value), K.In s.heap → (us ++ ds).length = ps.length → BindsTo s fd ⟨us, []⟩ (ps.zip (us ++ ds))
theorem Binds.all {K : PySem.W.Frag} {fd : FuncData} {ps : List Str} (h : ∀ us : List Value, us.length = ps.length → bindArgs fd ⟨us, []⟩ = pure (ps.zip us)) : Binds K fd ps [] := fun s us _ hl => by
  rw [List.append_nil] at hl ⊢
  exact .of_eq (h us hl)
def Passes (CX : CXT) (X : Cx) (E : XK) : Prop := ∀ (pins : List (Addr × Obj)) (σ : St) (H : Hp) (s : Shared) (e : Value) (s' : Shared), Inv X pins σ H s → CX X.stack H s E e s' → X.xe e s'
section
variable {X : Cx} {CX : CXT} {k : Nat} {f C : Addr} {fd : FuncData} {ps : List Str} {sp : Sp} {dvs : List V} {ds : List Value} {E : XK} {x m : Str} {p pos apos : Pos} {e o : Expr} {es : List Expr} {ta : TE} {t : TA}
theorem run_fn {pins : List (Addr × Obj)} {σ : St} {H : Hp} {s : Shared} {Q : VK} {us : List Value} {vs : List V} (F : FnOk X.prog X.w X.K X.mg X.base CX k f fd ps sp) (hr : Room k X.A) (hb : Binds X.K fd ps ds) (hd : Vals dvs ds) (hx : Passes CX X E)
    (I : Inv X pins σ H s) (r : Vals vs us) (h : sp (vs ++ dvs) H Q E) : wpAny (model X.prog X.w) X.A (call (.ref f) us) (EP X pins σ Q) X.xe s := by
  have r2 : Vals (vs ++ dvs) (us ++ ds) := r.append hd
  have hl : (us ++ ds).length = ps.length := by rw [← r2.length]; exact F.len _ _ _ _ h
  refine wpAny_call (codeAny_mono (F.run X.A X.stack s H ⟨us, []⟩ (us ++ ds) (vs ++ dvs) Q E hr I.env0 (hb s us I.kIn hl) r2 h) fun r s' hq => ?_)
  cases r with
  | error e => exact hx pins σ H s e s' I hq
  | ok fl =>
    cases fl with
    | ret u => exact I.after hq
    | next => exact False.elim hq
    | brk => exact False.elim hq
    | cont => exact False.elim hq
theorem pe_call (F : FnOk X.prog X.w X.K X.mg X.base CX k f fd ps sp) (hr : Room k X.A) (hg : Gl X x) (hm : X.mg x = some (.ref f)) (hk : PySem.W.keepIn X.K (.ref f) = true) (hb : Binds X.K fd ps ds) (hd : Vals dvs ds) (hx : Passes CX X E)
    (ha : PA X (e :: es) t) (hdb : (x == ("__debug__" : Str)) = false := by decide) (he : starEach (e :: es) X.env = (false, eval e X.env) :: starEach es X.env := by rfl) (hpl : (backTo pos (starEach es X.env)).any (·.1) = false := by rfl) :
    PE X (.Call (.Name x p) (e :: es) [] pos) (tCall sp dvs E t) := by
  intro pins s σ H Q I h
  refine wpAny_Call_Name_kw (ld_glob I hg hm ?_ hdb)
  refine PySem.W.callWith_K (h₀ := X.base) I.ok.mod.kin hk (thn (ha pos pins s σ H _ I h) fun us s1 ⟨vs, H1, I1, r, q⟩ => ⟨I1.kIn, ?_⟩) he hpl
  exact run_fn F hr hb hd hx I1 r q
theorem pe_meth {pl : Sem Bool} (he : PE X o ta) (c : Cls X.K C) (hm : Meth X.K C m f) (F : FnOk X.prog X.w X.K X.mg X.base CX k f fd ps sp) (hr : Room k X.A) (hb : Binds X.K fd ps ds) (hd : Vals dvs ds) (hx : Passes CX X E) (ha : PA X (e :: es) t)
    (hst : starEach (e :: es) X.env = (false, eval e X.env) :: starEach es X.env := by rfl) (hpl : (backTo pos (starEach es X.env)).any (·.1) = false := by rfl)
    (ht : eval (.Call (.Attribute o m apos) (e :: es) [] pos) X.env = (do
      let ov ← eval o X.env
      standAt apos.atName
      let (f, first) ← holding [ov] (getMethod ov m pl)
      callWith pos f first (backTo pos (starEach (e :: es) X.env)) (backToKw pos (keywordEach [] X.env))) := by rfl) :
    PE X (.Call (.Attribute o m apos) (e :: es) [] pos) (tMeth C m sp dvs E ta t) := by
  intro pins s σ H Q I h
  refine PySem.W.methodCall_KW (pl := pl) (thn (he pins s σ H _ I h) fun u s1 ⟨x, H1, I1, rx, a, dx, fs, ex, ea, l, q⟩ => ?_) ht
  subst ex
  obtain rfl : u = Value.ref a := rx
  refine getmeth_ok I1 ea c hm l ?_
  refine PySem.W.callWith_K (first := [.ref a]) (h₀ := X.base) I.ok.mod.kin hm.kp (thn (ha pos pins s1 σ H1 _ I1 q) fun us s2 ⟨vs, H2, I2, r, q2⟩ => ⟨I2.kIn, ?_⟩) hst hpl
  exact run_fn (us := .ref a :: us) (vs := .ref a :: vs) F hr hb hd hx I2 (.cons rfl r) q2
theorem pe_meth0 {pl : Sem Bool} (he : PE X o ta) (c : Cls X.K C) (hm : Meth X.K C m f) (F : FnOk X.prog X.w X.K X.mg X.base CX k f fd ps sp) (hr : Room k X.A) (hb : Binds X.K fd ps ds) (hd : Vals dvs ds) (hx : Passes CX X E)
    (ht : eval (.Call (.Attribute o m apos) [] [] pos) X.env = (do
      let ov ← eval o X.env
      standAt apos.atName
      let (f, first) ← holding [ov] (getMethod ov m pl)
      callWith pos f first (backTo pos (starEach [] X.env)) (backToKw pos (keywordEach [] X.env))) := by rfl) :
    PE X (.Call (.Attribute o m apos) [] [] pos) (tMeth C m sp dvs E ta tNil) := by
  intro pins s σ H Q I h
  refine PySem.W.methodCall_KW (pl := pl) (thn (he pins s σ H _ I h) fun u s1 ⟨x, H1, I1, rx, a, dx, fs, ex, ea, l, q⟩ => ?_) ht
  subst ex
  obtain rfl : u = Value.ref a := rx
  refine getmeth_ok I1 ea c hm l ?_
  exact PySem.W.callWith_K0 (first := [.ref a]) I1.kIn hm.kp (run_fn (us := [.ref a]) (vs := [.ref a]) F hr hb hd hx I1 (.cons rfl .nil) q)
structure Mk (K : PySem.W.Frag) (C f : Addr) : Prop where
  makes : PySem.W.makesIn K C = true
  init : PySem.W.findIn K (.ref C) "__init__" = some (some (.ref f))
  fn : PySem.W.isFn K (.ref f) = true
  kp : PySem.W.keepIn K (.ref C) = true
theorem run_make {pins : List (Addr × Obj)} {σ : St} {H : Hp} {s : Shared} {Q : VK} {us : List Value} {vs : List V} (M : Mk X.K C f) (F : FnOk X.prog X.w X.K X.mg X.base CX k f fd ps sp) (hr : Room (k + 1) X.A) (hb : Binds X.K fd ps ds) (hd : Vals dvs ds)
    (hx : Passes CX X E) (I : Inv X pins σ H s) (r : Vals vs us)
    (h : ∀ x dx, H x = none → H dx = none → dx ≠ x → sp (.ref x :: (vs ++ dvs)) (upd (upd H dx (.own x)) x (.ins C dx [])) (fun v H2 => v = .non ∧ Q (.ref x) H2) E) :
    wpAny (model X.prog X.w) X.A (call (.ref C) us) (EP X pins σ Q) X.xe s := by
  have hq := h (s.heap.objs.size + 1) s.heap.objs.size (I.hok.fresh (Nat.le_succ _)) (I.hok.fresh (Nat.le_refl _)) (Nat.ne_of_lt (Nat.lt_succ_self _))
  have I2 := Inv.made (C := C) I
  have r2 : Vals (V.ref (s.heap.objs.size + 1) :: (vs ++ dvs)) (Value.ref (s.heap.objs.size + 1) :: (us ++ ds)) := .cons rfl (r.append hd)
  have hl : (Value.ref (s.heap.objs.size + 1) :: us ++ ds).length = ps.length := by
    have e := r2.length
    rw [F.len _ _ _ _ hq] at e
    exact e.symm
  refine wpAny_call (make_map (f := f) I.kIn M.makes M.init (beq_iff_eq.mp M.fn) (codeAny_mono (F.run _ X.stack _ _ ⟨Value.ref (s.heap.objs.size + 1) :: us, []⟩ (Value.ref (s.heap.objs.size + 1) :: (us ++ ds)) _ _ E (hr.make C us [])
    (I2.env0.make C us []) (hb _ (Value.ref (s.heap.objs.size + 1) :: us) I2.kIn hl) r2 hq) fun r s' hq' => ?_))
  cases r with
  | error e => exact hx pins σ _ _ e s' I2 hq'
  | ok fl =>
    cases fl with
    | ret u =>
      obtain ⟨v, H', I3, rv, ev, q3⟩ := I2.after hq'
      subst ev
      exact ⟨rv, ⟨V.ref (s.heap.objs.size + 1), H', I3, rfl, q3⟩⟩
    | next => exact False.elim hq'
    | brk => exact False.elim hq'
    | cont => exact False.elim hq'
theorem pe_make (M : Mk X.K C f) (F : FnOk X.prog X.w X.K X.mg X.base CX k f fd ps sp) (hr : Room (k + 1) X.A) (hg : Gl X x) (hm : X.mg x = some (.ref C)) (hb : Binds X.K fd ps ds) (hd : Vals dvs ds) (hx : Passes CX X E)
    (ha : PA X (e :: es) t) (hdb : (x == ("__debug__" : Str)) = false := by decide) (he : starEach (e :: es) X.env = (false, eval e X.env) :: starEach es X.env := by rfl) (hpl : (backTo pos (starEach es X.env)).any (·.1) = false := by rfl) :
    PE X (.Call (.Name x p) (e :: es) [] pos) (tMake C sp dvs E t) := by
  intro pins s σ H Q I h
  refine wpAny_Call_Name_kw (ld_glob I hg hm ?_ hdb)
  refine PySem.W.callWith_K (h₀ := X.base) I.ok.mod.kin M.kp (thn (ha pos pins s σ H _ I h) fun us s1 ⟨vs, H1, I1, r, q⟩ => ⟨I1.kIn, ?_⟩) he hpl
  exact run_make M F hr hb hd hx I1 r q
end
section
variable {X : Cx} {CX : CXT} {k : Nat} {f C : Addr} {fd : FuncData} {ps ks : List Str} {sp : Sp} {E : XK} {x m : Str} {p pos apos kpos : Pos} {e o : Expr} {es : List Expr} {kws : List Keyword} {te ta : TE} {t tk : TA} {nm : Option Str}
variable {g : List Value → List Value → List Value} {gV : List V → List V → List V}
end
structure FnScope (N P : List Str) (sc : Scope) : Prop where
  kind : sc.kind = .function
  co : sc.isCoroutine = false
  gen : sc.isGenerator = false
  nd : N.Nodup
  pre : N.take P.length = P
  par : ∀ x ∈ P, sc.names.lookup x = some .local ∨ sc.names.lookup x = some .cell
  nofree : ∀ y ∈ sc.names, y.2 ≠ .free
theorem bindL_out {kindOf : Str → Option NameKind} {x : Str} : ∀ {binds : List (Str × Value)} {m : Str → Option Value}, (∀ v, (x, v) ∉ binds) → bindL kindOf binds m x = m x
  | [], _, _ => rfl
  | (n, v) :: r, m, h => by
    unfold bindL
    rw [bindL_out fun w hw => h w (List.mem_cons_of_mem _ hw)]
    split
    · have : x ≠ n := by rintro rfl; exact h v List.mem_cons_self
      simp [this]
    · rfl
theorem bindC_out {kindOf : Str → Option NameKind} {x : Str} : ∀ {binds : List (Str × Value)} {m : Str → Option Value}, (∀ v, (x, v) ∉ binds) → bindC kindOf binds m x = m x
  | [], _, _ => rfl
  | (n, v) :: r, m, h => by
    unfold bindC
    rw [bindC_out fun w hw => h w (List.mem_cons_of_mem _ hw)]
    split
    · rfl
    · have : x ≠ n := by rintro rfl; exact h v List.mem_cons_self
      simp [this]
theorem bindL_get {kindOf : Str → Option NameKind} {x : Str} {v : Value} : ∀ {P : List Str} {vs : List Value} {i : Nat} {m : Str → Option Value}, P.Nodup → P[i]? = some x → vs[i]? = some v → kindOf x = some .local →
    bindL kindOf (P.zip vs) m x = some v
  | [], _, _, _, _, h, _, _ => by simp at h
  | _ :: _, [], _, _, _, _, h, _ => by simp at h
  | p :: P, w :: vs, 0, m, nd, h1, h2, hk => by
    simp at h1 h2; subst h1; subst h2
    show bindL kindOf ((p, w) :: P.zip vs) m p = _
    unfold bindL
    rw [bindL_out fun v hv => (List.nodup_cons.mp nd).1 (List.of_mem_zip hv).1, if_pos hk]
    simp
  | p :: P, w :: vs, i + 1, m, nd, h1, h2, hk => by
    show bindL kindOf ((p, w) :: P.zip vs) m x = _
    unfold bindL
    exact bindL_get (i := i) (List.nodup_cons.mp nd).2 (by simpa using h1) (by simpa using h2) hk
theorem bindC_get {kindOf : Str → Option NameKind} {x : Str} {v : Value} : ∀ {P : List Str} {vs : List Value} {i : Nat} {m : Str → Option Value}, P.Nodup → P[i]? = some x → vs[i]? = some v → kindOf x ≠ some .local →
    bindC kindOf (P.zip vs) m x = some v
  | [], _, _, _, _, h, _, _ => by simp at h
  | _ :: _, [], _, _, _, _, h, _ => by simp at h
  | p :: P, w :: vs, 0, m, nd, h1, h2, hk => by
    simp at h1 h2; subst h1; subst h2
    show bindC kindOf ((p, w) :: P.zip vs) m p = _
    unfold bindC
    rw [bindC_out fun v hv => (List.nodup_cons.mp nd).1 (List.of_mem_zip hv).1, if_neg hk]
    simp
  | p :: P, w :: vs, i + 1, m, nd, h1, h2, hk => by
    show bindC kindOf ((p, w) :: P.zip vs) m x = _
    unfold bindC
    exact bindC_get (i := i) (List.nodup_cons.mp nd).2 (by simpa using h1) (by simpa using h2) hk
def start (N : List Str) (vs : List V) : St := vs.map some ++ List.replicate (N.length - vs.length) none
def cxOf (CX : CXT) (P : Program) (w : World) (K : PySem.W.Frag) (mg : Str → Option Value) (base : Heap) (N : List Str) (qual : Str) (scope : Scope) (f : Addr) (cd : Value) (A : Around) (outer : List Env) (s : Shared) (H : Hp) (E : XK) : Cx where
  prog := P
  w := w
  K := K
  mg := mg
  base := base
  A := A.deeper (envOfC qual scope s.heap.objs.size f cd)
  N := N
  s₀ := s
  H₀ := H
  env := envOfC qual scope s.heap.objs.size f cd
  outer := outer
  stack := envOfC qual scope s.heap.objs.size f cd :: outer
  ex := []
  calm := true
  cp := fun _ => true
  fn := fun _ => true
  pn := []
  xe := fun e s' => wpAny (model P w) (A.deeper (envOfC qual scope s.heap.objs.size f cd)) (leaving (envOfC qual scope s.heap.objs.size f cd) e) (fun _ s'' => CX outer H s E e s'') (fun e' s'' => CX outer H s E e' s'') s'
theorem cell_has {sc : Scope} {n : Nat} {x : Str} (h : sc.names.lookup x = some .cell) : ∃ c, (cellsFrom n sc.names []).lookup x = some c := by
  have q := PySem.W.cellsFrom_some sc.names n [] (.inl h)
  exact Option.isSome_iff_exists.mp q
theorem inv_start {CX : CXT} {P : Program} {w : World} {K : PySem.W.Frag} {mg : Str → Option Value} {base : Heap} {N ps : List Str} {qual : Str} {scope : Scope} {f : Addr} {cd : Value} {A : Around} {outer : List Env} {s s1 : Shared} {H : Hp} {E : XK} {us : List Value} {vs : List V}
    (S : FnScope N ps scope) (hd : A.handled = none) (e0 : Env0 P w K mg base A outer s H) (hl : vs.length = ps.length) (r : Vals vs us)
    (x : InCallC s s.heap.objs.size (bindL (envOfC qual scope s.heap.objs.size f cd).kindOf (ps.zip us) fun _ => none) (cellsFrom (s.heap.objs.size + 1) scope.names []) (bindC (envOfC qual scope s.heap.objs.size f cd).kindOf (ps.zip us) fun _ => none) s1) :
    Inv (cxOf CX P w K mg base N qual scope f cd A outer s H E) [] (start N vs) H s1 := by
  have hpl : ps.length ≤ N.length := by have := congrArg List.length S.pre; rw [List.length_take] at this; omega
  obtain ⟨h1, tk, rfl, hk⟩ := x.done
  have noA : ∀ b : Addr, b ∉ (cxOf CX P w K mg base N qual scope f cd A outer s H E).ex := fun b z => absurd (show b ∈ ([] : List Addr) from z) (by simp)
  refine ⟨⟨e0.mod, S.kind, rfl, rfl, Nat.le_refl _, fun y z c h1 h2 => ?_, fun y hy => ?_, fun y c _ h => ?_, fun _ => hd, Around.frames_deeper e0.frames, .inr ⟨rfl, rfl⟩, fun b z => absurd z (noA b), e0.bs, e0.bsz, fun b _ _ => noA b, fun b z => absurd z (noA b), e0.funs, e0.frf, fun y c _ h => Nat.le_of_lt (x.above y c (PySem.mem_of_lookup h)), fun b hb => e0.hok.fresh hb⟩,
    rfl, e0.bare, Un.kept hk, ⟨_, x.toInCall.ns, fun i y v h1 h2 h3 => ?_⟩, fun y c h => ⟨_, x.cell y c h⟩, e0.hok.fresh (Nat.le_refl _), fun y c h => .inl ?_, fun p hp => absurd (show p ∈ ([] : List (Addr × Obj)) from hp) (by simp), e0.hok.kept hk, ?_⟩
  · exact name_of_addr x.apart (PySem.mem_of_lookup h1) (PySem.mem_of_lookup h2)
  · have hy : scope.names.lookup y = some .cell ∨ scope.names.lookup y = some .free := hy
    rcases hy with hy | hy
    · exact cell_has hy
    · exact absurd rfl (S.nofree _ (PySem.mem_of_lookup hy))
  · exact Nat.le_of_lt (x.above y c (PySem.mem_of_lookup h))
  · have hi : i < vs.length := by
      unfold start at h2
      by_cases hi : i < vs.length
      · exact hi
      · rw [List.getElem?_append_right (by simpa using hi)] at h2
        rw [List.getElem?_replicate] at h2
        split at h2 <;> cases h2
    have ha : vs[i]? = some v := by
      unfold start at h2
      rw [List.getElem?_append_left (by simpa using hi), List.getElem?_map] at h2
      cases e : vs[i]? with
      | none => rw [e] at h2; cases h2
      | some a => rw [e] at h2; cases h2; rfl
    obtain ⟨u, hu, rv⟩ := r.get ha
    have hp : ps[i]? = some y := by
      rw [← S.pre, List.getElem?_take_of_lt (by omega)]; exact h1
    have ndP : ps.Nodup := by rw [← S.pre]; exact S.nd.sublist (List.take_sublist _ _)
    refine ⟨u, rv, ?_⟩
    rcases S.par y (List.mem_of_getElem? hp) with k | k
    · exact .inl ⟨k, bindL_get ndP hp hu k⟩
    · obtain ⟨c, e⟩ := cell_has (n := s.heap.objs.size + 1) k
      refine .inr ⟨.inl k, c, e, ?_⟩
      have q := x.cell y c e
      rw [bindC_get ndP hp hu (by show scope.names.lookup y ≠ _; rw [k]; decide)] at q
      exact q
  · exact e0.hok.fresh (Nat.le_of_lt (x.above y c (PySem.mem_of_lookup h)))
  · unfold start
    show _ = N.length
    rw [List.length_append, List.length_map, List.length_replicate]
    omega
theorem fn_of {CX : CXT} {P : Program} {w : World} {K : PySem.W.Frag} {mg : Str → Option Value} {base : Heap} {k : Nat} {f : Addr} {name qual : Str} {params : Arguments} {body : List Stmt} {scope : Scope} {dV kV doc pm cdv ct oc : Value} {an od : Option Addr}
    {osl : Array (Option Value)} {N ps : List Str} {sp : Sp} (lk : K.lookup f = some ⟨oc, od, .func (PySem.W.fnOf name qual params body scope dV kV doc pm an cdv ct), osl⟩) (hcd : PySem.W.codeIn K cdv qual = true) (S : FnScope N ps scope)
    (len : ∀ vs H Q E, sp vs H Q E → vs.length = ps.length)
    (hbody : ∀ (A : Around) (outer : List Env) (s : Shared) (H : Hp) (vs : List V) (Q : VK) (E : XK), Room k (A.deeper (envOfC qual scope s.heap.objs.size f cdv)) → sp vs H Q E →
      ∃ t, PSs (cxOf CX P w K mg base N qual scope f cdv A outer s H E) body t ∧ t { nx := fun _ H' => Q .non H', rt := Q } (start N vs) H) :
    FnOk P w K mg base CX (k + 1) f (PySem.W.fnOf name qual params body scope dV kV doc pm an cdv ct) ps sp := by
  refine ⟨len, fun A outer s H args us vs Q E hr e0 hb r hsp => ?_⟩
  have hl := len _ _ _ _ hsp
  have KX : K.In s.heap := e0.mod.kin.keeps fun b o e => (e0.bs b o e).1
  have lim : s.heap.NoLimit := e0.mod.nolimit.keeps fun b o e => (e0.bs b o e).1
  have hkind : ∀ y ∈ ps.zip us, scope.names.lookup y.1 = some .local ∨ (scope.names.lookup y.1 = some .cell ∧ ((cellsFrom (s.heap.objs.size + 1) scope.names []).lookup y.1).isSome = true) := fun ⟨n, v⟩ hy => by
    rcases S.par n (List.of_mem_zip hy).1 with q | q
    · exact .inl q
    · exact .inr ⟨q, PySem.W.cellsFrom_some _ _ _ (.inl q)⟩
  refine codeAny_call_function hr.depth (KX _ _ lk) rfl S.co S.gen rfl (PySem.W.codeRec_of KX hcd) (hb _ _ _ _ ?_)
  refine wpAny_newFunctionEnv_cells S.kind hkind fun env he s1 x => ?_
  subst he
  refine ⟨lim.keeps x.toInCall.keep, codeAny_func ?_⟩
  obtain ⟨t, ht, hq⟩ := hbody A outer s H vs Q E (hr.deeper _) hsp
  have I : Inv (cxOf CX P w K mg base N qual scope f cdv A outer s H E) [] (start N vs) H s1 := inv_start S hr.hd e0 hl r x
  refine wpAny_mono (ht [] s1 (start N vs) H _ I hq) (fun fl s' hs => ?_) fun e s' hs => hs
  have fin : ∀ {σ' : St} {H' : Hp} {v : V} {u : Value}, Inv (cxOf CX P w K mg base N qual scope f cdv A outer s H E) [] σ' H' s' → RelV v u → Q v H' → CE outer P w H s Q u s' :=
    fun {σ' H' v u} J rv q => ⟨v, H', J.os, J.bare, J.base, J.hok, rv, q⟩
  cases fl with
  | ret u =>
    obtain ⟨v, σ', H', J, rv, q⟩ := hs
    exact fin J rv q
  | next =>
    obtain ⟨σ', H', J, q⟩ := hs
    exact fin (v := V.non) (u := Value.none) J rfl q
  | brk =>
    obtain ⟨_, _, _, q⟩ := hs
    exact False.elim q
  | cont =>
    obtain ⟨_, _, _, q⟩ := hs
    exact False.elim q
end L2
namespace L2
open PySem PySem.Spec PyProof.Rows
section
variable {X : Cx} {x : Str} {p pos : Pos} {e : Expr} {es : List Expr} {t : TA} {id T : String} {r : List V → Hp → VK → Prop}
def tCB (r : List V → Hp → VK → Prop) (t : TA) : TE := fun σ H Q => t σ H fun vs H1 => r vs H1 Q
theorem pe_callB (hc : CallR X (.builtin id) r) (hg : Gl X x) (hm : X.mg x = none) (hv : bootBuiltins x = some (.builtin id)) (ha : PA X (e :: es) t) (hn : x ≠ "__name__" := by decide) (hdb : (x == ("__debug__" : Str)) = false := by decide)
    (he : starEach (e :: es) X.env = (false, eval e X.env) :: starEach es X.env := by rfl) (hpl : (backTo pos (starEach es X.env)).any (·.1) = false := by rfl) : PE X (.Call (.Name x p) (e :: es) [] pos) (tCB r t) := by
  intro pins s σ H Q I h
  refine wpAny_Call_Name_kw (ld_blt I hg hm hv ?_ hn hdb)
  exact PyProof.Rows.callWith_builtin1 (thn (ha pos pins s σ H _ I h) fun us s1 ⟨vs, H1, I1, r1, q1⟩ => hc pins s1 σ H1 vs us Q I1 r1 q1) he hpl
theorem pe_callTy (hc : CallR X (.type T) r) (hg : Gl X x) (hm : X.mg x = none) (hv : bootBuiltins x = some (.type T)) (ha : PA X (e :: es) t) (hn : x ≠ "__name__" := by decide) (hdb : (x == ("__debug__" : Str)) = false := by decide)
    (he : starEach (e :: es) X.env = (false, eval e X.env) :: starEach es X.env := by rfl) (hpl : (backTo pos (starEach es X.env)).any (·.1) = false := by rfl) : PE X (.Call (.Name x p) (e :: es) [] pos) (tCB r t) := by
  intro pins s σ H Q I h
  refine wpAny_Call_Name_kw (ld_blt I hg hm hv ?_ hn hdb)
  exact PyProof.Rows.callWith_type1 (thn (ha pos pins s σ H _ I h) fun us s1 ⟨vs, H1, I1, r1, q1⟩ => hc pins s1 σ H1 vs us Q I1 r1 q1) he hpl
end
end L2
namespace HT
open PySem PyProof.Rows
def lexLt : List Int → List Int → Bool
  | [], [] => false
  | [], _ :: _ => true
  | _ :: _, [] => false
  | x :: xs, y :: ys => if x = y then lexLt xs ys else decide (x < y)
theorem lexLt_cons (x y : Int) (xs ys : List Int) : lexLt (x :: xs) (y :: ys) = if x = y then lexLt xs ys else decide (x < y) := rfl
theorem lexLt_nil_nil : lexLt [] [] = false := rfl
section
open PySem.SeqAt
open PySem.AutoSeq1 (wpAny_loadPart')
open PySem.MeetsSeq PySem.MeetsSeq2 PySem.MeetsSeq3
end
section
variable {prog : Program} {w : World} {A : Around} {E : Value → Shared → Prop} {s : Shared}
def sIx (n d : Nat) : Option Int → Nat
  | none => d
  | some v => if v < 0 then (v + (n : Int)).toNat else min v.toNat n
theorem sIx_none (n d : Nat) : sIx n d none = d := rfl
theorem sIx_le (n d : Nat) (hd : d ≤ n) (o : Option Int) : sIx n d o ≤ n := by
  cases o with
  | none => exact hd
  | some v =>
    show (if v < 0 then (v + (n : Int)).toNat else min v.toNat n) ≤ n
    by_cases hv : v < 0
    · rw [if_pos hv]; omega
    · rw [if_neg hv]; exact Nat.min_le_right _ _
theorem clip_eq (v : Int) (n d : Nat) : (if v < 0 then max (v + (n : Int)) 0 else min v (n : Int)) = ((sIx n d (some v) : Nat) : Int) := by
  show (if v < 0 then max (v + (n : Int)) 0 else min v (n : Int)) = (((if v < 0 then (v + (n : Int)).toNat else min v.toNat n) : Nat) : Int)
  by_cases hv : v < 0
  · simp only [if_pos hv]; omega
  · simp only [if_neg hv]; omega
theorem adjust_gen (lo hi : Option Int) (n : Nat) : Builtin.Slice.sliceAdjust lo hi 1 (n : Int) = (((sIx n 0 lo : Nat) : Int), ((sIx n n hi : Nat) : Int)) := by
  have h1 : ¬ ((1 : Int) < 0) := by omega
  unfold Builtin.Slice.sliceAdjust
  simp only [h1, if_false]
  refine Prod.ext ?_ ?_
  · cases lo with
    | none => rfl
    | some v => exact clip_eq v n 0
  · cases hi with
    | none => rfl
    | some v => exact clip_eq v n n
theorem places_gen (i j : Nat) : Builtin.Slice.slicePlaces (i : Int) (j : Int) 1 = j - i := by
  unfold Builtin.Slice.slicePlaces
  have h1 : (1 : Int) > 0 := by omega
  simp only [h1, if_true, Int.ediv_one]
  split <;> omega
theorem slicePart_ {v : Value} {o : Option Int} {Q : Option Int → Shared → Prop} (p : IsPart v o) (h : Q o s) : wpAny (model prog w) A (Builtin.Slice.slicePartIndex v) Q E s := by
  cases p with
  | none => exact slicePart_none h
  | int i t => exact slicePart_int h
theorem sliceApplied_gen {sl : Addr} {vl vu : Value} {lo hi : Option Int} {n : Nat} {Q : Int × Int × Nat → Shared → Prop} (hs : s.heap.IsSliceOf sl vl vu .none) (pl : IsPart vl lo) (pu : IsPart vu hi)
    (h : Q (((sIx n 0 lo : Nat) : Int), 1, sIx n n hi - sIx n 0 lo) s) : wpAny (model prog w) A (Builtin.Slice.sliceApplied (.ref sl) (pure (n : Int))) Q E s := by
  obtain ⟨os, hos, hcs, hds⟩ := id hs
  unfold Builtin.Slice.sliceApplied Builtin.Slice.sliceFields
  refine wpAny_bind (wpAny_bind (wpAny_field hos hds (x := vl) rfl (wpAny_bind (wpAny_field hos hds (x := vu) rfl (wpAny_bind (wpAny_field hos hds (x := .none) rfl (wpAny_pure ?_)))))))
  refine wpAny_bind (slicePart_none ?_)
  show wpAny _ _ (if ((1 : Int) == 0) = true then _ else _) _ _ s
  rw [if_neg (by decide)]
  refine wpAny_bind (slicePart_ pl (wpAny_bind (slicePart_ pu (wpAny_bind (wpAny_pure ?_)))))
  show wpAny _ _ (match Builtin.Slice.sliceAdjust lo hi 1 (n : Int) with | (lo, hi) => pure (lo, (1 : Int), Builtin.Slice.slicePlaces lo hi 1)) _ _ s
  rw [adjust_gen lo hi n]
  show wpAny _ _ (pure (((sIx n 0 lo : Nat) : Int), (1 : Int), Builtin.Slice.slicePlaces ((sIx n 0 lo : Nat) : Int) ((sIx n n hi : Nat) : Int) 1)) _ _ s
  rw [places_gen]
  exact wpAny_pure h
theorem pick_gen (xs : Array Value) (i k : Nat) : ((List.range k).filterMap fun (m : Nat) => xs[((i : Int) + (m : Int) * 1).toNat]?).toArray = ((xs.toList.drop i).take k).toArray := by
  have e : (fun (m : Nat) => xs[((i : Int) + (m : Int) * 1).toNat]?) = fun m => xs[i + m]? := by
    funext m
    have : ((i : Int) + (m : Int) * 1).toNat = i + m := by omega
    rw [this]
  rw [e]
  have := pick_run xs i k
  rw [List.filterMap_map] at this
  have e2 : ((fun x => xs[x]?) ∘ fun x => i + x) = fun m => xs[i + m]? := rfl
  rw [e2] at this
  rw [this]
theorem getItem_tuple_cut {t sl : Addr} {items : Array Value} {vl vu : Value} {lo hi : Option Int} {Q : Value → Shared → Prop} (ht : IsTup s.heap t items) (hs : s.heap.IsSliceOf sl vl vu .none) (pl : IsPart vl lo) (pu : IsPart vu hi)
    (hw : ¬ (sIx items.size 0 lo = 0 ∧ sIx items.size items.size hi = items.size))
    (h : Q (.ref s.heap.objs.size) { s with heap := s.heap.push { cls := .type "tuple", data := .seq ((items.toList.drop (sIx items.size 0 lo)).take (sIx items.size items.size hi - sIx items.size 0 lo)).toArray } })
    (hsz : items.size ≤ sizeLine) : wpAny (model prog w) A (getItem (.ref t) (.ref sl)) Q E s := by
  have htake : sizeOk (.seq ((items.toList.drop (sIx items.size 0 lo)).take (sIx items.size items.size hi - sIx items.size 0 lo)).toArray) := by
    show ((items.toList.drop (sIx items.size 0 lo)).take (sIx items.size items.size hi - sIx items.size 0 lo)).toArray.size ≤ sizeLine
    rw [List.size_toArray, List.length_take, List.length_drop, Array.length_toList]
    omega
  have hj : sIx items.size items.size hi ≤ items.size := sIx_le _ _ (Nat.le_refl _) hi
  obtain ⟨os, hos, hcs, hds⟩ := id hs
  have hTs : s.TypeIs (.ref sl) "slice" := ⟨os, hos, hcs⟩
  unfold getItem
  try with_reducible refine wpAny_holding ?_
  first | refine wpAny_bind (wpAny_pure ?_) | skip
  refine wpAny_bind (wpAny_sequenceKey ht.typeIs (by decide) ?_)
  refine wpAny_bind (wpAny_callSpecial?_slot (name := Str.ofString "__getitem__") ht.typeIs PyProof.Rows.slot_tuple_getitem
    (wpAny_call_entry PyProof.Rows.slot_tuple_getitem ht.typeIs entry_tuple_getitem ?_ (args_tuple_getitem _ _)))
  show wpAny _ _ (Builtin.Tuple.tupleItemsOf (.ref t) >>= _) _ _ s
  refine wpAny_bind (tupleItemsOf_ ht ?_)
  refine wpAny_bind (wpAny_typeOf hTs ?_)
  rw [if_pos (by decide)]
  refine wpAny_bind (sliceApplied_gen hs pl pu ?_)
  have hno : ¬ ((((sIx items.size 0 lo : Nat) : Int) == 0 && (1 : Int) == 1 && (sIx items.size items.size hi - sIx items.size 0 lo) == items.size) = true) := by
    intro q
    rw [Bool.and_eq_true, Bool.and_eq_true] at q
    have q1 : ((sIx items.size 0 lo : Nat) : Int) = 0 := eq_of_beq q.1.1
    have q2 : sIx items.size items.size hi - sIx items.size 0 lo = items.size := eq_of_beq q.2
    exact hw ⟨by omega, by omega⟩
  show wpAny _ _ (if (((sIx items.size 0 lo : Nat) : Int) == 0 && (1 : Int) == 1 && (sIx items.size items.size hi - sIx items.size 0 lo) == items.size) = true then _ else _) _ _ s
  rw [if_neg hno, pick_gen]
  first
    | exact wpAny_bind (m := Builtin.Tuple.tupleExact _) (wpAny_newObj_type (wpAny_pure ⟨_, rfl, wpAny_pure h⟩) htake)
    | exact wpAny_bind (m := Builtin.Tuple.tupleExact _) (wpAny_newObj_type (wpAny_bind (wpAny_pure (wpAny_pure ⟨_, rfl, wpAny_pure h⟩))) htake)
    | exact wpAny_bind (wpAny_bind (m := Builtin.Tuple.tupleExact _) (wpAny_newObj_type (wpAny_pure (wpAny_pure ⟨_, rfl, wpAny_pure h⟩)) htake))
    | exact wpAny_bind (wpAny_bind (m := Builtin.Tuple.tupleExact _) (wpAny_newObj_type (wpAny_pure ⟨_, rfl, wpAny_pure h⟩) htake))
end
end HT
namespace L2
open PySem PySem.Spec PyProof.Rows
abbrev TO := St → Hp → (Option Int → Hp → Prop) → Prop
def PO (X : Cx) (e : Option Expr) (t : TO) : Prop :=
  ∀ (pins : List (Addr × Obj)) (s : Shared) (σ : St) (H : Hp) (Q : Option Int → Hp → Prop), Inv X pins σ H s → t σ H Q →
    wpAny (model X.prog X.w) X.A (evalPart e X.env) (fun u s' => ∃ o H', Inv X pins σ H' s' ∧ IsPart u o ∧ Q o H') X.xe s
def tNoPart : TO := fun _ H Q => Q none H
def tPart (t : TE) : TO := fun σ H Q => t σ H fun x H1 => ∃ i, x = .int i ∧ Q (some i) H1
theorem intsAre_of {ns : List Int} : ∀ {us : List Value}, Vals (ns.map V.int) us → IntsAre us ns := by
  induction ns with
  | nil => intro us r; rw [List.map_nil] at r; cases r; exact .nil
  | cons n ns ih =>
    intro us r
    rw [List.map_cons] at r
    cases r with
    | cons r1 r2 =>
      obtain ⟨t, e⟩ := r1
      subst e
      exact .cons n t (ih r2)
section
variable {X : Cx} {e : Expr} {te : TE} {lo hi : Option Expr} {tl th : TO} {pos p2 : Pos}
theorem po_none : PO X none tNoPart := by
  intro pins s σ H Q I h
  rw [evalPart_none]
  exact wpAny_pure ⟨none, H, I, .none, h⟩
theorem po_some (h : PE X e te) : PO X (some e) (tPart te) := by
  intro pins s σ H Q I hw
  rw [evalPart_some]
  refine thn (h pins s σ H _ I hw) fun u s1 ⟨x, H1, I1, r1, q1⟩ => ?_
  obtain ⟨i, rfl, q⟩ := q1
  obtain ⟨t, rfl⟩ := r1
  exact ⟨some i, H1, I1, .int i t, q⟩
def SlR (X : Cx) (r : V → Option Int → Option Int → Hp → VK → Prop) : Prop :=
  ∀ (pins : List (Addr × Obj)) (s : Shared) (σ : St) (H : Hp) (x : V) (v vl vu : Value) (lo hi : Option Int) (sl : Addr) (Q : VK), Inv X pins σ H s → RelV x v → s.heap.IsSliceOf sl vl vu .none → IsPart vl lo → IsPart vu hi → r x lo hi H Q →
    ∃ T id, typeLookup (.type T) "__getitem__" = pure (some (.builtin id)) ∧ s.TypeIs v T ∧ wpAny (model X.prog X.w) X.A (getItem v (.ref sl)) (EP X pins σ Q) X.xe s
def tSl (r : V → Option Int → Option Int → Hp → VK → Prop) (te : TE) (tl th : TO) : TE := fun σ H Q => te σ H fun x H1 => tl σ H1 fun l H2 => th σ H2 fun u H3 => r x l u H3 Q
theorem pe_slice {r : V → Option Int → Option Int → Hp → VK → Prop} (hr : SlR X r) (he : PE X e te) (hl : PO X lo tl) (hu : PO X hi th) : PE X (.Subscript e (.Slice lo hi none p2) pos) (tSl r te tl th) := by
  intro pins s σ H Q I h
  refine Subscript_ (thn (he pins s σ H _ I h) fun v s1 ⟨x, H1, I1, r1, q1⟩ => ?_)
  refine wpAny_Slice (thn (hl pins s1 σ H1 _ I1 q1) fun vl s2 ⟨l, H2, I2, pl, q2⟩ => thn (hu pins s2 σ H2 _ I2 q2) fun vu s3 ⟨u, H3, I3, pu, q3⟩ => ?_)
  rw [evalPart_none]
  refine wpAny_pure ?_
  have I4 : Inv X pins σ H3 { s3 with heap := s3.heap.push { cls := .type "slice", data := .fields #[vl, vu, .none] } } := I3.kept (t' := s3.toks) fun b ob q => Heap.get?_push_of_some _ q
  obtain ⟨T, id, hT, ht, hg⟩ := hr pins { s3 with heap := s3.heap.push { cls := .type "slice", data := .fields #[vl, vu, .none] } } σ H3 x v vl vu l u s3.heap.objs.size Q I4 r1 (Heap.IsSliceOf.new ..) pl pu q3
  show wpAny (model X.prog X.w) X.A (subscriptTail e (.Slice lo hi none p2) v (.ref s3.heap.objs.size)) (EP X pins σ Q) X.xe { s3 with heap := s3.heap.push { cls := .type "slice", data := .fields #[vl, vu, .none] } }
  exact tail_any (ops := [.ref s3.heap.objs.size, v]) ht hT hg (by with_unfolding_all rfl)
def cutV (xs : List V) (lo hi : Option Int) : List V := (xs.drop (HT.sIx xs.length 0 lo)).take (HT.sIx xs.length xs.length hi - HT.sIx xs.length 0 lo)
theorem cutV_length (xs : List V) (lo hi : Option Int) : (cutV xs lo hi).length ≤ xs.length := by
  unfold cutV
  rw [List.length_take, List.length_drop]
  omega
def rSlT (K : PySem.W.Frag) : V → Option Int → Option Int → Hp → VK → Prop := fun x lo hi H Q => ∃ a xs, x = .ref a ∧ SqT K H a xs ∧
  ¬ (HT.sIx xs.length 0 lo = 0 ∧ HT.sIx xs.length xs.length hi = xs.length) ∧ ∀ p, H p = none → Q (.ref p) (upd H p (.tup (cutV xs lo hi)))
theorem sl_tup : SlR X (rSlT X.K) := by
  intro pins s σ H x v vl vu lo hi sl Q I rx hs pl pu h
  obtain ⟨a, xs, rfl, hx, hw, q⟩ := h
  cases rx
  obtain ⟨its, r, ht, hz⟩ := I.tuple hx
  have hlen : its.toArray.size = xs.length := by rw [List.size_toArray]; exact r.length.symm
  refine ⟨"tuple", _, PyProof.Rows.slot_tuple_getitem.lookup, ht.typeIs, ?_⟩
  refine HT.getItem_tuple_cut ht hs pl pu (by rw [hlen]; exact hw) ?_ (by rw [hlen]; exact hz)
  rw [hlen]
  refine ⟨.ref s.heap.objs.size, _, I.laid (t' := s.toks) (o := .tup (cutV xs lo hi)) (fun b ob q => Heap.get?_push_of_some _ q) (Nat.le_refl _) ?_, rfl, q _ (I.hok.fresh (Nat.le_refl _))⟩
  exact ⟨Nat.le_trans (cutV_length xs lo hi) hz, _, (r.drop (HT.sIx xs.length 0 lo)).take (HT.sIx xs.length xs.length hi - HT.sIx xs.length 0 lo), IsTup.new _ _⟩
end
end L2
namespace L2
open PySem PySem.Spec PyProof.Rows
def ixN (n : Nat) (i : Int) : Option Nat := if 0 ≤ i then (if i < n then some i.toNat else none) else if -(n : Int) ≤ i then some (i + n).toNat else none
def atI {α : Type} (xs : List α) (i : Int) : Option α := (ixN xs.length i).bind fun j => xs[j]?
theorem ixN_seq {n : Nat} {i : Int} {j : Nat} (h : ixN n i = some j) : seqIndex? i n = some j ∧ j < n ∧ -(n : Int) ≤ i ∧ i < n := by
  unfold ixN at h
  by_cases h0 : 0 ≤ i
  · rw [if_pos h0] at h
    by_cases h1 : i < n
    · rw [if_pos h1] at h
      have e : i.toNat = j := Option.some.inj h
      exact ⟨by rw [seqIndex_of h0 h1, e], by omega, by omega, h1⟩
    · rw [if_neg h1] at h; cases h
  · rw [if_neg h0] at h
    by_cases h1 : -(n : Int) ≤ i
    · rw [if_pos h1] at h
      have e : (i + n).toNat = j := Option.some.inj h
      exact ⟨by rw [seqIndex_neg (by omega) h1, e], by omega, h1, by omega⟩
    · rw [if_neg h1] at h; cases h
theorem atI_get {α : Type} {xs : List α} {i : Int} {v : α} (h : atI xs i = some v) : ∃ j, seqIndex? i xs.length = some j ∧ xs[j]? = some v ∧ j < xs.length ∧ -(xs.length : Int) ≤ i ∧ i < xs.length := by
  unfold atI at h
  cases e : ixN xs.length i with
  | none => rw [e] at h; cases h
  | some j =>
    rw [e] at h
    obtain ⟨h1, h2, h3, h4⟩ := ixN_seq e
    exact ⟨j, h1, h, h2, h3, h4⟩
theorem atI_nat {α : Type} {xs : List α} {j : Nat} {v : α} (h : xs[j]? = some v) : atI xs (j : Int) = some v := by
  have hj : j < xs.length := (List.getElem?_eq_some_iff.mp h).1
  have e : ixN xs.length (j : Int) = some j := by
    unfold ixN
    rw [if_pos (by omega), if_pos (by omega)]; simp
  unfold atI; rw [e]; exact h
theorem atI_last {α : Type} (xs : List α) (v : α) : atI (xs ++ [v]) (-1) = some v := by
  have hl : (xs ++ [v]).length = xs.length + 1 := by simp
  have e : ixN (xs ++ [v]).length (-1) = some xs.length := by
    unfold ixN
    rw [hl, if_neg (by decide), if_pos (by omega)]
    congr 1
    omega
  unfold atI
  rw [e]
  show (xs ++ [v])[xs.length]? = some v
  simp
def PlainIx (b : Expr) : Prop := ∀ o i, subscripted b false o i = operate [o, i] (getItem o i)
def IxR (X : Cx) (r : R2) : Prop :=
  ∀ (value slice : Expr) (pins : List (Addr × Obj)) (s : Shared) (σ : St) (H : Hp) (x y : V) (v u : Value) (Q : VK), Inv X pins σ H s → RelV x v → RelV y u → r x y H Q →
    subscripted slice false v u = operate [v, u] (getItem v u) → wpAny (model X.prog X.w) X.A (subscriptTail value slice v u) (EP X pins σ Q) X.xe s
def MtR (X : Cx) (id : String) (r : V → List V → Hp → VK → Prop) : Prop :=
  ∀ (pins : List (Addr × Obj)) (s : Shared) (σ : St) (H : Hp) (x : V) (xs : List V) (v : Value) (us : List Value) (Q : VK), Inv X pins σ H s → RelV x v → Vals xs us → r x xs H Q →
    wpAny (model X.prog X.w) X.A (call (.builtin id) (v :: us)) (EP X pins σ Q) X.xe s
section
variable {X : Cx} {a b : Expr} {ta tb : TE} {pos : Pos}
theorem pe_ix {r : R2} (hr : IxR X r) (ha : PE X a ta) (hb : PE X b tb) (hs : PlainIx b) : PE X (.Subscript a b pos) (tOp r ta tb) := by
  intro pins s σ H Q I h
  exact Subscript_ (binT ha hb I h fun v u s2 x y H2 I2 rx ry q => hr a b pins s2 σ H2 x y v u Q I2 rx ry q (hs _ _))
def rIxL (K : PySem.W.Frag) : R2 := fun x y H Q => ∃ p xs i v, x = .ref p ∧ y = .int i ∧ SqL K H p xs ∧ atI xs i = some v ∧ Q v H
def rIxT (K : PySem.W.Frag) : R2 := fun x y H Q => ∃ p xs i v, x = .ref p ∧ y = .int i ∧ SqT K H p xs ∧ atI xs i = some v ∧ Q v H
theorem ix_list : IxR X (rIxL X.K) := by
  intro value slice pins s σ H x y v u Q I rx ry h hs
  obtain ⟨p, xs, i, z, rfl, rfl, hq, he, q⟩ := h
  cases rx
  obtain ⟨t, rfl⟩ := ry
  obtain ⟨its, r, pl, hz⟩ := I.list hq
  obtain ⟨j, h1, h2, h3, h4, h5⟩ := atI_get he
  obtain ⟨w, ew, rw'⟩ := r.get h2
  have hl := r.length
  have hn := line63
  have fin : EP X pins σ Q w s := ⟨z, H, I, rw', q⟩
  by_cases h0 : 0 ≤ i
  · have hj : i.toNat = j := by
      rw [seqIndex_of h0 h5] at h1
      exact Option.some.inj h1
    exact item_listR pl.isList h0 (by omega) (by rw [hj]; simpa using ew) fin hs
  · have hj : (i + (its.toArray.size : Int)).toNat = j := by
      rw [seqIndex_neg (by omega) h4] at h1
      rw [List.size_toArray, ← hl]
      exact Option.some.inj h1
    exact subscriptTail_builtinR (x := w) pl.isList.typeIs slot_list_getitem.lookup
      (wpAny_getItem_list_neg (Q := fun r s' => r = w ∧ EP X pins σ Q r s') pl.isList (by omega) (by rw [List.size_toArray] <;> omega) (by omega) (by rw [hj]; simpa using ew) ⟨rfl, fin⟩) hs
theorem ix_tup : IxR X (rIxT X.K) := by
  intro value slice pins s σ H x y v u Q I rx ry h hs
  obtain ⟨p, xs, i, z, rfl, rfl, hq, he, q⟩ := h
  cases rx
  obtain ⟨t, rfl⟩ := ry
  obtain ⟨its, r, pl, hz⟩ := I.tuple hq
  obtain ⟨j, h1, h2, h3, h4, h5⟩ := atI_get he
  obtain ⟨w, ew, rw'⟩ := r.get h2
  have hl := r.length
  have hn := line63
  have fin : EP X pins σ Q w s := ⟨z, H, I, rw', q⟩
  exact subscriptTail_builtinR (x := w) pl.typeIs slot_tuple_getitem.lookup
    (getItem_tuple (j := j) (Q := fun r s' => r = w ∧ EP X pins σ Q r s') pl (by omega) (by omega) (by rw [List.size_toArray, ← hl]; exact h1) (by simpa using ew) ⟨rfl, fin⟩) hs
theorem mapSeq_set (its : List Value) (n j : Nat) (u : Value) : Obj.mapSeq (·.setIfInBounds j u) { cls := .type "list", data := .seq its.toArray n } = { cls := .type "list", data := .seq (its.set j u).toArray n } := by
  simp [Obj.mapSeq]
theorem Inv.lst {pins : List (Addr × Obj)} {σ : St} {H : Hp} {s : Shared} {p : Addr} {xs : List V} (I : Inv X pins σ H s) (h : H p = some (.lst xs)) :
    ∃ (its : List Value) (n : Nat), Vals xs its ∧ s.heap.get? p = some { cls := .type "list", data := .seq its.toArray n } ∧ xs.length ≤ sizeLine := by
  obtain ⟨z, its, n, r, e⟩ := I.hok p _ h
  exact ⟨its, n, r, e, z⟩
theorem Inv.lstUpd {pins : List (Addr × Obj)} {σ : St} {H : Hp} {s : Shared} {p : Addr} {xs ys : List V} {its its' : List Value} {n n' : Nat} {f : Obj → Obj} (I : Inv X pins σ H s) (h : H p = some (.lst xs))
    (ho : s.heap.get? p = some { cls := .type "list", data := .seq its.toArray n }) (hf : f { cls := .type "list", data := .seq its.toArray n } = { cls := .type "list", data := .seq its'.toArray n' }) (r : Vals ys its') (hz : ys.length ≤ sizeLine) (t : Nat) :
    Inv X pins σ (upd H p (.lst ys)) { s with heap := s.heap.update p f, toks := t } := by
  have e : (s.heap.update p f).get? p = some { cls := .type "list", data := .seq its'.toArray n' } := by
    rw [Heap.get?_update_self f ho (by rw [hf] <;> rfl), hf]
  refine I.write (x := p) (e := p) (by rw [h]; trivial) (.inl rfl) (fun b u hb q => (Heap.get?_update_other _ _ (Ne.symm hb)).trans q) ⟨_, e⟩ ?_
  exact ⟨hz, its', n', r, e⟩
def rSetL : V → V → V → Hp → (Hp → Prop) → Prop := fun o i v H Q => ∃ p xs k j, o = .ref p ∧ i = .int k ∧ H p = some (.lst xs) ∧ ixN xs.length k = some j ∧ Q (upd H p (.lst (xs.set j v)))
theorem set_list : PSet X rSetL := by
  intro pins s σ H o i v ov iv u Q I ro ri rv h
  obtain ⟨p, xs, k, j, rfl, rfl, hp, hj, q⟩ := h
  cases ro
  obtain ⟨t, rfl⟩ := ri
  obtain ⟨its, n, r, ho, hz⟩ := I.lst hp
  obtain ⟨h1, h2, h3, h4⟩ := ixN_seq hj
  have hl := r.length
  have hn := line63
  have I' : Inv X pins σ (upd H p (.lst (xs.set j v))) { s with heap := s.heap.update p (Obj.mapSeq (·.setIfInBounds j u)) } :=
    I.lstUpd hp ho (mapSeq_set its n j u) (r.set rv j) (by rw [List.length_set]; exact hz) s.toks
  by_cases h0 : 0 ≤ k
  · have hk : k.toNat = j := by
      rw [seqIndex_of h0 h4] at h1
      exact Option.some.inj h1
    exact PySem.W.ki_setAt ho h0 (by omega) (by rw [List.size_toArray, ← hl]; exact h4) (by rw [hk]; exact ⟨_, I', q⟩)
  · have hk : (k + (its.toArray.size : Int)).toNat = j := by
      rw [seqIndex_neg (by omega) h3] at h1
      rw [List.size_toArray, ← hl]
      exact Option.some.inj h1
    exact PySem.W.ki_setBack ho (by omega) (by rw [List.size_toArray, ← hl]; exact h3) (by omega) (by rw [hk]; exact ⟨_, I', q⟩)
theorem slice_bounds (lo hi : Option Int) (n : Nat) : (sliceBounds lo hi none n).1 = ((HT.sIx n 0 lo : Nat) : Int) ∧ (sliceBounds lo hi none n).2.1 = ((HT.sIx n n hi : Nat) : Int) ∧ (sliceBounds lo hi none n).2.2 = 1 := by
  refine ⟨?_, ?_, rfl⟩
  · cases lo with
    | none => simp [sliceBounds, HT.sIx]
    | some i =>
      simp only [sliceBounds, HT.sIx, Option.getD_none, show (1 : Int) > 0 by decide, if_true]
      by_cases h : i < 0
      · simp only [h, if_true] <;> omega
      · simp only [h, if_false] <;> omega
  · cases hi with
    | none => simp [sliceBounds, HT.sIx]
    | some i =>
      simp only [sliceBounds, HT.sIx, Option.getD_none, show (1 : Int) > 0 by decide, if_true]
      by_cases h : i < 0
      · simp only [h, if_true] <;> omega
      · simp only [h, if_false] <;> omega
theorem slicePick_cut (its : List Value) (lo hi : Option Int) : slicePick its.toArray lo hi none = ((its.drop (HT.sIx its.length 0 lo)).take (HT.sIx its.length its.length hi - HT.sIx its.length 0 lo)).toArray := by
  obtain ⟨h1, h2, h3⟩ := slice_bounds lo hi its.toArray.size
  unfold slicePick
  rw [h1, h2, h3]
  simp only [sliceRange_one, pick_run, List.size_toArray] <;> rfl
def rSlL (K : PySem.W.Frag) : V → Option Int → Option Int → Hp → VK → Prop := fun x lo hi H Q => ∃ a xs, x = .ref a ∧ SqL K H a xs ∧ ∀ p, H p = none → Q (.ref p) (upd H p (.lst (cutV xs lo hi)))
theorem sl_list : SlR X (rSlL X.K) := by
  intro pins s σ H x v vl vu lo hi sl Q I rx hs pl pu h
  obtain ⟨a, xs, rfl, hx, q⟩ := h
  cases rx
  obtain ⟨its, r, ht, hz⟩ := I.list hx
  have hlen := r.length
  refine ⟨"list", _, slot_list_getitem.lookup, ht.isList.typeIs, ?_⟩
  refine wpAny_getItem_list_slice ht.isList hs pl pu .none (by simp) ?_ (by rw [List.size_toArray] <;> omega)
  rw [slicePick_cut, ← hlen]
  refine ⟨.ref s.heap.objs.size, _, I.laid (t' := s.toks) (o := .lst (cutV xs lo hi)) (fun b ob q => Heap.get?_push_of_some _ q) (Nat.le_refl _) ?_, rfl, q _ (I.hok.fresh (Nat.le_refl _))⟩
  exact ⟨Nat.le_trans (cutV_length xs lo hi) hz, _, 0, (r.drop (HT.sIx xs.length 0 lo)).take (HT.sIx xs.length xs.length hi - HT.sIx xs.length 0 lo), Heap.get?_push_size _ rfl⟩
theorem call_len_seq : CallR X (.builtin "len") (fun xs H Q => ∃ p ys, xs = [.ref p] ∧ (SqL X.K H p ys ∨ SqT X.K H p ys) ∧ Q (.int ys.length) H) := by
  intro pins s σ H xs us Q I r h
  obtain ⟨p, ys, rfl, hq, q⟩ := h
  obtain ⟨u, rfl, rx⟩ := vals1 r
  cases rx
  have hn := line63
  rcases hq with hq | hq
  · obtain ⟨its, r', pl, hz⟩ := I.list hq
    have hlen := r'.length
    exact Calls.call_len_list pl.isList (by simp only [List.size_toArray] <;> omega) ⟨.int ys.length, H, I.tok _, ⟨s.toks + 1, by rw [List.size_toArray, hlen]⟩, q⟩
  · obtain ⟨its, r', pl, hz⟩ := I.tuple hq
    have hlen := r'.length
    exact len_tuple pl (by simp only [List.size_toArray] <;> omega) ⟨.int ys.length, H, I.tok _, ⟨s.toks + 1, by rw [List.size_toArray, hlen]⟩, q⟩
theorem call_len_str : CallR X (.builtin "len") (fun xs H Q => ∃ z, xs = [.str z] ∧ z.length ≤ sizeLine ∧ Q (.int z.length) H) := by
  intro pins s σ H xs us Q I r h
  obtain ⟨z, rfl, hz, q⟩ := h
  obtain ⟨u, rfl, t, rfl⟩ := vals1 r
  have hn := line63
  exact len_str (by omega) ⟨.int z.length, H, I.tok _, ⟨_, rfl⟩, q⟩
theorem call_list_of : CallR X (.type "list") (fun xs H Q => ∃ p ys, xs = [.ref p] ∧ (SqL X.K H p ys ∨ SqT X.K H p ys) ∧ ∀ l, H l = none → Q (.ref l) (upd H l (.lst ys))) := by
  intro pins s σ H xs us Q I r h
  obtain ⟨p, ys, rfl, hq, q⟩ := h
  obtain ⟨u, rfl, rx⟩ := vals1 r
  cases rx
  have fin : ∀ (its : List Value), Vals ys its → ys.length ≤ sizeLine → ∀ (h' : Heap) (c' : Nat), (∀ b o', s.heap.get? b = some o' → h'.get? b = some o') →
      h'.get? s.heap.objs.size = some { cls := .type "list", dict := none, data := .seq its.toArray c', slots := #[] } → EP X pins σ Q (.ref s.heap.objs.size) { s with heap := h' } := fun its r' hz h' c' kp e =>
    ⟨.ref s.heap.objs.size, _, I.laid (t' := s.toks) kp (Nat.le_refl _) (show ObjOk X.prog X.w _ h' _ (.lst ys) from ⟨hz, its, c', r', e⟩), rfl, q _ (I.hok.fresh (Nat.le_refl _))⟩
  rcases hq with hq | hq
  · obtain ⟨its, r', pl, hz⟩ := I.list hq
    have hlen := r'.length
    obtain ⟨o, ho, hc, n, hd⟩ := pl.isList
    exact call_list_seq p (.inl rfl) ho hc hd (fun h' c' kp e => fin its r' hz h' c' kp e) (by simp only [List.size_toArray] <;> omega)
  · obtain ⟨its, r', pl, hz⟩ := I.tuple hq
    have hlen := r'.length
    obtain ⟨o, ho, hc, n, hd⟩ := pl
    exact call_list_seq p (.inr rfl) ho hc hd (fun h' c' kp e => fin its r' hz h' c' kp e) (by simp only [List.size_toArray] <;> omega)
theorem call_tuple_of : CallR X (.type "tuple") (fun xs H Q => ∃ p ys, xs = [.ref p] ∧ ((SqL X.K H p ys ∧ ∀ l, H l = none → Q (.ref l) (upd H l (.tup ys))) ∨ (SqT X.K H p ys ∧ Q (.ref p) H))) := by
  intro pins s σ H xs us Q I r h
  obtain ⟨p, ys, rfl, h⟩ := h
  obtain ⟨u, rfl, rx⟩ := vals1 r
  cases rx
  rcases h with ⟨hq, q⟩ | ⟨hq, q⟩
  · obtain ⟨its, r', pl, hz⟩ := I.list hq
    have hlen := r'.length
    refine call_tuple_list pl.isList (fun h' kp => ?_) (by simp only [List.size_toArray] <;> omega)
    have I1 : Inv X pins σ H { s with heap := h' } := I.kept (t' := s.toks) kp
    have I2 : Inv X pins σ (upd H h'.objs.size (.tup ys)) { s with heap := h'.push { cls := .type "tuple", data := .seq its.toArray } } :=
      I1.laid (t' := s.toks) (fun b o e => Heap.get?_push_of_some _ e) (Nat.le_refl _) (show ObjOk X.prog X.w _ _ _ (.tup ys) from ⟨hz, its, r', IsTup.new _ _⟩)
    exact ⟨.ref h'.objs.size, _, I2, rfl, q _ (I1.hok.fresh (Nat.le_refl _))⟩
  · obtain ⟨its, r', pl, hz⟩ := I.tuple hq
    exact call_tuple_same pl ⟨.ref p, H, I, rfl, q⟩
def tyV (K : PySem.W.Frag) (T : String) (x : V) (H : Hp) : Prop := match x with
  | .str _ => T = "str"
  | .int _ => T = "int"
  | .ref p => (T = "list" ∧ ∃ xs, SqL K H p xs) ∨ (T = "tuple" ∧ ∃ o, K.lookup p = some o ∧ o.cls = .type "tuple" ∧ o.dict = none) ∨
      (T = "dict" ∧ ((∃ kvs, H p = some (.dK kvs)) ∨ ∃ kvs, H p = some (.dT kvs))) ∨ (T = "set" ∧ ∃ S n, H p = some (.set S n))
  | _ => False
theorem tyV_is {pins : List (Addr × Obj)} {σ : St} {H : Hp} {s : Shared} {T : String} {x : V} {v : Value} (I : Inv X pins σ H s) (r : RelV x v) (ty : tyV X.K T x H) :
    s.TypeIs v T ∧ ∀ a, v = .ref a → ∃ ob, s.heap.get? a = some ob ∧ ob.dict = none := by
  cases x with
  | str z =>
    obtain ⟨t, rfl⟩ := r
    cases (show T = "str" from ty)
    exact ⟨typeIs_str s z t, fun _ e => nomatch e⟩
  | int i =>
    obtain ⟨t, rfl⟩ := r
    cases (show T = "int" from ty)
    exact ⟨typeIs_int s i t, fun _ e => nomatch e⟩
  | ref p =>
    cases r
    rcases ty with ⟨rfl, xs, hq⟩ | ⟨rfl, o, hk, hc, hd⟩ | ⟨rfl, hk⟩ | ⟨rfl, S, n, hk⟩
    · obtain ⟨its, _, pl, _⟩ := I.list hq
      refine ⟨pl.isList.typeIs, fun a e => ?_⟩
      cases e
      obtain ⟨o, n, e, c, hd, _⟩ := pl
      exact ⟨o, e, hd⟩
    · refine ⟨⟨o, I.kIn p o hk, hc⟩, fun a e => ?_⟩
      cases e
      exact ⟨o, I.kIn _ o hk, hd⟩
    · have z : ∃ o, s.heap.get? p = some o ∧ o.ExactDict := by
        rcases hk with ⟨kvs, hk⟩ | ⟨kvs, hk⟩
        · obtain ⟨_, _, _, _, o, _, _, e, ex, _⟩ := I.hok p _ hk
          exact ⟨o, e, ex⟩
        · obtain ⟨_, _, _, _, o, _, _, e, ex, _⟩ := I.hok p _ hk
          exact ⟨o, e, ex⟩
      obtain ⟨o, e, ex⟩ := z
      refine ⟨⟨o, e, ex.1⟩, fun a e2 => ?_⟩
      cases e2
      exact ⟨o, e, ex.2.1⟩
    · obtain ⟨o, _, _, _, e, ex, _⟩ := I.hok p _ hk
      refine ⟨⟨o, e, ex.1⟩, fun a e2 => ?_⟩
      cases e2
      exact ⟨o, e, ex.2.1⟩
  | _ => exact False.elim ty
def tBM (K : PySem.W.Frag) (T : String) (r : V → List V → Hp → VK → Prop) (to : TE) (t : TA) : TE := fun σ H Q => to σ H fun x H1 => tyV K T x H1 ∧ t σ H1 fun xs H2 => r x xs H2 Q
variable {o e : Expr} {es : List Expr} {to : TE} {t : TA} {name : Str} {apos cpos : Pos} {T id : String} {r : V → List V → Hp → VK → Prop}
theorem pe_bm (pa : PlainAttrs T) (slot : Slot T name id) (hty : typeOf (.builtin id) = pure (.type "method_descriptor")) (hm : MtR X id r) (ho : PE X o to) (ha : PA X (e :: es) t)
    (hbase : attributeBase o name X.env (eval o X.env) = eval o X.env := by rfl)
    (hfew : ((backTo cpos (starEach (e :: es) X.env)).all (fun x => !x.1) && (backToKw cpos (keywordEach [] X.env)).all (fun x => x.1.isSome)
      && decide ((e :: es).length + ([] : List Keyword).length + (if ([] : List Keyword).isEmpty then 0 else 1) < 30)) = true := by rfl)
    (hline : (apos.endLine == cpos.line) = true := by rfl) (hs : starEach (e :: es) X.env = (false, eval e X.env) :: starEach es X.env := by rfl) (hplain : (backTo cpos (starEach es X.env)).any (·.1) = false := by rfl) :
    PE X (.Call (.Attribute o name apos) (e :: es) [] cpos) (tBM X.K T r to t) := by
  intro pins s σ H Q I h
  refine wpAny_Call_method_late hbase hfew hline rfl (thn (ho pins s σ H _ I h) fun v s1 ⟨x, H1, I1, r1, ty, q1⟩ => ?_)
  obtain ⟨h1, h2⟩ := tyV_is I1 r1 ty
  refine ⟨T, id, pa, slot, hty, h1, h2, ?_⟩
  have hA := ha cpos pins s1 σ H1 _ I1 q1
  rw [hs] at hA ⊢
  refine Calls.callWith_builtin (by show (false || (backTo cpos (starEach es X.env)).any (·.1)) = false; rw [hplain] <;> rfl) (Calls.evalArgs_plain ?_)
  exact thn hA fun us s2 ⟨vs, H2, I2, r2, q2⟩ => hm pins s2 σ H2 x vs v us Q I2 r1 r2 q2
end
end L2
namespace L2
open PySem PySem.Spec PyProof.Rows
def MtM (X : Cx) (id : String) (r : V → List V → Hp → VK → Prop) : Prop :=
  ∀ (pins : List (Addr × Obj)) (s : Shared) (σ : St) (H : Hp) (x : V) (xs : List V) (v : Value) (us : List Value) (Q : VK), Inv X pins σ H s → RelV x v → Vals xs us → r x xs H Q →
    wpAny (model X.prog X.w) X.A (call (.builtin id) (v :: us)) (EP X pins σ Q) X.xe s
theorem Vals.one : ∀ {x : V} {us : List Value}, Vals [x] us → ∃ u, us = [u] ∧ RelV x u
  | _, _, .cons r .nil => ⟨_, rfl, r⟩
theorem Vals.two : ∀ {x y : V} {us : List Value}, Vals [x, y] us → ∃ u v, us = [u, v] ∧ RelV x u ∧ RelV y v
  | _, _, _, .cons r (.cons q .nil) => ⟨_, _, rfl, r, q⟩
theorem Vals.reverse {xs : List V} {us : List Value} (h : Vals xs us) : Vals xs.reverse us.reverse := by
  induction h with
  | nil => exact .nil
  | cons r t ih => rw [List.reverse_cons, List.reverse_cons]; exact Vals.append ih (.cons r .nil)
theorem Vals.rep {xs : List V} {us : List Value} (h : Vals xs us) : ∀ k : Nat, Vals (List.replicate k xs).flatten (List.replicate k us).flatten
  | 0 => .nil
  | k + 1 => by
    rw [List.replicate_succ, List.replicate_succ, List.flatten_cons, List.flatten_cons]
    exact Vals.append h (Vals.rep h k)
theorem foldl_rep (its : List Value) : ∀ (k : Nat) (acc : List Value),
    List.foldl (fun x1 x2 => x1 ++ x2) acc.toArray (List.replicate k its.toArray) = (acc ++ (List.replicate k its).flatten).toArray
  | 0, acc => by simp
  | k + 1, acc => by
    have e : acc.toArray ++ its.toArray = (acc ++ its).toArray := by simp
    have e2 : (acc ++ its) ++ (List.replicate k its).flatten = acc ++ (List.replicate (k + 1) its).flatten := by
      rw [List.replicate_succ, List.flatten_cons, List.append_assoc]
    rw [← e2, ← foldl_rep its k (acc ++ its), ← e, List.replicate_succ, List.foldl_cons]
section
variable {X : Cx} {pins : List (Addr × Obj)} {σ : St} {H : Hp} {s : Shared} {l b : Addr} {xs ys zs : List V}
theorem Inv.lset {its its' : List Value} {n : Nat} {f : Array Value → Array Value} {t' : Nat} (I : Inv X pins σ H s) (hH : H l = some (.lst xs))
    (e : s.heap.get? l = some { cls := .type "list", data := .seq its.toArray n }) (hf : f its.toArray = its'.toArray) (hv : Vals ys its') (hz : ys.length ≤ sizeLine) :
    Inv X pins σ (upd H l (.lst ys)) { s with heap := s.heap.update l (Obj.mapSeq f), toks := t' } := by
  have q := PySem.IsL.update e f
  rw [hf] at q
  refine I.write (x := l) (e := l) (by rw [hH]; exact trivial) (.inl rfl) (fun b' u hb hu => (Heap.get?_update_other s.heap (Obj.mapSeq f) (Ne.symm hb)).trans hu) ⟨_, q⟩ ?_
  exact ⟨hz, its', _, hv, q⟩
theorem Inv.lnew {its : List Value} {t' : Nat} (I : Inv X pins σ H s) (hv : Vals ys its) (hz : ys.length ≤ sizeLine) :
    Inv X pins σ (upd H s.heap.objs.size (.lst ys)) { s with heap := s.heap.push { cls := .type "list", data := .seq its.toArray }, toks := t' } :=
  I.laid (fun _ _ q => Heap.get?_push_of_some _ q) (Nat.le_refl _) ⟨hz, its, 0, hv, Heap.get?_push_size _ rfl⟩
theorem Inv.fresh (I : Inv X pins σ H s) : H s.heap.objs.size = none := I.hok.fresh (Nat.le_refl _)
theorem Inv.lstM (I : Inv X pins σ H s) (hH : H l = some (.lst xs)) : xs.length ≤ sizeLine ∧ ∃ (its : List Value) (n : Nat), Vals xs its ∧ xs.length = its.length ∧ s.heap.get? l = some { cls := .type "list", data := .seq its.toArray n } := by
  obtain ⟨z, its, n, r, e⟩ := I.hok l _ hH
  exact ⟨z, its, n, r, r.length, e⟩
theorem notLongL {n : Nat} (h : n ≤ sizeLine) : Builtin.List.listTooLong n = false := by
  unfold Builtin.List.listTooLong
  exact decide_eq_false (by omega)
end
section
variable {X : Cx}
def rAppend : V → List V → Hp → VK → Prop := fun x vs H Q => ∃ l xs y, x = .ref l ∧ vs = [y] ∧ H l = some (.lst xs) ∧ xs.length < sizeLine ∧ Q .non (upd H l (.lst (xs ++ [y])))
theorem mt_append : MtM X "list.append" rAppend := by
  intro pins s σ H x vs v us Q I rx rv h
  obtain ⟨l, xs, y, rfl, rfl, hH, hz, q⟩ := h
  cases rx
  obtain ⟨u, rfl, ru⟩ := rv.one
  obtain ⟨z, its, n, r, hl, e⟩ := I.lstM hH
  refine call_meets F.slot_list_append ⟨_, e, rfl⟩ F.entry_list_append (F.args_list_append_2 _ _) (PySem.list_append l its.toArray n u (by rw [List.size_toArray]; omega)) ⟨e, ?_⟩
  refine ⟨.non, _, I.lset (its' := its ++ [u]) hH e (by simp) (r.append (.cons ru .nil)) ?_, rfl, q⟩
  rw [List.length_append, List.length_singleton]
  omega
def rExtend : V → List V → Hp → VK → Prop := fun x vs H Q => ∃ l b xs zs, x = .ref l ∧ vs = [.ref b] ∧ H l = some (.lst xs) ∧ H b = some (.lst zs) ∧ xs.length + zs.length ≤ sizeLine ∧ Q .non (upd H l (.lst (xs ++ zs)))
theorem mt_extend : MtM X "list.extend" rExtend := by
  intro pins s σ H x vs v us Q I rx rv h
  obtain ⟨l, b, xs, zs, rfl, rfl, hH, hB, hz, q⟩ := h
  cases rx
  obtain ⟨u, rfl, ru⟩ := rv.one
  cases ru
  obtain ⟨z, its, n, r, hl, e⟩ := I.lstM hH
  obtain ⟨z2, its2, n2, r2, hl2, e2⟩ := I.lstM hB
  have hsz : its.toArray.size + its2.toArray.size ≤ sizeLine := by rw [List.size_toArray, List.size_toArray]; omega
  have hlong : ¬ (!its.toArray.isEmpty && Builtin.List.listTooLong (its.toArray.size + its2.toArray.size)) = true := by
    rw [notLongL hsz, Bool.and_false]
    exact Bool.false_ne_true
  refine call_meets F.slot_list_extend ⟨_, e, rfl⟩ F.entry_list_extend (F.args_list_extend_2 _ _)
    (AutoSeq1.list_extend_list_list_0 l its.toArray n b its2.toArray n2 hlong (by rw [List.size_toArray]; omega) (by omega)) ⟨e, e2, ?_⟩
  refine ⟨.non, _, I.lset (its' := its ++ its2) hH e (by simp) (r.append r2) ?_, rfl, q⟩
  rw [List.length_append]
  omega
def rCat : R2 := fun x y H Q => ∃ l b xs zs, x = .ref l ∧ y = .ref b ∧ H l = some (.lst xs) ∧ H b = some (.lst zs) ∧ xs.length + zs.length ≤ sizeLine ∧ ∀ p, H p = none → Q (.ref p) (upd H p (.lst (xs ++ zs)))
theorem op_cat : OpR X (binaryOp .Add) rCat := by
  intro pins s σ H x y v u Q I rx ry h
  obtain ⟨l, b, xs, zs, rfl, rfl, hH, hB, hz, q⟩ := h
  cases rx
  cases ry
  obtain ⟨z, its, n, r, hl, e⟩ := I.lstM hH
  obtain ⟨z2, its2, n2, r2, hl2, e2⟩ := I.lstM hB
  refine PySem.P.add_list e e2 ?_ (by rw [List.size_toArray, List.size_toArray]; omega)
  have ea : its.toArray ++ its2.toArray = (its ++ its2).toArray := by simp
  rw [ea]
  exact ⟨.ref _, _, I.lnew (t' := s.toks) (r.append r2) (by rw [List.length_append]; omega), rfl, q _ I.fresh⟩
def rRep : R2 := fun x y H Q => ∃ l k xs, x = .ref l ∧ y = .int k ∧ H l = some (.lst xs) ∧ -(2 ^ 63) ≤ k ∧ k < 2 ^ 63 ∧ xs.length * k.toNat ≤ sizeLine ∧
  ∀ p, H p = none → Q (.ref p) (upd H p (.lst (List.replicate k.toNat xs).flatten))
theorem len_rep {α : Type} (xs : List α) (k : Nat) : (List.replicate k xs).flatten.length = k * xs.length := by
  induction k with
  | zero => simp
  | succ k ih => rw [List.replicate_succ, List.flatten_cons, List.length_append, ih, Nat.succ_mul, Nat.add_comm]
theorem op_rep : OpR X (binaryOp .Mult) rRep := by
  intro pins s σ H x y v u Q I rx ry h
  obtain ⟨l, k, xs, rfl, rfl, hH, h1, h2, hz, q⟩ := h
  cases rx
  obtain ⟨t, rfl⟩ := ry
  obtain ⟨z, its, n, r, hl, e⟩ := I.lstM hH
  have hlen : its.toArray.size * k.toNat ≤ sizeLine := by rw [List.size_toArray, ← hl]; exact hz
  have hcap : ¬ its.toArray.size * k.toNat > (2 ^ 63 - 1) / 8 := by
    have : (sizeLine : Nat) ≤ (2 ^ 63 - 1) / 8 := by decide
    omega
  have hfit : ¬ (!Builtin.List.listFitsIndex k) = true := by
    rw [fitsIndex_both h1 h2]
    exact Bool.false_ne_true
  have hlong : ¬ Builtin.List.listTooLong (its.toArray.size * k.toNat) = true := by
    rw [notLongL hlen]
    exact Bool.false_ne_true
  have hnew : List.foldl (fun x1 x2 => x1 ++ x2) #[] (List.replicate (if its.toArray.isEmpty = true then 0 else k.toNat) its.toArray) = (List.replicate k.toNat its).flatten.toArray := by
    have f0 : ∀ m : Nat, List.foldl (fun x1 x2 => x1 ++ x2) #[] (List.replicate m its.toArray) = (List.replicate m its).flatten.toArray := fun m => by
      have := foldl_rep its m []
      rw [List.nil_append] at this
      exact this
    rw [f0]
    cases its with
    | nil => simp
    | cons a r' => rw [if_neg (by simp)]
  refine wpAny_binaryOp_repeat_ref (T := "list") (U := "int") (by decide) ⟨_, e, rfl⟩ (fun s' => typeIs_int s' k t) noFill_list_mul F.fills_int_mul F.slot_int_rmul repeat_list F.slot_int_index.lookup
    (call_meets F.slot_int_rmul (typeIs_int s k t) F.entry_int_rmul (F.args_int_rmul_2 _ _) (int___rmul___int_list k t l its.toArray n)
      ⟨e, rfl, ⟨_, e, rfl⟩, call_meets F.slot_list_mul ⟨_, e, rfl⟩ F.entry_list_mul (F.args_list_mul_2 _ _) (AutoListH.list___mul___list_int_3 l its.toArray n k t hfit hcap hlong) ⟨e, ?_⟩⟩)
  rw [hnew]
  exact ⟨.ref _, _, I.lnew (t' := s.toks) (r.rep k.toNat) (by rw [len_rep, Nat.mul_comm]; exact hz), rfl, q _ I.fresh⟩
end
section
variable {prog : Program} {w : World} {A : Around} {E : Value → Shared → Prop} {s : Shared}
set_option maxRecDepth 100000 in
end
section
variable {X : Cx}
end
end L2
namespace L2
open PySem PySem.Spec PyProof.Rows
section
variable {κ : Type} [DecidableEq κ]
def valV (kvs : List (κ × V)) (k : κ) : Option V := (kvs.find? fun kv => decide (kv.1 = k)).map (·.2)
def putK (kvs : List (κ × V)) (k : κ) (v : V) : List (κ × V) :=
  if (kvs.any fun kv => decide (kv.1 = k)) = true then kvs.map (fun kv => if kv.1 = k then (kv.1, v) else kv) else kvs ++ [(k, v)]
theorem valV_nil {k : κ} : valV ([] : List (κ × V)) k = none := rfl
theorem valV_pos {p : κ × V} {r : List (κ × V)} {k : κ} (e : p.1 = k) : valV (p :: r) k = some p.2 := by simp [valV, List.find?_cons, e]
theorem valV_neg {p : κ × V} {r : List (κ × V)} {k : κ} (e : ¬ p.1 = k) : valV (p :: r) k = valV r k := by simp [valV, List.find?_cons, e]
theorem valV_any (k : κ) : ∀ kvs : List (κ × V), (kvs.any fun kv => decide (kv.1 = k)) = (valV kvs k).isSome
  | [] => rfl
  | p :: r => by
    rw [List.any_cons]
    by_cases e : p.1 = k
    · simp only [valV_pos e, decide_eq_true e, Bool.true_or, Option.isSome_some]
    · rw [valV_neg e, decide_eq_false e, Bool.false_or]; exact valV_any k r
theorem valV_map (k j : κ) (y : V) : ∀ kvs : List (κ × V), valV (kvs.map fun kv => if kv.1 = k then (kv.1, y) else kv) j = (valV kvs j).map fun x => if j = k then y else x
  | [] => rfl
  | p :: r => by
    have ih := valV_map k j y r
    rw [List.map_cons]
    by_cases h : p.1 = k
    · rw [if_pos h]
      by_cases e : p.1 = j
      · rw [valV_pos (p := (p.1, y)) e, valV_pos e, Option.map_some, if_pos (e.symm.trans h)]
      · rw [valV_neg (p := (p.1, y)) e, valV_neg e, ih]
    · rw [if_neg h]
      by_cases e : p.1 = j
      · rw [valV_pos (p := p) e, valV_pos e, Option.map_some, if_neg (fun z => h (e.trans z))]
      · rw [valV_neg (p := p) e, valV_neg e, ih]
theorem valV_snoc (k j : κ) (y : V) : ∀ kvs : List (κ × V), valV kvs k = none → valV (kvs ++ [(k, y)]) j = if j = k then some y else valV kvs j
  | [], _ => by
    by_cases e : k = j
    · rw [if_pos e.symm]; exact valV_pos (p := (k, y)) e
    · rw [if_neg (fun z => e z.symm)]; exact valV_neg (p := (k, y)) e
  | p :: r, hn => by
    rw [List.cons_append]
    have hk : ¬ p.1 = k := fun z => by rw [valV_pos z] at hn; cases hn
    rw [valV_neg hk] at hn
    have ih := valV_snoc k j y r hn
    by_cases e : p.1 = j
    · rw [valV_pos e, valV_pos e, if_neg (fun z => hk (e.trans z))]
    · rw [valV_neg e, valV_neg e, ih]
theorem valV_put (kvs : List (κ × V)) (k j : κ) (y : V) : valV (putK kvs k y) j = if j = k then some y else valV kvs j := by
  unfold putK
  by_cases a : (kvs.any fun kv => decide (kv.1 = k)) = true
  · rw [if_pos a, valV_map]
    rw [valV_any] at a
    by_cases e : j = k
    · obtain ⟨x, hx⟩ := Option.isSome_iff_exists.mp a
      rw [if_pos e, e, hx, Option.map_some, if_pos rfl]
    · rw [if_neg e]
      cases valV kvs j with
      | none => rfl
      | some x => rw [Option.map_some, if_neg e]
  · rw [if_neg a]
    refine valV_snoc k j y kvs ?_
    rw [valV_any] at a
    cases q : valV kvs k with
    | none => rfl
    | some x => rw [q] at a; exact (a rfl).elim
theorem length_putK (kvs : List (κ × V)) (k : κ) (v : V) : (putK kvs k v).length ≤ kvs.length + 1 := by
  unfold putK
  split
  · rw [List.length_map]; omega
  · rw [List.length_append, List.length_cons, List.length_nil]; omega
theorem RelO.isSome_eq {o : Option V} {u : Option Value} (r : RelO o u) : o.isSome = u.isSome := by
  cases o with
  | none => cases u with
    | none => rfl
    | some _ => exact (show False from r).elim
  | some _ => cases u with
    | none => exact (show False from r).elim
    | some _ => rfl
theorem KV.val {kvs : List (κ × V)} {vs : List (κ × Value)} (r : KV kvs vs) (k : κ) : RelO (valV kvs k) (valueAt vs k) := by
  unfold KV at r
  induction r with
  | nil => exact True.intro
  | @cons p q ps qs h t ih =>
    obtain ⟨h1, h2⟩ := h
    by_cases e : p.1 = k
    · have e' : q.1 = k := h1.symm.trans e
      have b : valueAt (q :: qs) k = some q.2 := by simp [valueAt, List.find?_cons, e']
      rw [valV_pos e, b]; exact h2
    · have e' : ¬ q.1 = k := fun z => e (h1.trans z)
      have b : valueAt (q :: qs) k = valueAt qs k := by simp [valueAt, List.find?_cons, e']
      rw [valV_neg e, b]; exact ih
theorem KV.any {kvs : List (κ × V)} {vs : List (κ × Value)} (r : KV kvs vs) (k : κ) : (kvs.any fun kv => decide (kv.1 = k)) = vs.any fun kv => decide (kv.1 = k) := by
  unfold KV at r
  induction r with
  | nil => rfl
  | cons h t ih => rw [List.any_cons, List.any_cons, ih, h.1]
theorem KV.repl {kvs : List (κ × V)} {vs : List (κ × Value)} (r : KV kvs vs) (k : κ) {y : V} {u : Value} (ry : RelV y u) :
    KV (kvs.map fun kv => if kv.1 = k then (kv.1, y) else kv) (vs.map fun kv => if kv.1 = k then (kv.1, u) else kv) := by
  unfold KV at r ⊢
  induction r with
  | nil => exact .nil
  | @cons p q ps qs h t ih =>
    rw [List.map_cons, List.map_cons]
    refine .cons ?_ ih
    obtain ⟨h1, h2⟩ := h
    by_cases e : p.1 = k
    · rw [if_pos e, if_pos (h1.symm.trans e)]; exact ⟨h1, ry⟩
    · rw [if_neg e, if_neg (fun z => e (h1.trans z))]; exact ⟨h1, h2⟩
theorem KV.put {kvs : List (κ × V)} {vs : List (κ × Value)} (r : KV kvs vs) (k : κ) {y : V} {u : Value} (ry : RelV y u) : KV (putK kvs k y) (stored vs k u) := by
  unfold putK stored
  rw [r.any k]
  by_cases e : (vs.any fun kv => decide (kv.1 = k)) = true
  · rw [if_pos e, if_pos e]; exact r.repl k ry
  · rw [if_neg e, if_neg e]; exact Paired.snoc r ⟨rfl, ry⟩
theorem KV.length {kvs : List (κ × V)} {vs : List (κ × Value)} (r : KV kvs vs) : kvs.length = vs.length := Paired.length r
end
theorem kV_is {P : Program} {w : World} {k : Key} {u : Value} (r : RelV (kV k) u) : (mixKind P w).is k u = true := by
  cases k with
  | inl i => obtain ⟨t, e⟩ := (show ∃ t, u = Value.int i t from r); subst e; exact mixKind_int P w i t
  | inr x => obtain ⟨t, e⟩ := (show ∃ t, u = Value.str x t from r); subst e; exact mixKind_str P w x t
theorem items_are {P : Program} {w : World} : ∀ {ks : List Key} {us : List Value}, Vals (ks.map kV) us → ItemsAre (mixKind P w) ks us
  | [], _, r => by rw [List.map_nil] at r; cases r; exact .nil
  | k :: ks, _, r => by
    rw [List.map_cons] at r
    cases r with
    | cons h t => exact .cons (kV_is h) (items_are t)
abbrev KT (H : Hp) : List (List Key × V) → List (List Key × Addr × Value) → Prop := Paired fun p q => p.1 = q.1 ∧ H q.2.1 = some (.tup (p.1.map kV)) ∧ RelV p.2 q.2.2
theorem KT.val {H : Hp} {kvs : List (List Key × V)} {xs : List (List Key × Addr × Value)} (r : KT H kvs xs) (k : List Key) : RelO (valV kvs k) ((atKey xs k).map (·.2)) := by
  induction r with
  | nil => exact True.intro
  | @cons p q ps qs h t ih =>
    obtain ⟨h1, _, h2⟩ := h
    by_cases e : p.1 = k
    · have e' : q.1 = k := h1.symm.trans e
      have b : atKey (q :: qs) k = some q.2 := by simp [atKey, List.find?_cons, e']
      rw [valV_pos e, b]; exact h2
    · have e' : ¬ q.1 = k := fun z => e (h1.trans z)
      have b : atKey (q :: qs) k = atKey qs k := by simp [atKey, List.find?_cons, e']
      rw [valV_neg e, b]; exact ih
theorem KT.repl {H : Hp} {kvs : List (List Key × V)} {xs : List (List Key × Addr × Value)} (r : KT H kvs xs) (k : List Key) {y : V} {u : Value} (ry : RelV y u) :
    KT H (kvs.map fun kv => if kv.1 = k then (kv.1, y) else kv) (xs.map (putAt k u)) := by
  induction r with
  | nil => exact .nil
  | @cons p q ps qs h t ih =>
    rw [List.map_cons, List.map_cons]
    refine .cons ?_ ih
    obtain ⟨h1, h2, h3⟩ := h
    unfold putAt
    by_cases e : p.1 = k
    · rw [if_pos e, if_pos (h1.symm.trans e)]; exact ⟨h1, h2, ry⟩
    · rw [if_neg e, if_neg (fun z => e (h1.trans z))]; exact ⟨h1, h2, h3⟩
theorem KT.put {H : Hp} {kvs : List (List Key × V)} {xs : List (List Key × Addr × Value)} (r : KT H kvs xs) (k : List Key) {b : Addr} {y : V} {u : Value} (hb : H b = some (.tup (k.map kV))) (ry : RelV y u) :
    KT H (putK kvs k y) (storedH xs k b u) := by
  have e : (kvs.any fun kv => decide (kv.1 = k)) = (atKey xs k).isSome := by
    rw [valV_any, (r.val k).isSome_eq, Option.isSome_map]
  unfold putK storedH
  rw [e]
  by_cases q : (atKey xs k).isSome = true
  · rw [if_pos q, if_pos q]; exact r.repl k ry
  · rw [if_neg q, if_neg q]; exact Paired.snoc r ⟨rfl, hb, ry⟩
theorem KT.keeps {H H' : Hp} {kvs : List (List Key × V)} {xs : List (List Key × Addr × Value)} (r : KT H kvs xs) (ht : ∀ b ys, H b = some (.tup ys) → H' b = some (.tup ys)) : KT H' kvs xs :=
  Paired.mapP r fun _ _ z => ⟨z.1, ht _ _ z.2.1, z.2.2⟩
section
variable {P : Program} {w : World} {H : Hp} {h : Heap} {a : Addr}
theorem rd_of {u : HO} (ok : HOk P w H h) (e : Rd H a u) : ObjOk P w H h a u := e.ok ok
theorem dk_rd {kvs : List (Key × V)} (ok : HOk P w H h) (e : Rd H a (.dK kvs)) : kvs.length ≤ sizeLine ∧ (a == sysModules) = false ∧ ∃ vs, KV kvs vs ∧ h.DictOf (mixKind P w) a vs :=
  show ObjOk P w H h a (.dK kvs) from rd_of ok e
theorem dk_of {kvs : List (Key × V)} (ok : HOk P w H h) (e : H a = some (.dK kvs)) : kvs.length ≤ sizeLine ∧ (a == sysModules) = false ∧ ∃ vs, KV kvs vs ∧ h.DictOf (mixKind P w) a vs := dk_rd ok (.inl e)
theorem key_of {ks : List Key} (ok : HOk P w H h) (e : H a = some (.tup (ks.map kV))) : (tupleKind (mixKind P w)).is h ks a := by
  obtain ⟨_, its, r, o, h1, h2, n, h3⟩ := (show ObjOk P w H h a (.tup (ks.map kV)) from ok a _ e)
  exact ⟨o, its.toArray, n, h1, h2, h3, by simpa using items_are r⟩
theorem dt_rd {kvs : List (List Key × V)} (ok : HOk P w H h) (e : Rd H a (.dT kvs)) : kvs.length ≤ sizeLine ∧ (a == sysModules) = false ∧
    ∃ xs, KT H kvs xs ∧ h.DictOfH (tupleKind (mixKind P w)) a xs := by
  obtain ⟨z, y, xs, r, o, es, ep, h1, h2, h3, h4, h5⟩ := (show ObjOk P w H h a (.dT kvs) from rd_of ok e)
  refine ⟨z, y, xs, r, o, es, ep, h1, h2, h3, h4, fun x hx => ?_, h5⟩
  have all : ∀ {l : List (List Key × V)} {m : List (List Key × Addr × Value)}, KT H l m → ∀ x ∈ m, (tupleKind (mixKind P w)).is h x.1 x.2.1 := by
    intro l m q
    induction q with
    | nil => intro x hx; exact nomatch hx
    | @cons p q ps qs hq t ih =>
      intro x hx
      rcases List.mem_cons.mp hx with e | hx
      · subst e
        exact key_of ok (by rw [← hq.1]; exact hq.2.1)
      · exact ih x hx
  exact all r x hx
theorem dt_of {kvs : List (List Key × V)} (ok : HOk P w H h) (e : H a = some (.dT kvs)) : kvs.length ≤ sizeLine ∧ (a == sysModules) = false ∧
    ∃ xs, KT H kvs xs ∧ h.DictOfH (tupleKind (mixKind P w)) a xs := dt_rd ok (.inl e)
end
def DGet (H : Hp) (a : Addr) (y : V) (r : Option V) : Prop :=
  (∃ kvs k, Rd H a (.dK kvs) ∧ y = kV k ∧ r = valV kvs k) ∨ ∃ kvs k b, Rd H a (.dT kvs) ∧ y = .ref b ∧ H b = some (.tup (k.map kV)) ∧ r = valV kvs k
def DPut (H : Hp) (a : Addr) (y v : V) (H' : Hp) : Prop :=
  (∃ kvs k, H a = some (.dK kvs) ∧ y = kV k ∧ kvs.length < sizeLine ∧ H' = upd H a (.dK (putK kvs k v))) ∨
  ∃ kvs k b, H a = some (.dT kvs) ∧ y = .ref b ∧ H b = some (.tup (k.map kV)) ∧ kvs.length < sizeLine ∧ H' = upd H a (.dT (putK kvs k v))
theorem DGet.k {H : Hp} {a : Addr} {kvs : List (Key × V)} {k : Key} (e : H a = some (.dK kvs)) : DGet H a (kV k) (valV kvs k) := .inl ⟨kvs, k, .inl e, rfl, rfl⟩
theorem DPut.k {H : Hp} {a : Addr} {kvs : List (Key × V)} {k : Key} {v : V} (e : H a = some (.dK kvs)) (hl : kvs.length < sizeLine) : DPut H a (kV k) v (upd H a (.dK (putK kvs k v))) := .inl ⟨kvs, k, e, rfl, hl, rfl⟩
section
variable {X : Cx} {pins : List (Addr × Obj)} {σ : St} {H : Hp} {s : Shared} {a : Addr} {y v : V} {u r : Value} {o : Option V} {A : Around} {E : Value → Shared → Prop}
theorem Inv.big (I : Inv X pins σ H s) : sysModules < s.heap.objs.size := by
  have h : mainGlobals < s.heap.objs.size := (I.mod.glob.keeps I.bk).lt
  exact Nat.lt_trans (by decide) h
theorem d_in {Q : Value → Shared → Prop} (hu : A.units + 1 < cLine) (I : Inv X pins σ H s) (g : DGet H a y o) (ry : RelV y u) (h : ∀ s', Inv X pins σ H s' → Q (.bool o.isSome) s') :
    wpAny (model X.prog X.w) A (compareOp .In u (.ref a)) Q E s := by
  rcases g with ⟨kvs, k, e, ey, l⟩ | ⟨kvs, k, b, e, ey, eb, l⟩
  · subst ey
    obtain ⟨z, hd, vs, rel, dd⟩ := dk_rd I.hok e
    refine wpAny_in_of (kV_is ry) hd dd.mapOf ?_
    rw [← (rel.val k).isSome_eq, ← l]
    exact h _ (I.tok _)
  · subst ey
    cases (show u = Value.ref b from ry)
    obtain ⟨z, hd, xs, rel, dd⟩ := dt_rd I.hok e
    refine wpAny_in_heap (tupleKind_room_in1 hu) (key_of I.hok eb) hd dd ?_
    have q := (rel.val k).isSome_eq
    rw [Option.isSome_map] at q
    rw [← q, ← l]
    exact h _ (I.tok _)
theorem d_notIn {Q : Value → Shared → Prop} (hu : A.units + 1 < cLine) (I : Inv X pins σ H s) (g : DGet H a y o) (ry : RelV y u) (h : ∀ s', Inv X pins σ H s' → Q (.bool (!o.isSome)) s') :
    wpAny (model X.prog X.w) A (compareOp .NotIn u (.ref a)) Q E s := by
  rcases g with ⟨kvs, k, e, ey, l⟩ | ⟨kvs, k, b, e, ey, eb, l⟩
  · subst ey
    obtain ⟨z, hd, vs, rel, dd⟩ := dk_rd I.hok e
    refine wpAny_notIn_of (kV_is ry) hd dd.mapOf ?_
    rw [← (rel.val k).isSome_eq, ← l]
    exact h _ (I.tok _)
  · subst ey
    cases (show u = Value.ref b from ry)
    obtain ⟨z, hd, xs, rel, dd⟩ := dt_rd I.hok e
    refine wpAny_notIn_heap (tupleKind_room_in1 hu) (key_of I.hok eb) hd dd ?_
    have q := (rel.val k).isSome_eq
    rw [Option.isSome_map] at q
    rw [← q, ← l]
    exact h _ (I.tok _)
theorem d_write {h' : Heap} {t' : Nat} {ob : HO} (I : Inv X pins σ H s) (mu : Mut (H a)) (hs : Heap.SameBut a s.heap h') (he : ∃ q, h'.get? a = some q) (new : ObjOk X.prog X.w (upd H a ob) h' a ob) :
    Inv X pins σ (upd H a ob) { s with heap := h', toks := t' } :=
  I.write (x := a) (e := a) mu (.inl rfl) (fun b q hb z => (hs.2 b hb).trans z) he new
theorem dk_new {P : Program} {w : World} {H' : Hp} {h' : Heap} {kvs : List (Key × V)} {vs : List (Key × Value)} (z : kvs.length ≤ sizeLine) (hd : (a == sysModules) = false) (rel : KV kvs vs) (dd : h'.DictOf (mixKind P w) a vs) :
    ObjOk P w H' h' a (.dK kvs) := ⟨z, hd, vs, rel, dd⟩
theorem d_setItem {H' : Hp} {Q : Unit → Shared → Prop} (hu : A.units + 1 < cLine) (I : Inv X pins σ H s) (g : DPut H a y v H') (ry : RelV y u) (rv : RelV v r) (h : ∀ s', Inv X pins σ H' s' → Q () s') :
    wpAny (model X.prog X.w) A (setItem (.ref a) u r) Q E s := by
  rcases g with ⟨kvs, k, e, ey, l, eH⟩ | ⟨kvs, k, b, e, ey, eb, l, eH⟩
  · subst ey eH
    obtain ⟨z, hd, vs, rel, dd⟩ := dk_of I.hok e
    have hz : vs.length ≤ sizeLine := by rw [← rel.length]; exact z
    have hl : (putK kvs k v).length ≤ sizeLine := by have := length_putK kvs k v; omega
    refine wpAny_setItem_pairs (hsz := hz) (kV_is ry) dd fun h' dd' hs => h _ ?_
    have he : ∃ q, h'.get? a = some q := let ⟨q, _, _, hq, _⟩ := dd'; ⟨q, hq⟩
    exact d_write I (by rw [e]; exact True.intro) hs he (dk_new hl hd (rel.put k rv) dd')
  · subst ey eH
    cases (show u = Value.ref b from ry)
    obtain ⟨z, hd, xs, rel, dd⟩ := dt_of I.hok e
    have hz : xs.length ≤ sizeLine := by rw [← Paired.length rel]; exact z
    have hl : (putK kvs k v).length ≤ sizeLine := by have := length_putK kvs k v; omega
    refine wpAny_setItem_heap (hsz := hz) (tupleKind_room_in1 hu) (key_of I.hok eb) dd fun h' dd' hs => h _ ?_
    obtain ⟨q, es, ep, hq, h2, h3, h4, _, h5⟩ := dd'
    refine d_write I (by rw [e]; exact True.intro) hs ⟨q, hq⟩ ⟨hl, hd, _, (rel.put k eb rv).keeps fun c ys ec => ?_, q, es, ep, hq, h2, h3, h4, h5⟩
    rw [upd_ne (ne_of ec e (fun z => nomatch z))]
    exact ec
end
section
variable {X : Cx} {pins : List (Addr × Obj)} {σ : St} {H : Hp} {s : Shared} {a : Addr} {kvs : List (Key × V)} {k : Key} {u : Value} {A : Around} {E : Value → Shared → Prop}
end
def tDIn (ty td : TE) : TE := fun σ H Q => ty σ H fun y H1 => td σ H1 fun x H2 => ∃ a o, x = .ref a ∧ DGet H2 a y o ∧ Q (.bl o.isSome) H2
def tDNotIn (ty td : TE) : TE := fun σ H Q => ty σ H fun y H1 => td σ H1 fun x H2 => ∃ a o, x = .ref a ∧ DGet H2 a y o ∧ Q (.bl (!o.isSome)) H2
def sDPut (td ty tv : TE) : TS := fun D σ H => tv σ H fun v H1 => td σ H1 fun x H2 => ty σ H2 fun y H3 => ∃ a H4, x = .ref a ∧ DPut H3 a y v H4 ∧ D.nx σ H4
section
variable {X : Cx} {o i e value : Expr} {pos pos' tpos : Pos} {td ty tv : TE}
theorem pc_din (hu : X.A.units + 1 < cLine) (hi : PE X i ty) (ho : PE X o td) : PC X .In i o (tDIn ty td) := by
  intro pins s σ H Q I h
  refine thn (hi pins s σ H _ I h) fun iv s1 ⟨y, H1, I1, ry, q1⟩ => thn (ho pins s1 σ H1 _ I1 q1) fun u s2 ⟨x, H2, I2, rx, a, ov, ex, g, q2⟩ => ?_
  subst ex
  obtain rfl : u = Value.ref a := rx
  exact d_in hu I2 g ry fun s3 I3 => ⟨.bl ov.isSome, H2, I3, rfl, q2⟩
theorem pc_dnotin (hu : X.A.units + 1 < cLine) (hi : PE X i ty) (ho : PE X o td) : PC X .NotIn i o (tDNotIn ty td) := by
  intro pins s σ H Q I h
  refine thn (hi pins s σ H _ I h) fun iv s1 ⟨y, H1, I1, ry, q1⟩ => thn (ho pins s1 σ H1 _ I1 q1) fun u s2 ⟨x, H2, I2, rx, a, ov, ex, g, q2⟩ => ?_
  subst ex
  obtain rfl : u = Value.ref a := rx
  exact d_notIn hu I2 g ry fun s3 I3 => ⟨.bl (!ov.isSome), H2, I3, rfl, q2⟩
theorem ps_dput (hu : X.A.units + 1 < cLine) (ho : PE X o td) (hi : PE X i ty) (hv : PE X value tv) (hs : swapsWith value (some (.Subscript o i pos')) pos.line X.env = pure false) :
    PS X (.Assign [.Subscript o i pos'] value pos) (sDPut td ty tv) := by
  intro pins s σ H D I h
  refine wpAny_Assign_Subscript (thn (hv pins s σ H _ I h) fun r s1 ⟨v, H1, I1, rv, q1⟩ => thn (ho pins s1 σ H1 _ I1 q1) fun u s2 ⟨x, H2, I2, rx, q2⟩ => thn (hi pins s2 σ H2 _ I2 q2) fun iv s3 ⟨y, H3, I3, ry, a, H4, ex, g, q3⟩ => ?_) hs
  subst ex
  obtain rfl : u = Value.ref a := rx
  exact d_setItem hu I3 g ry rv fun s4 I4 => ⟨σ, H4, I4, q3⟩
end
theorem dk_empty {P : Program} {w : World} {H : Hp} (h : Heap) (hb : sysModules < h.objs.size) : ObjOk P w H (h.push { cls := .type "dict", data := .dict #[] }) h.objs.size (.dK []) :=
  ⟨Nat.zero_le _, beq_eq_false_iff_ne.mpr (Ne.symm (Nat.ne_of_lt hb)), [], .nil, Heap.DictOf.new h⟩
def tDNewK : TE := fun _ H Q => ∀ p, H p = none → Q (.ref p) (upd H p (.dK []))
section
variable {X : Cx} {pos : Pos}
theorem pe_dnewK : PE X (.Dict [] [] pos) tDNewK := fun pins s σ H Q I h =>
  wpAny_Dict_empty ⟨.ref s.heap.objs.size, _, I.laid (a := s.heap.objs.size) (o := .dK []) (t' := s.toks) (fun _ _ q => Heap.get?_push_of_some _ q) (Nat.le_refl _) (dk_empty s.heap I.big), rfl, h _ (I.hok.fresh (Nat.le_refl _))⟩
end
section
variable {X : Cx} {pins : List (Addr × Obj)} {σ : St} {H : Hp} {s : Shared} {a : Addr} {y d : V} {u r : Value} {o : Option V} {A : Around} {E : Value → Shared → Prop}
end
section
variable {X : Cx} {o e f : Expr} {apos cpos : Pos} {td ty tx : TE}
end
section
variable {X : Cx} {pins : List (Addr × Obj)} {σ : St} {H : Hp} {s : Shared} {a : Addr} {kvs : List (Key × V)} {A : Around} {E : Value → Shared → Prop}
end
section
variable {X : Cx} {pins : List (Addr × Obj)} {σ : St} {H : Hp} {s : Shared} {a : Addr} {y : V} {u : Value} {A : Around} {E : Value → Shared → Prop}
end
end L2
namespace Att
open PySem PySem.W PySem.Calls PyProof.Rows
theorem ints_of_wellAll {P : Params} {h : Heap} : ∀ (ns : List Int) (vs : List Value), WellAll P h vs (ns.map WData.int) → IntsAre vs ns := by
  intro ns
  induction ns with
  | nil =>
    intro vs w
    rw [List.map_nil] at w
    cases w
    exact .nil
  | cons n ns ih =>
    intro vs w
    rw [List.map_cons] at w
    cases w with
    | cons a b =>
      cases a
      exact .cons _ _ (ih _ b)
theorem script_of {l : OpenLaw} {n : Nat} (hn : l.most = some n) {P : Params} {h : Heap} {args : List WData} {vals : List Value}
    (hpre : l.row.toRowW.claim.pre args = true) (hwl : WellAll P h vals args) :
    ∃ a vs ns, vals = [Value.ref a] ∧ args = [WData.list (ns.map WData.int)] ∧ h.get? a = some { cls := .type "list", data := .seq vs.toArray } ∧ IntsAre vs ns ∧ ns.length ≤ n := by
  have hsh : WShape.hasAll [] args [.list .int] = true := (pre_splitW hpre).1
  have hc : l.pre.holds [] { args := args } = true := (pre_splitW hpre).2
  obtain ⟨d, r, rfl, h1, h2⟩ := hasAllW_cons hsh
  obtain rfl := hasAllW_nil h2
  obtain ⟨xs, rfl, h3⟩ := hasW_list h1
  obtain ⟨ns, rfl⟩ := items_int h3
  have hlen : ns.length ≤ n := by
    unfold OpenLaw.pre at hc
    have h4 : (WTm.not (.lt (.lit (.int (n : Int))) (.len (.arg 0)))).holds [] { args := [.list (ns.map .int)] } = true := by
      have h4 := (holds_andW hc).1
      rw [hn] at h4
      exact h4
    have h5 := condW_of h4 (w_not (w_lt w_lit (w_len_list (w_arg rfl))))
    rw [List.length_map] at h5
    refine Nat.le_of_not_lt fun q => ?_
    have q' : (n : Int) < ((ns.length : Nat) : Int) := by omega
    first
      | (rw [decide_eq_true q'] at h5; exact absurd h5 (by decide))
      | (simp at h5; omega)
  cases hwl with
  | cons w1 w2 =>
    cases w2
    cases w1 with
    | list ho hall => exact ⟨_, _, ns, rfl, rfl, ho, ints_of_wellAll ns _ hall, hlen⟩
theorem post_true (l : OpenLaw) (args : List WData) : l.row.toRowW.claim.post args (.bool true) args = true :=
  postW_of (r := l.row.toRowW) (X := (true == true))
    (show WShape.has [] (.bool true) .bool = true by first | rfl | decide | simp [WShape.has, WShape.arms, WShape.armsAll])
    (show (WTm.eq .res (.lit (.bool true))).value [] { args := args, res := some (.bool true), after := args } = some (.bool (true == true)) from w_eq_bool (w_res rfl) w_lit) rfl
theorem attach_call {l : OpenLaw} {n : Nat} {q : Program} {loose : List Str} {XP : (Str → Option Value) → Heap → Prop} {YP : World → Heap → Prop} {d : DefRec}
    (hn : l.most = some n) (hdf : d.params.defaults = [])
    (call : ∀ (w : World) (s₀ s₁ : Shared) (mg mb : Str → Option Value) (fa : Addr) (o : Obj) (pm cd doc : Value) (a : Addr) (vs : List Value) (ns : List Int),
      Ground q loose [] XP w s₀ mg mb s₁.heap → YP w s₁.heap →
      s₁.heap.get? fa = some o → o.data = .func (docDef d.name d.params d.body d.scope pm cd doc) → s₁.heap.CodeRec cd d.name → mg d.name = some (.ref fa) →
      s₁.heap.get? a = some { cls := .type "list", data := .seq vs.toArray } → IntsAre vs ns → ns.length ≤ n → s₁.gens = #[] →
      codeAny (model l.prog w) callerA (.call (.ref fa) ⟨[.ref a], []⟩) (fun r s' => r = .ok (.ret (.bool true)) ∧ OldK s₁.heap s'.heap ∧ s'.os = s₁.os ∧ AllBare s'.gens) s₁) :
    WalkO q loose XP YP l.row.toRowW d [] (fun f vs => PySem.call f vs) := by
  intro w s₀ s₁ mg mb G Y fa o pm cd doc dV kV ho hd hcd hD hmg hg args vals as hpre hlay hrd hwl hlo
  obtain rfl : dV = .none := Dflts.none hD hdf
  obtain rfl : kV = .none := Dflts.noKw hD
  obtain ⟨a, vs, ns, rfl, rfl, hobj, hints, hlen⟩ := script_of hn hpre hwl
  refine enter_call (codeAny_mono (call w s₀ s₁ mg mb fa o pm cd doc a vs ns G Y ho (fd_plain hd) hcd hmg hobj hints hlen hg) fun r s' hq => ?_)
  obtain ⟨rfl, h2, h3, h4⟩ := hq
  exact ⟨.inl ⟨.bool true, .bool true, [], rfl, fun _ => rfl, .bool true, post_true l _, fun _ => ⟨List.Pairwise.nil, fun _ hm => (nomatch hm)⟩⟩, h2, h3, h4⟩
section
variable {prog : Program} {w : World} {A : Around} {E : Value → Shared → Prop} {s : Shared} {K : Frag}
end
end Att
namespace L2
open PySem PySem.Spec PyProof.Rows
theorem vals_ints : ∀ {vs : List Value} {ns : List Int}, IntsAre vs ns → Vals (ns.map V.int) vs
  | _, _, .nil => .nil
  | _, _, .cons n t h => .cons ⟨t, rfl⟩ (vals_ints h)
end L2
namespace L2
open PySem PySem.Spec PyProof.Rows
end L2
namespace L2
open PySem PySem.Spec PyProof.Rows
def inClass (s : Stmt) (j : Nat) : Stmt := match s with
  | .ClassDef _ _ _ body _ _ _ _ _ _ _ => body.getD j (.Pass ⟨0, 0, 0, 0⟩)
  | _ => .Pass ⟨0, 0, 0, 0⟩
def defArgs (s : Stmt) : Arguments := match s with
  | .FunctionDef _ a _ _ _ _ _ _ _ _ => a
  | _ => { posonlyargs := [], args := [], vararg := none, kwonlyargs := [], kw_defaults := [], kwarg := none, defaults := [] }
def defBody (s : Stmt) : List Stmt := match s with
  | .FunctionDef _ _ b _ _ _ _ _ _ _ => b
  | _ => []
def defScope (s : Stmt) : Scope := match s with
  | .FunctionDef _ _ _ _ _ _ sc _ _ _ => sc
  | _ => { kind := .function, names := [], isGenerator := false, isCoroutine := false }
abbrev CX0 : CXT := fun _ _ _ _ _ _ => False
abbrev E0 : XK := fun _ _ _ => False
theorem pass0 {X : Cx} : Passes CX0 X E0 := fun _ _ _ _ _ _ _ h => h.elim
structure Fun (K : PySem.W.Frag) (x qual : Str) (st : Stmt) (f : Addr) (fd : FuncData) : Prop where
  ex : ∃ (oc : Value) (od : Option Addr) (kV doc pm : Value) (an : Option Addr) (cdv ct : Value) (osl : Array (Option Value)),
    fd = PySem.W.fnOf x qual (defArgs st) (defBody st) (defScope st) .none kV doc pm an cdv ct ∧ K.lookup f = some ⟨oc, od, .func fd, osl⟩ ∧ PySem.W.codeIn K cdv qual = true
  kp : PySem.W.keepIn K (.ref f) = true
section
variable {P : Program} {w : World} {K : PySem.W.Frag} {mg : Str → Option Value} {base : Heap}
theorem Fun.ok {x qual : Str} {st : Stmt} {f : Addr} {fd : FuncData} {N ps : List Str} {k : Nat} {sp : Sp} (F : Fun K x qual st f fd) (S : FnScope N ps (defScope st)) (len : ∀ vs H Q E, sp vs H Q E → vs.length = ps.length)
    (hbody : ∀ (cdv : Value) (A : Around) (outer : List Env) (s : Shared) (H : Hp) (vs : List V) (Q : VK) (E : XK), Room k (A.deeper (envOfC qual (defScope st) s.heap.objs.size f cdv)) → sp vs H Q E →
      ∃ t, PSs (cxOf CX0 P w K mg base N qual (defScope st) f cdv A outer s H E).nox (defBody st) t ∧ t { nx := fun _ H' => Q .non H', rt := Q } (start N vs) H) : FnOk P w K mg base CX0 (k + 1) f fd ps sp := by
  obtain ⟨oc, od, kV, doc, pm, an, cdv, ct, osl, rfl, lk, hcd⟩ := F.ex
  refine fn_of lk hcd S len fun A outer s H vs Q E hr hsp => ?_
  obtain ⟨t, h, q⟩ := hbody cdv A outer s H vs Q E hr hsp
  exact ⟨t, h.nox, q⟩
theorem Fun.binds {x qual : Str} {st : Stmt} {f : Addr} {fd : FuncData} {ps : List Str} (F : Fun K x qual st f fd)
    (h : ∀ (kV doc pm : Value) (an : Option Addr) (cdv ct : Value) (us : List Value), us.length = ps.length → bindArgs (PySem.W.fnOf x qual (defArgs st) (defBody st) (defScope st) .none kV doc pm an cdv ct) ⟨us, []⟩ = pure (ps.zip us)) : Binds K fd ps [] := by
  obtain ⟨oc, od, kV, doc, pm, an, cdv, ct, osl, rfl, lk, hcd⟩ := F.ex
  exact .all (h kV doc pm an cdv ct)
theorem fun_mk {x qual : Str} {st : Stmt} {f : Addr} {oc : Value} {od an : Option Addr} {osl : Array (Option Value)} {kV doc pm cdv ct : Value} (l : K.lookup f = some ⟨oc, od, .func (PySem.W.fnOf x qual (defArgs st) (defBody st) (defScope st) .none kV doc pm an cdv ct), osl⟩)
    (c : PySem.W.codeIn K cdv qual = true) (k : PySem.W.keepIn K (.ref f) = true) : Fun K x qual st f (PySem.W.fnOf x qual (defArgs st) (defBody st) (defScope st) .none kV doc pm an cdv ct) := ⟨⟨oc, od, kV, doc, pm, an, cdv, ct, osl, rfl, l, c⟩, k⟩
end
theorem hu_of {A : Around} {k : Nat} (hr : Room k A) : A.units + 1 < cLine := Nat.lt_of_le_of_lt (Nat.add_le_add_left (by decide : 1 ≤ 64) _) hr.units
section
variable {X : Cx}
end
def Same (H H' : Hp) : Prop := ∀ b o, H b = some o → H' b = some o
theorem Same.refl (H : Hp) : Same H H := fun _ _ h => h
theorem Same.trans {H H1 H2 : Hp} (a : Same H H1) (b : Same H1 H2) : Same H H2 := fun c o h => b c o (a c o h)
theorem Same.free {H H' : Hp} (e : Same H H') {l : Addr} (h : H' l = Option.none) : H l = Option.none := by
  cases q : H l with
  | none => rfl
  | some o =>
    rw [e l o q] at h
    cases h
theorem Same.seq {K : PySem.W.Frag} {H H' : Hp} {a : Addr} {xs : List V} (e : Same H H') (h : SqL K H a xs) : SqL K H' a xs := by
  rcases h with (h | ⟨o, h⟩) | h
  · exact .inl (.inl (e _ _ h))
  · exact .inl (.inr ⟨o, e _ _ h⟩)
  · exact .inr h
section
variable {X : Cx}
end
section
variable {κ : Type} [DecidableEq κ]
theorem nd_snoc : ∀ {l : List κ} {k : κ}, l.Nodup → ¬ k ∈ l → (l ++ [k]).Nodup
  | [], k, _, _ => by simp
  | a :: r, k, h, hk => by
    obtain ⟨h1, h2⟩ := List.nodup_cons.mp h
    show (a :: (r ++ [k])).Nodup
    refine List.nodup_cons.mpr ⟨fun m => ?_, nd_snoc h2 fun m => hk (List.mem_cons.mpr (Or.inr m))⟩
    rcases List.mem_append.mp m with q | q
    · exact h1 q
    · exact hk (List.mem_cons.mpr (Or.inl (List.mem_singleton.mp q).symm))
end
end L2
set_option maxHeartbeats 4000000
namespace L2
open PySem PySem.Spec PyProof.Rows
section
variable {X : Cx}
theorem PE.imp {e : Expr} {t t' : TE} (h : PE X e t) (i : ∀ σ H Q, t' σ H Q → t σ H Q) : PE X e t' :=
 fun pins s σ H Q I q => h pins s σ H Q I (i σ H Q q)
theorem PT.imp {e : Expr} {t t' : TT} (h : PT X e t) (i : ∀ σ H Q, t' σ H Q → t σ H Q) : PT X e t' :=
 fun pins s σ H Q I q => h pins s σ H Q I (i σ H Q q)
theorem OpR.imp {f : Value → Value → Sem Value} {r r' : R2} (h : OpR X f r) (i : ∀ x y H Q, r' x y H Q → r x y H Q) : OpR X f r' :=
 fun pins s σ H x y v u Q I rx ry q => h pins s σ H x y v u Q I rx ry (i x y H Q q)
theorem UnR.imp {f : Value → Sem Value} {r r' : V → Hp → VK → Prop} (h : UnR X f r) (i : ∀ x H Q, r' x H Q → r x H Q) : UnR X f r' :=
 fun pins s σ H x v Q I rx q => h pins s σ H x v Q I rx (i x H Q q)
theorem CallR.imp {f : Value} {r r' : List V → Hp → VK → Prop} (h : CallR X f r) (i : ∀ xs H Q, r' xs H Q → r xs H Q) : CallR X f r' :=
 fun pins s σ H xs us Q I rv q => h pins s σ H xs us Q I rv (i xs H Q q)
theorem pe_alt {e : Expr} {t u : TE} (h : PE X e t) (k : PE X e u) : PE X e (fun σ H Q => t σ H Q ∨ u σ H Q) :=
 fun pins s σ H Q I q => q.elim (fun z => h pins s σ H Q I z) (fun z => k pins s σ H Q I z)
def cVar (i : Nat) : TE := fun σ H Q => match σ[i]? with
 | some (some v) => Q v H
 | _ => False
theorem cVar_imp {i : Nat} {σ : St} {H : Hp} {Q : VK} (q : cVar i σ H Q) : tVar i σ H Q := by
 unfold cVar at q
 split at q
 ·rename_i v e; exact ⟨v, e, q⟩
 ·exact q.elim
theorem cv (i : Nat) {x : Str} {pos : Pos} (hN : X.N[i]? = some x := by rfl) (hv : Vis X.env.scope x := by first | exact Or.inl rfl | exact Or.inr (Or.inl rfl) | exact Or.inr (Or.inr rfl)) (hd : (x == ("__debug__" : Str)) = false := by decide)
  (hcd : (x == ("__classdict__" : Str)) = false := by decide) : PE X (.Name x pos) (cVar i) := (pe_var hN hv hd hcd).imp fun _ _ _ q => cVar_imp q
def kI (C : Int → Int → Prop) (g : Int → Int → V) : R2 := fun x y H Q => match x with
 | .int i => (match y with
  | .int j => C i j ∧ Q (g i j) H
  | _ => False)
 | _ => False
def kI0 (g : Int → Int → V) : R2 := fun x y H Q => match x with
 | .int i => (match y with
  | .int j => Q (g i j) H
  | _ => False)
 | _ => False
theorem kI_imp {C : Int → Int → Prop} {g : Int → Int → V} {x y : V} {H : Hp} {Q : VK} (q : kI C g x y H Q) : rI C g x y H Q := by
 cases x with
 | int i =>
  cases y with
  | int j => exact ⟨i, j, rfl, rfl, q.1, q.2⟩
  | _ => exact False.elim q
 | _ => exact False.elim q
theorem kI0_imp {g : Int → Int → V} {x y : V} {H : Hp} {Q : VK} (q : kI0 g x y H Q) : rI0 g x y H Q := by
 cases x with
 | int i =>
  cases y with
  | int j => exact ⟨i, j, rfl, rfl, q⟩
  | _ => exact False.elim q
 | _ => exact False.elim q
theorem o_add : OpR X (binaryOp .Add) (kI0 fun i j => .int (i + j)) := op_add.imp fun _ _ _ _ => kI0_imp
theorem o_sub : OpR X (binaryOp .Sub) (kI0 fun i j => .int (i - j)) := op_sub.imp fun _ _ _ _ => kI0_imp
theorem o_mul : OpR X (binaryOp .Mult) (kI CMul fun i j => .int (i * j)) := op_mul.imp fun _ _ _ _ => kI_imp
def CDivB (_i j : Int) : Prop := 0 < j ∧ j.natAbs.log2 < 9000
theorem o_fdiv : OpR X (binaryOp .FloorDiv) (kI CDivB fun i j => .int (i / j)) :=
 (opI (C := CDivB) (g := fun i j => i / j) fun i j _ _ _ _ _ hc q => by
  have h0 : 0 < j := hc.1
  rw [← Int.fdiv_eq_ediv_of_nonneg i (Int.le_of_lt h0)] at q
  exact floordiv_int (Int.ne_of_gt h0) q (.inl (PyProof.noPylong_of_log2 hc.2))).imp fun _ _ _ _ => kI_imp
theorem o_mod : OpR X (binaryOp .Mod) (kI (fun _ j => 0 < j) fun i j => .int (i % j)) := op_mod.imp fun _ _ _ _ => kI_imp
theorem o_pow : OpR X (binaryOp .Pow) (kI CPow fun i j => .int (i ^ j.toNat)) := op_pow.imp fun _ _ _ _ => kI_imp
theorem o_lt : OpR X (compareOp .Lt) (kI0 fun i j => .bl (decide (i < j))) := op_lt.imp fun _ _ _ _ => kI0_imp
theorem o_le : OpR X (compareOp .LtE) (kI0 fun i j => .bl (decide (i ≤ j))) := op_le.imp fun _ _ _ _ => kI0_imp
theorem o_gt : OpR X (compareOp .Gt) (kI0 fun i j => .bl (decide (j < i))) := op_gt.imp fun _ _ _ _ => kI0_imp
theorem o_ge : OpR X (compareOp .GtE) (kI0 fun i j => .bl (decide (j ≤ i))) := op_ge.imp fun _ _ _ _ => kI0_imp
theorem dec_V {a b : V} {p : Prop} [Decidable p] (h : a = b ↔ p) : decide (a = b) = decide p := by
 by_cases e : p
 ·rw [decide_eq_true e, decide_eq_true (h.mpr e)]
 ·rw [decide_eq_false e, decide_eq_false (fun q => e (h.mp q))]
theorem o_eqI : OpR X (compareOp .Eq) (kI0 fun i j => .bl (decide (i = j))) := op_eq.imp fun x y H Q q => by
 obtain ⟨i, j, rfl, rfl, q⟩ := kI0_imp q
 exact ⟨rfl, by rw [dec_V (p := i = j) ⟨fun e => V.int.inj e, fun e => by rw [e]⟩]; exact q⟩
theorem o_neI : OpR X (compareOp .NotEq) (kI0 fun i j => .bl (!decide (i = j))) := op_ne.imp fun x y H Q q => by
 obtain ⟨i, j, rfl, rfl, q⟩ := kI0_imp q
 exact ⟨rfl, by rw [dec_V (p := i = j) ⟨fun e => V.int.inj e, fun e => by rw [e]⟩]; exact q⟩
def kS0 (g : Str → Str → V) : R2 := fun x y H Q => match x with
 | .str i => (match y with
  | .str j => Q (g i j) H
  | _ => False)
 | _ => False
theorem kS0_imp {g : Str → Str → V} {x y : V} {H : Hp} {Q : VK} (q : kS0 g x y H Q) : ∃ i j, x = .str i ∧ y = .str j ∧ Q (g i j) H := by
 cases x with
 | str i =>
  cases y with
  | str j => exact ⟨i, j, rfl, rfl, q⟩
  | _ => exact False.elim q
 | _ => exact False.elim q
theorem o_eqS : OpR X (compareOp .Eq) (kS0 fun i j => .bl (decide (i = j))) := op_eq.imp fun x y H Q q => by
 obtain ⟨i, j, rfl, rfl, q⟩ := kS0_imp q
 exact ⟨rfl, by rw [dec_V (p := i = j) ⟨fun e => V.str.inj e, fun e => by rw [e]⟩]; exact q⟩
theorem o_neS : OpR X (compareOp .NotEq) (kS0 fun i j => .bl (!decide (i = j))) := op_ne.imp fun x y H Q q => by
 obtain ⟨i, j, rfl, rfl, q⟩ := kS0_imp q
 exact ⟨rfl, by rw [dec_V (p := i = j) ⟨fun e => V.str.inj e, fun e => by rw [e]⟩]; exact q⟩
def kU (g : Int → V) : V → Hp → VK → Prop := fun x H Q => match x with
 | .int i => Q (g i) H
 | _ => False
theorem o_neg : UnR X (unaryOp .USub) (kU fun i => .int (-i)) := un_neg.imp fun x H Q q => by
 cases x with
 | int i => exact ⟨i, rfl, q⟩
 | _ => exact False.elim q
def boolK (Q : Bool → Hp → Prop) : VK := fun x H1 => match x with
 | .bl k => Q k H1
 | _ => False
theorem boolK_of {Q : Bool → Hp → Prop} {x : V} {H1 : Hp} (q : boolK Q x H1) : ∃ k, x = .bl k ∧ Q k H1 := by
 cases x with
 | bl k => exact ⟨k, rfl, q⟩
 | _ => exact False.elim q
def cB (t : TE) : TT := fun σ H Q => t σ H (boolK Q)
variable {a b c : Expr} {ta tb tc : TE} {tA tB' : TT} {pos : Pos} {rest : List Expr}
theorem ct_cmp {op : CmpOp} {r : R2} (ho : OpR X (compareOp op) r) (ha : PE X a ta) (hb : PE X b tb) (hm : behindInMarks op b = false := by exact nomark _) : PT X (.Compare a [op] [b] pos) (cB (tOp r ta tb)) := by
 intro pins s σ H Q I h
 refine wpAny_isTrue_Compare1 (thn (ha pins s σ H _ I h) fun v s1 ⟨x, H1, I1, r1, q1⟩ => thn (hb pins s1 σ H1 _ I1 q1) fun u s2 ⟨y, H2, I2, r2, q2⟩ =>
  thn (ho pins s2 σ H2 x y v u _ I2 r1 r2 q2) fun c s3 ⟨z, H3, I3, r3, q3⟩ => ?_) hm
 obtain ⟨k, rfl, q⟩ := boolK_of q3
 cases r3
 exact wpAny_truthy_bool ⟨H3, I3, q⟩
theorem ce_cmp {op : CmpOp} {r : R2} (ho : OpR X (compareOp op) r) (ha : PE X a ta) (hb : PE X b tb) (hm : behindInMarks op b = false := by exact nomark _) : PE X (.Compare a [op] [b] pos) (tOp r ta tb) := pe_cmpR ho ha hb hm
theorem ct_val {e : Expr} {t : TE} (h : PE X e t) (he : ∀ whole, isTrue e X.env whole = (do let v ← whole; standAt e.pos; holding [v] (truthy v)) := by intro _; rfl) : PT X e (cB t) := by
 intro pins s σ H Q I hw
 refine isTrue_plain (thn (h pins s σ H _ I hw) fun v s1 ⟨x, H1, I1, r1, q1⟩ => ?_) (he _)
 obtain ⟨d, rfl, q⟩ := boolK_of q1
 cases r1
 exact wpAny_truthy_bool ⟨H1, I1, q⟩
def cAnd (t u : TT) : TT := fun σ H Q => t σ H fun c H1 => (c = true → u σ H1 Q) ∧ (c = false → Q false H1)
def cOr (t u : TT) : TT := fun σ H Q => t σ H fun c H1 => (c = true → Q true H1) ∧ (c = false → u σ H1 Q)
theorem cw_and (ha : PT X a tA) (hb : PW X (.BoolOp .And (b :: rest) pos) tB') : PW X (.BoolOp .And (a :: b :: rest) pos) (cAnd tA tB') := by
 intro wh pins s σ H Q I h
 refine isTrue_and (thn (ha pins s σ H _ I h) fun c s1 ⟨H1, I1, q1⟩ => ?_)
 cases c with
 | true => exact hb wh pins s1 σ H1 Q I1 (q1.1 rfl)
 | false => exact ⟨H1, I1, q1.2 rfl⟩
theorem cw_or (ha : PT X a tA) (hb : PW X (.BoolOp .Or (b :: rest) pos) tB') : PW X (.BoolOp .Or (a :: b :: rest) pos) (cOr tA tB') := by
 intro wh pins s σ H Q I h
 refine isTrue_or (thn (ha pins s σ H _ I h) fun c s1 ⟨H1, I1, q1⟩ => ?_)
 cases c with
 | true => exact ⟨H1, I1, q1.1 rfl⟩
 | false => exact hb wh pins s1 σ H1 Q I1 (q1.2 rfl)
def cAndV (ta tb : TE) : TE := fun σ H Q => ta σ H (boolK fun c H1 => (c = true → tb σ H1 Q) ∧ (c = false → Q (.bl false) H1))
def cNotV (ta : TE) : TE := fun σ H Q => ta σ H (boolK fun c H1 => Q (.bl (!c)) H1)
theorem ce_and (ha : PE X a ta) (hb : PE X (.BoolOp .And (b :: rest) pos) tb) : PE X (.BoolOp .And (a :: b :: rest) pos) (cAndV ta tb) := by
 intro pins s σ H Q I h
 refine BoolOp_and (thn (ha pins s σ H _ I h) fun v s1 ⟨x, H1, I1, r1, q1⟩ => ?_)
 obtain ⟨c, rfl, q1⟩ := boolK_of q1
 cases r1
 refine wpAny_truthy_bool ?_
 cases c with
 | true => exact hb pins s1 σ H1 Q I1 (q1.1 rfl)
 | false => exact ⟨.bl false, H1, I1, rfl, q1.2 rfl⟩
theorem ce_not (ha : PE X a ta) : PE X (.UnaryOp .Not a pos) (cNotV ta) := by
 intro pins s σ H Q I h
 refine UnaryOp_ (thn (ha pins s σ H _ I h) fun v s1 ⟨x, H1, I1, r1, q1⟩ => ?_)
 obtain ⟨c, rfl, q1⟩ := boolK_of q1
 cases r1
 exact not_of (wpAny_truthy_bool ⟨.bl (!c), H1, I1, rfl, q1⟩)
def cIfS (c : TT) (t u : TS) : TS := fun D σ H => c σ H fun b H1 => (b = true → t D σ H1) ∧ (b = false → u D σ H1)
theorem cs_if {c : Expr} {p q : List Stmt} {tc : TT} {t u : TS} (hc : PT X c tc) (ha : PSs X p t) (hb : PSs X q u) : PS X (.If c p q pos) (cIfS tc t u) := by
 intro pins s σ H D I h
 refine wpAny_If (thn (hc pins s σ H _ I h) fun d s1 ⟨H1, I1, q1⟩ => ?_)
 cases d with
 | true => exact ha pins s1 σ H1 D I1 (q1.1 rfl)
 | false => exact hb pins s1 σ H1 D I1 (q1.2 rfl)
@[irreducible] def WhileAt (c : TT) (tb : TS) (D : Ends) (σ : St) (H : Hp) : Prop := ∃ W : Nat → St → Hp → Prop, (∃ m, W m σ H) ∧ ∀ m σ H, W m σ H →
 c σ H fun b H1 => (b = true → ∃ N : St → Hp → Prop, (∀ σ' H', N σ' H' → ∃ m', m' < m ∧ W m' σ' H') ∧ tb { D with nx := N, ct := N, bk := D.nx } σ H1) ∧ (b = false → D.nx σ H1)
def cWhile (c : TT) (tb : TS) : TS := fun D σ H => WhileAt c tb D σ H
@[irreducible] def ForAt (J : It) (g : TG) (tb : TS) (D : Ends) (σ : St) (H1 : Hp) : Prop := ∃ W : Nat → Nat → St → Hp → Prop, (∃ m, W 0 m σ H1) ∧ ∀ i m σ H, W i m σ H →
 (J.stop i H ∧ D.nx σ H) ∨ (J.go i H ∧ ∃ N : St → Hp → Prop, (∀ σ' H', N σ' H' → ∃ m', m' < m ∧ W (i + 1) m' σ' H') ∧ ∀ x H', J.yld i H x H' → g x σ H' fun σ2 H2 => tb { D with nx := N, ct := N, bk := D.nx } σ2 H2)
def cFor (wi : TI) (g : TG) (tb : TS) : TS := fun D σ H => wi σ H fun J H1 => ForAt J g tb D σ H1
theorem cFor_eq (wi : TI) (g : TG) (tb : TS) : cFor wi g tb = tFor wi g tb := by
 funext D σ H
 unfold cFor tFor
 congr 1
 funext J H1
 unfold ForAt
 rfl
theorem cs_for {tg iter : Expr} {body : List Stmt} {wi : TI} {g : TG} {tb : TS} {pos : Pos} (hp : PassesOwn (model X.prog X.w) X.A X.env X.xe) (hc : X.calm = true) (hi : PI X tg iter wi) (hg : PG X tg g) (hb : PSs X body tb)
  (hs : ∀ x, foldedSetIterable iter X.env x = pure x := by intro _; rfl) : PS X (.For tg iter body [] pos) (cFor wi g tb) := by
 rw [cFor_eq]
 exact ps_for hp hc hi hg hb hs
def tCut (t : TS) : TS := fun D σ H => ∃ M : L2.St → Hp → Prop, t { D with nx := M } σ H ∧ ∀ σ' H', M σ' H' → D.nx σ' H'
theorem cs_cut {st : Stmt} {t : TS} (h : PS X st t) : PS X st (tCut t) := by
 intro pins s σ H D I q
 obtain ⟨M, q1, q2⟩ := q
 refine thn (h pins s σ H _ I q1) fun f s' z => ?_
 cases f with
 | next => obtain ⟨σ', H', I', m⟩ := z; exact ⟨σ', H', I', q2 σ' H' m⟩
 | brk => exact z
 | cont => exact z
 | ret v => exact z
end
end L2
namespace L2
open PySem PySem.Spec PyProof.Rows
def clOf (cells : List (Str × Addr)) : List (Str × NameKind) → List (Str × Addr) → List (Str × Addr)
 | [], cs => cs
 | (n, k) :: r, cs => clOf cells r (if k == .free then (n, (cells.lookup n).getD 0) :: cs else cs)
theorem closure_is {scope : Scope} {env : Env} (h : ∀ y ∈ scope.names, y.2 = .free → ∃ c, env.cells.lookup y.1 = some c) : closureFor scope env = pure (clOf env.cells scope.names []) := by
 have all : ∀ (l : List (Str × NameKind)) (cs : List (Str × Addr)), (∀ y ∈ l, y.2 = .free → ∃ c, env.cells.lookup y.1 = some c) →
   (forIn l cs fun x r => match x with
    | (name, kind) => if (kind == NameKind.free) = true then do let a ← cellOf env name; pure (ForInStep.yield ((name, a) :: r)) else pure (ForInStep.yield r) : Sem (List (Str × Addr))) = pure (clOf env.cells l cs) := by
  intro l
  induction l with
  | nil => intro cs _; rfl
  | cons y r ih =>
   intro cs hl
   obtain ⟨n, k⟩ := y
   rw [List.forIn_cons]
   by_cases hk : k = .free
   ·subst hk
    obtain ⟨c, hc⟩ := hl (n, .free) List.mem_cons_self rfl
    have e : cellOf env n = pure c := by unfold cellOf; rw [hc]
    simp only [beq_self_eq_true, if_true, e, pure_bind]
    rw [ih _ fun z hz => hl z (List.mem_cons_of_mem _ hz)]
    simp [clOf, hc]
   ·have hb : (k == NameKind.free) = false := by simpa using hk
    simp only [hb, Bool.false_eq_true, if_false, pure_bind]
    rw [ih _ fun z hz => hl z (List.mem_cons_of_mem _ hz)]
    simp [clOf, hb]
 unfold closureFor
 have := all scope.names [] h
 simp only [bind_pure] at this ⊢
 exact this
theorem clOf_sub {cells : List (Str × Addr)} : ∀ {l : List (Str × NameKind)} {cs : List (Str × Addr)} {x : Str} {c : Addr}, (∀ y ∈ l, y.2 = .free → ∃ c, cells.lookup y.1 = some c) → (clOf cells l cs).lookup x = some c →
  cs.lookup x = some c ∨ cells.lookup x = some c
 | [], cs, x, c, _, h => .inl h
 | (n, k) :: r, cs, x, c, hl, h => by
  unfold clOf at h
  rcases clOf_sub (fun z hz => hl z (List.mem_cons_of_mem _ hz)) h with q | q
  ·split at q
   ·rename_i hk
    rw [List.lookup_cons] at q
    split at q
    ·rename_i hx
     obtain ⟨c', hc⟩ := hl (n, k) List.mem_cons_self (by simpa using hk)
     have e : x = n := by simpa using hx
     subst e
     rw [hc] at q
     right
     rw [hc]
     simpa using q
    ·exact .inl q
   ·exact .inl q
  ·exact .inr q
theorem clOf_mem {cells : List (Str × Addr)} : ∀ {l : List (Str × NameKind)} {cs : List (Str × Addr)} {x : Str}, (x, NameKind.free) ∈ l ∨ (∃ c, cs.lookup x = some c) → ∃ c, (clOf cells l cs).lookup x = some c
 | [], cs, x, h => by
  rcases h with h | h
  ·simp at h
  ·exact h
 | (n, k) :: r, cs, x, h => by
  unfold clOf
  refine clOf_mem ?_
  rcases h with h | ⟨c, h⟩
  ·rcases List.mem_cons.mp h with h | h
   ·cases h
    right
    simp
   ·exact .inl h
  ·right
   split
   ·rw [List.lookup_cons]
    split
    ·exact ⟨_, rfl⟩
    ·exact ⟨c, h⟩
   ·exact ⟨c, h⟩
def Cx.blk (X : Cx) (scope : Scope) (C : Addr) (Nc : List Str) (s₂ : Shared) (H₂ : Hp) (fp : List Addr) : Cx :=
 { X with N := Nc, s₀ := s₂, H₀ := H₂, env := compEnvC scope (clOf X.env.cells scope.names []) C X.env, outer := X.stack, stack := X.stack, ex := fp, fn := fun _ => false, pn := [], xe := fun _ _ => False, cp := fun _ => false }
def CapOk (X : Cx) (scope : Scope) : List Nat → List Str → Prop
 | [], [] => True
 | j :: js, y :: ys => (X.N[j]? = some y ∧ scope.names.lookup y = some .free ∧ (X.env.kindOf y = some .cell ∨ X.env.kindOf y = some .free)) ∧ CapOk X scope js ys
 | _, _ => False
def capV (σ : St) (cap : List Nat) : St := cap.map fun j => (σ[j]?).getD none
structure BlkOk (X : Cx) (scope : Scope) (x : Str) (cap : List Nat) (ys : List Str) : Prop where
 kind : scope.kind = .function
 nocell : ∀ y ∈ scope.names, y.2 ≠ .cell
 locs : ∀ y ∈ scope.names, y.2 = .local → scope.names.lookup y.1 = some .local
 lx : scope.names.lookup x = some .local
 fr : ∀ y ∈ scope.names, y.2 = .free → X.env.kindOf y.1 = some .cell ∨ X.env.kindOf y.1 = some .free
 cap : CapOk X scope cap ys
 nd : (x :: ys).Nodup
theorem blk_mk {X : Cx} {scope : Scope} {x : Str} {cap : List Nat} {ys : List Str} (kind : scope.kind = .function) (h1 : (scope.names.all fun y => !(y.2 == .cell)) = true) (h2 : (scope.names.all fun y => !(y.2 == .local) || scope.names.lookup y.1 == some .local) = true)
  (hx : scope.names.lookup x = some .local) (h3 : (scope.names.all fun y => !(y.2 == .free) || (X.env.kindOf y.1 == some .cell || X.env.kindOf y.1 == some .free)) = true) (hcap : CapOk X scope cap ys) (hnd : (x :: ys).Nodup) : BlkOk X scope x cap ys := by
 refine ⟨kind, fun y hy e => ?_, fun y hy e => ?_, hx, fun y hy e => ?_, hcap, hnd⟩
 ·have := List.all_eq_true.mp h1 y hy
  rw [e] at this; exact absurd this (by decide)
 ·have := List.all_eq_true.mp h2 y hy
  rw [e] at this
  simpa using this
 ·have := List.all_eq_true.mp h3 y hy
  rw [e] at this
  simpa using this
theorem capOk_get {X : Cx} {scope : Scope} {σ : St} : ∀ {cap : List Nat} {ys : List Str} {i : Nat} {y : Str} {v : V}, CapOk X scope cap ys → ys[i]? = some y → (capV σ cap)[i]? = some (some v) →
  ∃ j : Nat, X.N[j]? = some y ∧ σ[j]? = some (some v) ∧ scope.names.lookup y = some .free ∧ (X.env.kindOf y = some .cell ∨ X.env.kindOf y = some .free)
 | [], [], i, y, v, _, h, _ => by simp at h
 | j :: js, z :: zs, 0, y, v, ⟨⟨h1, h2, h3⟩, _⟩, e1, e2 => by
  simp at e1; subst e1
  refine ⟨j, h1, ?_, h2, h3⟩
  simp only [capV, List.map_cons, List.getElem?_cons_zero, Option.some.injEq] at e2
  cases q : σ[j]? with
  | none => rw [q] at e2; cases e2
  | some w => rw [q] at e2; simp at e2; rw [e2]
 | j :: js, z :: zs, i + 1, y, v, ⟨_, h⟩, e1, e2 => capOk_get (i := i) h (by simpa using e1) (by simpa [capV] using e2)
 | [], _ :: _, _, _, _, h, _, _ => h.elim
 | _ :: _, [], _, _, _, h, _, _ => h.elim
theorem capOk_len {X : Cx} {scope : Scope} : ∀ {cap : List Nat} {ys : List Str}, CapOk X scope cap ys → cap.length = ys.length
 | [], [], _ => rfl
 | _ :: _, _ :: _, ⟨_, h⟩ => by simp [capOk_len h]
 | [], _ :: _, h => h.elim
 | _ :: _, [], h => h.elim
theorem lookup_mem_names {l : List (Str × NameKind)} {y : Str} {k : NameKind} (h : l.lookup y = some k) : (y, k) ∈ l := PySem.mem_of_lookup h
theorem relabel_free {env : Env} : ∀ {names : List (Str × NameKind)} {x : Str}, names.lookup x = some .free →
  (names.map fun (n, k) => if (k == NameKind.free && env.scope.kind == .function && env.kindOf n == some .cell) then (n, NameKind.cell) else (n, k)).lookup x = some .cell ∨
  (names.map fun (n, k) => if (k == NameKind.free && env.scope.kind == .function && env.kindOf n == some .cell) then (n, NameKind.cell) else (n, k)).lookup x = some .free
 | [], _, h => by simp at h
 | (n, k) :: r, x, h => by
  have ih := @relabel_free env r x
  rw [List.map_cons]
  rw [List.lookup_cons] at h
  cases hx : x == n with
  | true =>
   rw [hx] at h
   simp only [Option.some.injEq] at h
   subst h
   dsimp only
   split
   ·left; rw [List.lookup_cons, hx]
   ·right; rw [List.lookup_cons, hx]
  | false =>
   rw [hx] at h
   dsimp only
   split
   ·rw [List.lookup_cons, hx]; exact ih h
   ·rw [List.lookup_cons, hx]; exact ih h
theorem relabel_of {env : Env} : ∀ {names : List (Str × NameKind)} {x : Str} {k : NameKind},
  (names.map fun (n, k) => if (k == NameKind.free && env.scope.kind == .function && env.kindOf n == some .cell) then (n, NameKind.cell) else (n, k)).lookup x = some k → (k = .cell ∨ k = .free) → (∀ y ∈ names, y.2 ≠ .cell) → (x, NameKind.free) ∈ names
 | [], _, _, h, _, _ => by simp at h
 | (n, k') :: r, x, k, h, hk, hc => by
  rw [List.map_cons] at h
  have hc' : ∀ y ∈ r, y.2 ≠ .cell := fun y hy => hc y (List.mem_cons_of_mem _ hy)
  have nk : k' ≠ .cell := hc (n, k') List.mem_cons_self
  dsimp only at h
  split at h
  ·rename_i q
   rw [List.lookup_cons] at h
   split at h
   ·rename_i hx
    have e : x = n := by simpa using hx
    have e2 : k' = .free := by
     simp only [Bool.and_eq_true, beq_iff_eq] at q
     exact q.1.1
    rw [e, e2]; exact List.mem_cons_self
   ·exact List.mem_cons_of_mem _ (relabel_of h hk hc')
  ·rw [List.lookup_cons] at h
   split at h
   ·rename_i hx
    have e : x = n := by simpa using hx
    have e3 : k' = k := by simpa using h
    rcases hk with q | q
    ·exact absurd (e3.trans q) nk
    ·rw [e, e3, q]; exact List.mem_cons_self
   ·exact List.mem_cons_of_mem _ (relabel_of h hk hc')
section
variable {X : Cx} {scope : Scope} {x : Str} {cap : List Nat} {ys : List Str}
theorem BlkOk.clos (B : BlkOk X scope x cap ys) (ok : X.Ok) : ∀ y ∈ scope.names, y.2 = .free → ∃ c, X.env.cells.lookup y.1 = some c := fun y hy e => ok.has y.1 (B.fr y hy e)
theorem BlkOk.sub (B : BlkOk X scope x cap ys) (ok : X.Ok) {z : Str} {c : Addr} (h : (clOf X.env.cells scope.names []).lookup z = some c) : X.env.cells.lookup z = some c := by
 rcases clOf_sub (B.clos ok) h with q | q
 ·simp at q
 ·exact q
theorem BlkOk.start {pins : List (Addr × Obj)} {σ : St} {H₂ : Hp} {s₂ : Shared} {fp : List Addr} {h₁ : Heap} {tk : Nat} {C D : Addr} (B : BlkOk X scope x cap ys) (I : Inv X pins σ H₂ s₂)
  (hf : ∀ b ∈ fp, FpOk X pins H₂ b) (hD : s₂.heap.objs.size ≤ D) (hC : s₂.heap.objs.size ≤ C) (hDC : D ≠ C) (hk : ∀ b o, s₂.heap.get? b = some o → h₁.get? b = some o)
  (hns : ∃ m, h₁.Ns C m) (hl : h₁.get? D = some { cls := .type "list", data := .seq ([] : List Value).toArray }) (hfp : ∀ b ∈ fp, b < s₂.heap.objs.size) :
  Inv (X.blk scope C (x :: ys) s₂ H₂ fp) [] (none :: capV σ cap) (upd H₂ D (.lst [])) { s₂ with heap := h₁, toks := tk } := by
 have ok := I.ok
 have freshC : H₂ C = none := I.hok.fresh hC
 have freshD : H₂ D = none := I.hok.fresh hD
 have lt : ∀ b o, s₂.heap.get? b = some o → b < s₂.heap.objs.size := fun b o e => Heap.lt_size e
 refine ⟨⟨ok.mod, B.kind, ok.glob, ok.blt, hC, fun y z c h1 h2 => ok.inj y z c (B.sub ok h1) (B.sub ok h2), fun y hy => ?_, fun y c h => (Bool.false_ne_true h).elim, ok.hd, ok.frames, .inl rfl, fun b hb => ⟨?_, fun y c h e => ?_⟩, I.bs, Nat.le_trans ok.bsz I.sz, fun b o e hb => ?_, fun b hb hs => ?_, I.stack, I.stkFree, fun y c h => (Bool.false_ne_true h).elim, fun b hb => I.hok.fresh hb⟩,
  rfl, I.bare, Un.laid hk hD freshD, ?_, fun y c h => ?_, ?_, fun y c h => ?_, fun p hp => ?_, ?_, ?_⟩
 ·have hy' : (relabel scope X.env).names.lookup y = some .cell ∨ (relabel scope X.env).names.lookup y = some .free := hy
  have m : (y, NameKind.free) ∈ scope.names := by
   rcases hy' with q | q
   ·exact relabel_of q (.inl rfl) B.nocell
   ·exact relabel_of q (.inr rfl) B.nocell
  exact clOf_mem (.inl m)
 ·exact Nat.ne_of_lt (Nat.lt_of_lt_of_le (hfp b hb) hC)
 ·exact (hf b hb).2.2.2.2.1 y c (B.sub ok h) e
 ·rcases (hf b hb).2.2.2.1 with q | q
  ·exact ok.noex b o e q
  ·exact absurd (Nat.lt_of_lt_of_le (Heap.lt_size (ok.bs b o e).1) q) (Nat.lt_irrefl _)
 ·rcases List.mem_cons.mp (I.stkSub b hs) with q | q
  ·exact (hf b hb).2.1 q
  ·exact (hf b hb).2.2.1 q
 ·obtain ⟨m, hm⟩ := hns
  refine ⟨m, hm, fun i y v e1 e2 e3 => ?_⟩
  cases i with
  | zero => simp at e2
  | succ i =>
   obtain ⟨j, n1, n2, n3, n4⟩ := capOk_get (i := i) B.cap (by simpa [Cx.blk] using e1) (by simpa using e2)
   obtain ⟨m0, hn0, hl0⟩ := I.loc
   have vis : Vis X.env.scope y := by
    rcases n4 with q | q
    ·exact .inr (.inl q)
    ·exact .inr (.inr q)
   obtain ⟨u, ru, l⟩ := hl0 j y v n1 n2 vis
   refine ⟨u, ru, .inr ⟨relabel_free n3, ?_⟩⟩
   rcases l with ⟨k, _⟩ | ⟨_, c, ec, z⟩
   ·rw [k] at n4
    rcases n4 with q | q <;> cases q
   ·obtain ⟨c', ec'⟩ := clOf_mem (cells := X.env.cells) (cs := []) (.inl (lookup_mem_names n3))
    have := B.sub ok ec'
    rw [ec] at this; cases this
    obtain ⟨o, ho, hd⟩ := z
    exact ⟨c, ec', o, hk c o ho, hd⟩
 ·obtain ⟨v, o, ho, hd⟩ := I.cell y c (B.sub ok h)
  exact ⟨v, o, hk c o ho, hd⟩
 ·show upd H₂ D _ C = none
  rw [upd_ne (Ne.symm hDC)]; exact freshC
 ·obtain ⟨v, o, ho, hd⟩ := I.cell y c (B.sub ok h)
  rw [upd_ne (Nat.ne_of_lt (Nat.lt_of_lt_of_le (lt c o ho) hD))]
  refine (I.freeC y c (B.sub ok h)).imp id fun ⟨_, o', ho', hno⟩ => ⟨rfl, o', ho', fun z i v e1 k e2 => ?_⟩
  cases i with
  | zero => simp at e2
  | succ i =>
   obtain ⟨j, n1, n2, n3, n4⟩ := capOk_get (i := i) B.cap (by simpa [Cx.blk] using e1) (by simpa using e2)
   exact hno z j v n1 n4 n2
 ·exact absurd (show p ∈ ([] : List (Addr × Obj)) from hp) (by simp)
 ·exact I.hok.laid hk hD ⟨Nat.zero_le _, [], 0, .nil, hl⟩
 ·simp [Cx.blk, capV, capOk_len B.cap]
theorem BlkOk.back {pins : List (Addr × Obj)} {σ : St} {H₂ H' : Hp} {s₂ s' : Shared} {fp : List Addr} {C : Addr} {pl : List (Addr × Obj)} {σ' : St} (B : BlkOk X scope x cap ys) (I : Inv X pins σ H₂ s₂)
  (hf : ∀ b ∈ fp, FpOk X pins H₂ b) (J : Inv (X.blk scope C (x :: ys) s₂ H₂ fp) pl σ' H' s') : Inv X pins σ H' s' :=
 I.call' (ch := fp) J.os J.base J.hok J.bare fun b hb => by
  obtain ⟨f0, f1, f2, f3, f4, f5⟩ := hf b hb
  refine ⟨?_, f1, f4, f5⟩
  rcases f3 with q | q
  ·exact .inl q
  ·exact .inr q
theorem BlkOk.far {pins : List (Addr × Obj)} {σ : St} {H₂ H' : Hp} {s₂ s' : Shared} {fp : List Addr} {C : Addr} {pl : List (Addr × Obj)} {σ' : St} (I : Inv X pins σ H₂ s₂)
  (hC : s₂.heap.objs.size ≤ C) (J : Inv (X.blk scope C (x :: ys) s₂ H₂ fp) pl σ' H' s') :
  H' C = none ∧ C ≠ X.env.locals ∧ X.s₀.heap.objs.size ≤ C ∧ (∀ z c, X.env.cells.lookup z = some c → c ≠ C) ∧ ∀ p ∈ X.pn ++ pins, p.1 ≠ C := by
 refine ⟨J.free, Nat.ne_of_gt (Nat.lt_of_lt_of_le I.lt hC), Nat.le_trans I.sz hC, fun z c e q => ?_, fun p hp q => ?_⟩
 ·obtain ⟨v, w⟩ := I.cell z c e
  exact absurd (Nat.lt_of_lt_of_le w.lt (by rw [q]; exact hC)) (Nat.lt_irrefl _)
 ·exact absurd (Nat.lt_of_lt_of_le (Heap.lt_size (I.pin p hp).1) (by rw [q]; exact hC)) (Nat.lt_irrefl _)
end
theorem comp_turns {prog : Program} {w : World} {A : Around} {R : Result → Shared → Prop} {s : Shared} {elt tg iter : Expr} {ifs : List Expr} {scope : Scope} {pos : Pos} {it acc : Value} {env : Env} (J : Nat → Shared → Prop)
  (go : ∀ n s, J n s → wpAny (model prog w) A (pyNext it) (fun r s1 => match r with
   | none => R (.ok .next) s1
   | some v => wpAny (model prog w) A (letOwnedTupleGo tg it v) (fun _ s2 => wpAny (model prog w) A (assign tg env v) (fun _ s3 =>
     wpAny (model prog w) A (forIn ifs true fun c r => if r = true then do let ok ← isTrue c env (eval c env); pure (ForInStep.yield ok) else pure (ForInStep.yield r)) (fun ok s4 =>
      if ok = true then wpAny (model prog w) A (eval elt env) (fun y s5 => wpAny (model prog w) A (call (.builtin "list.append") [acc, y]) (fun _ s6 => ∃ m, m < n ∧ J m s6) (fun _ _ => False) s5) (fun _ _ => False) s4
      else ∃ m, m < n ∧ J m s4) (fun _ _ => False) s3) (fun _ _ => False) s2) (fun _ _ => False) s1) (fun _ _ => False) s)
  (n : Nat) (h : J n s) : codeAny (model prog w) A (.compLoop (.ListComp elt [⟨tg, iter, ifs, 0⟩] scope pos) 0 it acc env) R s := by
 refine codeAny_loop rfl J (fun n s hJ => ?_) n h
 show wpAny _ A ((compTurn (.ListComp elt [⟨tg, iter, ifs, 0⟩] scope pos) 0 it acc env).onRaise (fun x => do noteFrame x env; theTreesLotGoes x)) _ _ s
 refine wpAny_noted ?_
 rw [compTurn_list]
 refine wpAny_bind (wpAny_standAt (wpAny_bind (wpAny_mono (go n s hJ) (fun r s1 h1 => ?_) fun _ _ z => z.elim)))
 cases r with
 | none => exact wpAny_pure h1
 | some v =>
  refine wpAny_bind (wpAny_mono h1 (fun _ s2 h2 => wpAny_bind (wpAny_mono h2 (fun _ s3 h3 => wpAny_bind (wpAny_mono h3 (fun ok s4 h4 => ?_) fun _ _ z => z.elim)) fun _ _ z => z.elim)) fun _ _ z => z.elim)
  cases ok with
  | false => exact wpAny_pure ⟨rfl, h4⟩
  | true =>
   exact wpAny_bind (wpAny_bind (wpAny_mono h4 (fun y s5 h5 => wpAny_bind (wpAny_mono h5 (fun _ s6 h6 => wpAny_pure (wpAny_pure ⟨rfl, h6⟩)) fun _ _ z => z.elim)) fun _ _ z => z.elim))
def CTs (Xc : Cx) (ifs : List Expr) (t : TT) : Prop :=
 ∀ (pins : List (Addr × Obj)) (s : Shared) (σ : St) (H : Hp) (Q : Bool → Hp → Prop), Inv Xc pins σ H s → t σ H Q →
  wpAny (model Xc.prog Xc.w) Xc.A (forIn ifs true fun c r => if r = true then do let ok ← isTrue c Xc.env (eval c Xc.env); pure (ForInStep.yield ok) else pure (ForInStep.yield r)) (TP Xc pins σ Q) Xc.xe s
def tAll : TT := fun _ H Q => Q true H
theorem cts_nil {Xc : Cx} : CTs Xc [] tAll := fun _ _ _ H _ I q => wpAny_tests_nil ⟨H, I, q⟩
theorem cts_one {Xc : Cx} {c : Expr} {t : TT} (h : PT Xc c t) : CTs Xc [c] t := fun pins s σ H Q I q => wpAny_tests_one (h pins s σ H Q I q)
abbrev CW := Nat → Nat → List V → Hp → Prop
@[irreducible] def CompAt (J : It) (caps : St) (tt : TT) (te : TE) (Q : VK) (H2 : Hp) : Prop := ∀ D, H2 D = none → ∃ W : CW, (∃ m, W 0 m [] (upd H2 D (.lst []))) ∧
 ∀ i m acc H3, W i m acc H3 → H3 D = some (.lst acc) ∧ ((J.stop i H3 ∧ Q (.ref D) H3) ∨ (J.go i H3 ∧ acc.length < sizeLine ∧ ∀ v H4, J.yld i H3 v H4 → tt (some v :: caps) H4 fun b H5 =>
  (b = true → te (some v :: caps) H5 fun u H6 => H6 D = some (.lst acc) ∧ ∃ m', m' < m ∧ W (i + 1) m' (acc ++ [u]) (upd H6 D (.lst (acc ++ [u])))) ∧ (b = false → ∃ m', m' < m ∧ W (i + 1) m' acc H5)))
def tComp (cap : List Nat) (wi : TI) (tt : TT) (te : TE) : TE := fun σ H Q => wi σ H fun J H2 => CompAt J (capV σ cap) tt te Q H2
section
variable {X : Cx} {scope : Scope} {x : Str} {cap : List Nat} {ys : List Str} {elt iter : Expr} {ifs : List Expr} {px pos : Pos} {wi : TI} {tt : TT} {te : TE}
theorem comp_block (B : BlkOk X scope x cap ys) (hc : X.calm = true) (he : ∀ C s H fp, PE (X.blk scope C (x :: ys) s H fp) elt te) (ht : ∀ C s H fp, CTs (X.blk scope C (x :: ys) s H fp) ifs tt)
  {pins : List (Addr × Obj)} {σ : St} {s₂ : Shared} {Q : VK} {RR : Value → Addr → Result → Shared → Prop} {itv : Value} {E : Value → Shared → Prop}
  (hp : PIE X pins σ (.Name x px) (fun J H2 => CompAt J (capV σ cap) tt te Q H2) itv s₂)
  (hR : ∀ (D C : Addr) (H' : Hp) (s' : Shared), Inv X pins σ H' s' → (∃ m, s'.heap.Ns C m) → H' C = none → C ≠ X.env.locals → X.s₀.heap.objs.size ≤ C → (∀ z c, X.env.cells.lookup z = some c → c ≠ C) → (∀ p ∈ X.pn ++ pins, p.1 ≠ C) → Q (.ref D) H' → RR (.ref D) C (.ok .next) s') :
  wpAny (model X.prog X.w) X.A (newList []) (fun acc s₃ => wpAny (model X.prog X.w) X.A (newFunctionEnv scope X.env.globals (clOf X.env.cells scope.names []) [] X.env.qual none .none (some X.env)) (fun cenv s₄ =>
   codeAny (model X.prog X.w) X.A (.compStart (.ListComp elt [⟨.Name x px, iter, ifs, 0⟩] scope pos) 0 itv acc { cenv with scope := relabel scope X.env }) (RR acc cenv.locals) s₄) E s₃) E s₂ := by
 obtain ⟨it, fp, tn, J, H2, e, I2, T, st2, f2, hw⟩ := hp
 subst e
 unfold CompAt at hw
 refine wpAny_newObj_type (wpAny_newFunctionEnv B.nocell (by intro y hy; simp at hy) (fun h₁ hns₁ hsb₁ => ?_) B.kind)
 dsimp only at hns₁ hsb₁ ⊢
 generalize hG : s₂.heap.push { cls := .type "list", dict := none, data := .seq ([] : List Value).toArray } = G at hns₁ hsb₁ ⊢
 have hsz : G.objs.size = s₂.heap.objs.size + 1 := by rw [← hG, Heap.size_push]
 have hCle : s₂.heap.objs.size ≤ G.objs.size := by omega
 have hDC : s₂.heap.objs.size ≠ G.objs.size := by omega
 have old : ∀ b o, s₂.heap.get? b = some o → h₁.get? b = some o := fun b o q => by
  have lt := Heap.lt_size q
  refine hsb₁.extBut b o (Nat.ne_of_lt (Nat.lt_of_lt_of_le lt hCle)) (Heap.get?_push_of_some _ ?_)
  rw [← hG]; exact Heap.get?_push_of_some _ q
 have accAt : h₁.get? s₂.heap.objs.size = some { cls := .type "list", data := .seq ([] : List Value).toArray } := by
  refine hsb₁.extBut _ _ hDC (Heap.get?_push_of_some _ ?_)
  rw [← hG]; exact Heap.get?_push_size _ rfl
 have hfp : ∀ b ∈ fp, b < s₂.heap.objs.size := fun b hb => by
  obtain ⟨o, ho, _⟩ := T.obj _ _ st2 b hb
  exact Heap.lt_size ho
 obtain ⟨W, ⟨m0, w0⟩, turn⟩ := hw s₂.heap.objs.size (I2.hok.fresh (Nat.le_refl _))
 generalize htk : s₂.toks + ([] : List (Str × Value)).length = tk
 have I0 := B.start (tk := tk) (C := G.objs.size) I2 f2 (Nat.le_refl _) hCle hDC old ⟨_, hns₁⟩ accAt hfp
 have st0 : tn 0 h₁ := T.keep _ _ _ st2 fun b hb o q => old b o q
 -- what stays true of the iterator's objects
 have f3 : ∀ {H' : Hp}, (∀ b ∈ fp, H' b = none) → ∀ b ∈ fp, FpOk (X.blk scope G.objs.size (x :: ys) s₂ H2 fp) [] H' b := fun hn b hb => by
  obtain ⟨f0, f1, f2', f3', f4, f5⟩ := f2 b hb
  refine ⟨hn b hb, Nat.ne_of_lt (Nat.lt_of_lt_of_le (hfp b hb) hCle), fun hs => ?_, .inl hb, fun z c q => f4 z c (B.sub I2.ok q), fun p hp => absurd (show p ∈ ([] : List (Addr × Obj)) from hp) (by simp)⟩
  rcases List.mem_cons.mp (I2.stkSub b hs) with q | q
  ·exact f1 q
  ·exact f2' q
 have n0 : ∀ b ∈ fp, upd H2 s₂.heap.objs.size (.lst []) b = none := fun b hb => by
  rw [upd_ne (Nat.ne_of_lt (hfp b hb))]; exact (f2 b hb).1
 have loop : ∀ sx : Shared, sx = { s₂ with heap := h₁, toks := tk } →
   codeAny (model X.prog X.w) X.A (.compLoop (.ListComp elt [⟨.Name x px, iter, ifs, 0⟩] scope pos) 0 (.ref it) (.ref s₂.heap.objs.size) (compEnvC scope (clOf X.env.cells scope.names []) G.objs.size X.env)) (RR (.ref s₂.heap.objs.size) G.objs.size) sx := by
  rintro sx rfl
  refine comp_turns (fun n s' => ∃ i acc H', Inv (X.blk scope G.objs.size (x :: ys) s₂ H2 fp) [] (none :: capV σ cap) H' s' ∧ tn i s'.heap ∧ (∀ b ∈ fp, H' b = none) ∧ W i n acc H') ?_ m0 ⟨0, [], _, I0, st0, n0, w0⟩
  rintro n s3 ⟨i, acc, H3, I3, st3, fr3, w3⟩
  obtain ⟨hD3, alt⟩ := turn i n acc H3 w3
  rcases alt with ⟨stop, q⟩ | ⟨go, hlen, step⟩
  ·refine wpAny_mono (T.done (X.blk scope G.objs.size (x :: ys) s₂ H2 fp) rfl rfl rfl hc i [] s3 _ H3 (fun _ _ => False) I3 (f3 fr3) st3 stop) (fun r s4 ⟨hr, I4⟩ => ?_) fun _ _ z => z.elim
   subst hr
   obtain ⟨g1, g2, g3, g4, g5⟩ := BlkOk.far I2 hCle I4
   obtain ⟨m4, hm4, _⟩ := I4.loc
   exact hR _ _ H3 s4 (B.back I2 f2 I4) ⟨m4, hm4⟩ g1 g2 g3 g4 g5 q
  ·refine wpAny_mono (T.item (X.blk scope G.objs.size (x :: ys) s₂ H2 fp) rfl rfl rfl hc i [] s3 _ H3 (fun _ _ => False) I3 (f3 fr3) st3 go) (fun r s4 ⟨u, hr, h4⟩ => ?_) fun _ _ z => z.elim
   subst hr
   refine wpAny_mono h4 (fun _ s4 ⟨v, H4, I4, rv, y4, st4, fr4⟩ => ?_) fun _ _ z => z.elim
   have I4' := I4.pinned (f3 fr4) (T.obj _ _ st4)
   refine wpAny_assign_Name (store_ok (X := X.blk scope G.objs.size (x :: ys) s₂ H2 fp) (i := 0) I4' B.nd rfl (.inl (lookup_relabel_local B.lx)) rv (fun s5 I5 => ?_) (.inr (lookup_relabel_local B.lx)))
   have I5' : Inv (X.blk scope G.objs.size (x :: ys) s₂ H2 fp) ([] ++ pinsAt fp s4.heap) (some v :: capV σ cap) H4 s5 := I5
   refine wpAny_mono (ht _ _ _ _ _ s5 _ H4 _ I5' (step v H4 y4)) (fun ok s6 ⟨H6, I6, q6⟩ => ?_) fun _ _ z => z.elim
   have pinned : ∀ {σ7 : St} {H7 : Hp} {s7 : Shared}, Inv (X.blk scope G.objs.size (x :: ys) s₂ H2 fp) ([] ++ pinsAt fp s4.heap) σ7 H7 s7 → tn (i + 1) s7.heap ∧ ∀ b ∈ fp, H7 b = none := fun {σ7 H7 s7} I7 => by
    refine ⟨T.keep _ _ _ st4 fun b hb o e => (I7.pin (b, o) (List.mem_append_right _ (List.mem_append_right _ (mem_pinsAt hb e)))).1, fun b hb => ?_⟩
    obtain ⟨o, e, d⟩ := T.obj _ _ st4 b hb
    exact (I7.pin (b, o) (List.mem_append_right _ (List.mem_append_right _ (mem_pinsAt hb e)))).2.1
   have weak : ∀ {H7 : Hp} {s7 : Shared}, Inv (X.blk scope G.objs.size (x :: ys) s₂ H2 fp) ([] ++ pinsAt fp s4.heap) (some v :: capV σ cap) H7 s7 → Inv (X.blk scope G.objs.size (x :: ys) s₂ H2 fp) [] (none :: capV σ cap) H7 s7 := fun I7 =>
    (I7.unpinned (pins := [])).weak rfl fun j z e => by
     cases j with
     | zero => simp at e
     | succ j => simpa using e
   cases ok with
   | false =>
    rw [if_neg Bool.false_ne_true]
    obtain ⟨m', hm', w'⟩ := q6.2 rfl
    exact ⟨m', hm', i + 1, acc, H6, weak I6, (pinned I6).1, (pinned I6).2, w'⟩
   | true =>
    rw [if_pos rfl]
    refine wpAny_mono (he _ _ _ _ _ s6 _ H6 _ I6 (q6.1 rfl)) (fun y s7 ⟨z, H7, I7, rz, hD7, m', hm', w'⟩ => ?_) fun _ _ z => z.elim
    refine wpAny_mono (mt_append (X := X.blk scope G.objs.size (x :: ys) s₂ H2 fp) _ s7 _ H7 (.ref s₂.heap.objs.size) [z] (.ref s₂.heap.objs.size) [y] (fun _ H8 => H8 = upd H7 s₂.heap.objs.size (.lst (acc ++ [z]))) I7 rfl (.cons rz .nil) ⟨_, acc, z, rfl, rfl, hD7, hlen, rfl⟩) (fun _ s8 ⟨_, H8, I8, _, e8⟩ => ?_) fun _ _ z => z.elim
    subst e8
    exact ⟨m', hm', i + 1, _, _, weak I8, (pinned I8).1, (pinned I8).2, w'⟩
 exact codeAny_compStart_list (loop _ rfl) (T.self _ 0 _ _ _ st0 (loop _ rfl))
theorem pe_comp (B : BlkOk X scope x cap ys) (hc : X.calm = true) (hi : PI X (.Name x px) iter wi) (he : ∀ C s H fp, PE (X.blk scope C (x :: ys) s H fp) elt te) (ht : ∀ C s H fp, CTs (X.blk scope C (x :: ys) s H fp) ifs tt)
  (hs : ∀ x, foldedSetIterable iter X.env x = pure x := by intro _; rfl) : PE X (.ListComp elt [⟨.Name x px, iter, ifs, 0⟩] scope pos) (tComp cap wi tt te) := by
 intro pins s σ H Q I h
 rw [eval_ListComp]
 refine wpAny_comprehension_free (use := none) rfl hs (closure_is (B.clos I.ok)) B.kind B.locs ?_
 refine thn (hi pins s σ H _ I h) fun v s1 h1 => thn h1 fun itv s2 h2 => ?_
 refine comp_block (Q := Q) (RR := fun acc C => compPost (model X.prog X.w) X.A X.xe none (EP X pins σ Q) acc C) B hc he ht h2 ?_
 rintro D C H' s' J ⟨m, hm⟩ g1 g2 g3 g4 g5 q
 exact ⟨m, hm, fun h' sb => ⟨.ref D, H', J.turned (t' := s'.toks) (fun b o hb e => (sb.2 b hb).trans e) g1 g2 (.inr g3) g4 g5, rfl, q⟩⟩
theorem ps_setComp {i : Nat} {y : Str} {pos' spos : Pos} (B : BlkOk X scope x cap ys) (hc : X.calm = true) (hN : X.N.Nodup) (hi : X.N[i]? = some y) (hy : X.env.scope.names.lookup y = some .local) (hit : PI X (.Name x px) iter wi)
  (he : ∀ C s H fp, PE (X.blk scope C (x :: ys) s H fp) elt te) (ht : ∀ C s H fp, CTs (X.blk scope C (x :: ys) s H fp) ifs tt)
  (hsw : swapsWith (.ListComp elt [⟨.Name x px, iter, ifs, 0⟩] scope pos) (some (.Name y pos')) spos.line X.env = pure true := by rfl)
  (hs : ∀ x, foldedSetIterable iter X.env x = pure x := by intro _; rfl) :
  PS X (.Assign [.Name y pos'] (.ListComp elt [⟨.Name x px, iter, ifs, 0⟩] scope pos) spos) (tAsg (tComp cap wi tt te) (gName i)) := by
 intro pins s σ H D I h
 rw [exec_Assign_Name_used _ _ _ _ hsw]
 refine wpAny_bind (wpAny_standAt (wpAny_bind ?_))
 show wpAny _ X.A (do let _ ← comprehension (.ListComp elt [⟨.Name x px, iter, ifs, 0⟩] scope pos) scope X.env _ (newList []) false (eval iter X.env) (some (assign (.Name y pos') X.env))) _ _ s
 refine wpAny_bind (wpAny_mono (wpAny_comprehension_free (use := some (assign (.Name y pos') X.env)) (Q := fun _ s' => SP X pins D .next s') rfl hs (closure_is (B.clos I.ok)) B.kind B.locs
  (thn (hit pins s σ H _ I h) fun v s1 h1 => thn h1 fun itv s2 h2 => ?_)) (fun _ s' hq => wpAny_pure (wpAny_pure hq)) fun _ _ e => e)
 refine comp_block (Q := fun v H1 => gName i v σ H1 D.nx) (RR := fun acc C => compPost (model X.prog X.w) X.A X.xe (some (assign (.Name y pos') X.env)) (fun _ s' => SP X pins D .next s') acc C) B hc he ht h2 ?_
 rintro Da C H' s' J ⟨m, hm⟩ g1 g2 g3 g4 g5 q
 show wpAny _ X.A (assign (.Name y pos') X.env (.ref Da)) _ _ s'
 refine (wpAny_assign_Name (store_ok2 (v := .ref Da) J hN hi (.inl hy) rfl (fun s4 J4 ⟨a, sb, ha⟩ => ?_) (.inr hy)))
 have hCa : C ≠ a := by
  rcases ha with z | z
  ·rw [z]; exact g2
  ·exact fun w => g4 y a z w.symm
 refine ⟨m, hm.sameBut sb hCa, fun h' sb' => ?_⟩
 exact ⟨_, H', J4.turned (t' := s4.toks) (fun b o hb e => (sb'.2 b hb).trans e) g1 g2 (.inr g3) g4 g5, q⟩
end
end L2
namespace L2
open PySem PySem.Spec PyProof.Rows
def Its (lo st : Int) (n : Nat) : It := ⟨fun i _ => i < n, fun i H x H' => H' = H ∧ x = .int (lo + i * st), fun i _ => n ≤ i⟩
theorem turn_steps {P : Program} {w : World} {K : W.Frag} {tg : Expr} (it : Addr) (lo st : Int) (n : Nat) : Turn P w K tg (Its lo st n) [it] it (fun i h => IsRangeIter h it (lo + (i : Nat) * st) ((n : Int) - (i : Nat)) st) where
 mem := by simp
 obj := fun i h q b hb => by
  have e : b = it := by simpa using hb
  subst e
  exact ⟨_, q, fun v z => by
   have z' : Data.fields _ = Data.cell v := z
   cases z'⟩
 keep := fun i h h' q k => k it (by simp) _ q
 item := by
  intro X hP hw hK hc i pins s σ H E I hf q hg
  subst hP hw hK
  obtain ⟨f0, f1, f2, f3, f4, f5⟩ := hf it (by simp)
  refine (Walks.range (prog := X.prog) (w := X.w) (I.ok.hd hc) it lo st n).item i s _ _ hg q fun v h' tk hv q' kk => ?_
  obtain ⟨t, rfl⟩ := hv
  have I1 : Inv X pins σ H { s with heap := h', toks := tk } := I.turned (fun b o hb e => kk b o (by simpa using hb) e) f0 f1 f3 f4 f5
  exact ⟨_, rfl, go_of (s := { s with heap := h', toks := tk }) (n := "range_iterator") q' rfl rfl (by decide) ⟨.int (lo + i * st), H, I1, ⟨t, rfl⟩, ⟨rfl, rfl⟩, q', fun b hb => (hf b hb).1⟩⟩
 done := by
  intro X hP hw hK hc i pins s σ H E I hf q hg
  subst hP hw hK
  obtain ⟨f0, f1, f2, f3, f4, f5⟩ := hf it (by simp)
  exact wpAny_pyNext_range_end (I.ok.hd hc) q (by have : n ≤ i := hg; omega) fun h' eb => ⟨rfl, I.turned (t' := s.toks) (fun b o hb e => eb b o hb e) f0 f1 f3 f4 f5⟩
 self := fun _ _ _ _ _ q h => wpAny_pyIter_rangeiter q h
theorem turn_long {P : Program} {w : World} {K : W.Frag} {tg : Expr} (it : Addr) (lo st : Int) (n : Nat) : Turn P w K tg (Its lo st n) [it] it (fun i h => IsLongIter h it (lo + (i : Nat) * st) ((n : Int) - (i : Nat)) st) where
 mem := by simp
 obj := fun i h q b hb => by
  have e : b = it := by simpa using hb
  subst e
  exact ⟨_, q, fun v z => by
   have z' : Data.fields _ = Data.cell v := z
   cases z'⟩
 keep := fun i h h' q k => k it (by simp) _ q
 item := by
  intro X hP hw hK hc i pins s σ H E I hf q hg
  subst hP hw hK
  obtain ⟨f0, f1, f2, f3, f4, f5⟩ := hf it (by simp)
  refine (Walks.longrange (prog := X.prog) (w := X.w) (I.ok.hd hc) it lo st n).item i s _ _ hg q fun v h' tk hv q' kk => ?_
  obtain ⟨t, rfl⟩ := hv
  have I1 : Inv X pins σ H { s with heap := h', toks := tk } := I.turned (fun b o hb e => kk b o (by simpa using hb) e) f0 f1 f3 f4 f5
  exact ⟨_, rfl, go_of (s := { s with heap := h', toks := tk }) (n := "longrange_iterator") q' rfl rfl (by decide) ⟨.int (lo + i * st), H, I1, ⟨t, rfl⟩, ⟨rfl, rfl⟩, q', fun b hb => (hf b hb).1⟩⟩
 done := by
  intro X hP hw hK hc i pins s σ H E I hf q hg
  subst hP hw hK
  obtain ⟨f0, f1, f2, f3, f4, f5⟩ := hf it (by simp)
  exact wpAny_pyNext_long_end (I.ok.hd hc) q (by have : n ≤ i := hg; omega) fun h' eb => ⟨rfl, I.turned (t' := s.toks) (fun b o hb e => eb b o hb e) f0 f1 f3 f4 f5⟩
 self := fun _ _ _ _ _ q h => wpAny_pyIter_longiter q h
def rngN (a b c : Int) : Nat := (Builtin.Range.rangeSize a b c).toNat
theorem rangeSize_nn (a b c : Int) : 0 ≤ Builtin.Range.rangeSize a b c := by
 unfold Builtin.Range.rangeSize
 split
 ·split
  ·have := Int.ediv_nonneg (a := b - a - 1) (b := c) (by omega) (by omega); omega
  ·omega
 ·split
  ·have := Int.ediv_nonneg (a := a - b - 1) (b := -c) (by omega) (by omega); omega
  ·omega
theorem rngN_cast (a b c : Int) : ((rngN a b c : Nat) : Int) = Builtin.Range.rangeSize a b c := Int.toNat_of_nonneg (rangeSize_nn a b c)
theorem rngN_one (a b : Int) : rngN a b 1 = (b - a).toNat := by
 unfold rngN Builtin.Range.rangeSize
 simp only [show (1 : Int) > 0 by decide, if_true]
 split <;> simp <;> omega
section
variable {X : Cx} {tg : Expr}
theorem rng_it {pins : List (Addr × Obj)} {σ : St} {H : Hp} {s : Shared} {R : It → Hp → Prop} {E : Value → Shared → Prop} {a b c : Int} {t u v : Tok} {r : Addr} (I : Inv X pins σ H s) (hr : IsRange s.heap r a b c t u v)
  (q : R (Its a c (rngN a b c)) H) : wpAny (model X.prog X.w) X.A (pyIter (.ref r)) (PIE X pins σ tg R) E s := by
 have e2 : Builtin.Range.rangeSize a b c = ((rngN a b c : Nat) : Int) - ((0 : Nat) : Int) := by rw [rngN_cast]; simp
 have e1 : a = a + ((0 : Nat) : Int) * c := by simp
 have fp : ∀ b' ∈ [s.heap.objs.size], FpOk X pins H b' := fun b' hb => by
  have e : b' = s.heap.objs.size := by simpa using hb
  subst e
  exact I.fpOk (Nat.le_refl _) (I.hok.fresh (Nat.le_refl _))
 cases hsm : Builtin.Range.small a b c with
 | true =>
  refine wpAny_pyIter_range hr hsm ⟨s.heap.objs.size, [s.heap.objs.size], _, _, H, rfl, I.kept (t' := s.toks) fun b o e => Heap.get?_push_of_some _ e, turn_steps _ a c (rngN a b c), ?_, fp, q⟩
  show IsRangeIter _ _ (a + ((0 : Nat) : Int) * c) (((rngN a b c : Nat) : Int) - ((0 : Nat) : Int)) c
  rw [← e1, ← e2]
  exact Heap.get?_push_size _ rfl
 | false =>
  refine wpAny_pyIter_longrange hr hsm ⟨s.heap.objs.size, [s.heap.objs.size], _, _, H, rfl, I.kept (t' := s.toks) fun b o e => Heap.get?_push_of_some _ e, turn_long _ a c (rngN a b c), ?_, fp, q⟩
  show IsLongIter _ _ (a + ((0 : Nat) : Int) * c) (((rngN a b c : Nat) : Int) - ((0 : Nat) : Int)) c
  rw [← e1, ← e2]
  exact Heap.get?_push_size _ rfl
def argI (k : Int → Hp → Prop) : List V → Hp → Prop := fun vs H => match vs with
 | [.int j] => k j H
 | _ => False
def argI2 (k : Int → Int → Hp → Prop) : List V → Hp → Prop := fun vs H => match vs with
 | [.int i, .int j] => k i j H
 | _ => False
def argI3 (k : Int → Int → Int → Hp → Prop) : List V → Hp → Prop := fun vs H => match vs with
 | [.int i, .int j, .int l] => k i j l H
 | _ => False
theorem argI_of {k : Int → Hp → Prop} {vs : List V} {H : Hp} (h : argI k vs H) : ∃ j, vs = [.int j] ∧ k j H := by
 unfold argI at h
 split at h
 ·exact ⟨_, rfl, h⟩
 ·exact h.elim
theorem argI2_of {k : Int → Int → Hp → Prop} {vs : List V} {H : Hp} (h : argI2 k vs H) : ∃ i j, vs = [.int i, .int j] ∧ k i j H := by
 unfold argI2 at h
 split at h
 ·exact ⟨_, _, rfl, h⟩
 ·exact h.elim
theorem argI3_of {k : Int → Int → Int → Hp → Prop} {vs : List V} {H : Hp} (h : argI3 k vs H) : ∃ i j l, vs = [.int i, .int j, .int l] ∧ k i j l H := by
 unfold argI3 at h
 split at h
 ·exact ⟨_, _, _, rfl, h⟩
 ·exact h.elim
theorem vals_i1 {us : List Value} {i : Int} (r : Vals [.int i] us) : ∃ t, us = [.int i t] := by
 obtain ⟨u, rfl, t, rfl⟩ := Vals.one r
 exact ⟨t, rfl⟩
theorem vals_i2 {us : List Value} {i j : Int} (r : Vals [.int i, .int j] us) : ∃ t t', us = [.int i t, .int j t'] := by
 obtain ⟨u, v, rfl, ⟨t, rfl⟩, ⟨t', rfl⟩⟩ := Vals.two r
 exact ⟨t, t', rfl⟩
theorem vals_i3 {us : List Value} {i j l : Int} (r : Vals [.int i, .int j, .int l] us) : ∃ t t' t'', us = [.int i t, .int j t', .int l t''] := by
 cases r with
 | cons r rr =>
  obtain ⟨t', t'', rfl⟩ := vals_i2 rr
  obtain ⟨t, rfl⟩ := r
  exact ⟨t, t', t'', rfl⟩
def StepOk (c : Int) : Prop := c ≠ 0 ∧ c.natAbs.log2 < 9000
def cRng1 (ta : TA) : TI := fun σ H R => ta σ H (argI fun j H1 => R (Its 0 1 (rngN 0 j 1)) H1)
def cRng2 (ta : TA) : TI := fun σ H R => ta σ H (argI2 fun i j H1 => R (Its i 1 (rngN i j 1)) H1)
def cRng3 (ta : TA) : TI := fun σ H R => ta σ H (argI3 fun i j c H1 => StepOk c ∧ R (Its i c (rngN i j c)) H1)
theorem ci_range1 {a : Expr} {ta : TA} {p pos : Pos} (hg : Gl X "range") (hm : X.mg "range" = none) (ha : PA X [a] ta) (hs : starEach [a] X.env = [(false, eval a X.env)] := by rfl) : PI X tg (.Call (.Name "range" p) [a] [] pos) (cRng1 ta) := by
 intro pins s σ H R I h
 refine Call_ (ld_blt I hg hm boot_range (PyProof.Rows.callWith_type1 (thn (ha pos pins s σ H _ I h) fun us s1 ⟨vs, H1, I1, r1, q1⟩ => ?_) hs rfl))
 obtain ⟨j, rfl, q⟩ := argI_of q1
 obtain ⟨t, rfl⟩ := vals_i1 r1
 refine call_range_1 (rng_it (I1.kept (t' := _) fun b o e => Heap.get?_push_of_some _ e) (IsRange.new ..) q)
theorem ci_range2 {a b : Expr} {ta : TA} {p pos : Pos} (hg : Gl X "range") (hm : X.mg "range" = none) (ha : PA X [a, b] ta) (hs : starEach [a, b] X.env = [(false, eval a X.env), (false, eval b X.env)] := by rfl) (hs2 : starEach [b] X.env = [(false, eval b X.env)] := by rfl) :
  PI X tg (.Call (.Name "range" p) [a, b] [] pos) (cRng2 ta) := by
 intro pins s σ H R I h
 refine Call_ (ld_blt I hg hm boot_range (PyProof.Rows.callWith_type1 (thn (ha pos pins s σ H _ I h) fun us s1 ⟨vs, H1, I1, r1, q1⟩ => ?_) (by rw [hs, hs2]) (by rw [hs2]; rfl)))
 obtain ⟨i, j, rfl, q⟩ := argI2_of q1
 obtain ⟨t, t', rfl⟩ := vals_i2 r1
 exact call_range_2 (rng_it (I1.kept (t' := _) fun b o e => Heap.get?_push_of_some _ e) (IsRange.new ..) q)
theorem ci_range3 {a b c : Expr} {ta : TA} {p pos : Pos} (hg : Gl X "range") (hm : X.mg "range" = none) (ha : PA X [a, b, c] ta) (hs : starEach [a, b, c] X.env = (false, eval a X.env) :: starEach [b, c] X.env := by rfl) (hpl : (backTo pos (starEach [b, c] X.env)).any (·.1) = false := by rfl) :
  PI X tg (.Call (.Name "range" p) [a, b, c] [] pos) (cRng3 ta) := by
 intro pins s σ H R I h
 refine Call_ (ld_blt I hg hm boot_range (PyProof.Rows.callWith_type1 (thn (ha pos pins s σ H _ I h) fun us s1 ⟨vs, H1, I1, r1, q1⟩ => ?_) hs hpl))
 obtain ⟨i, j, l, rfl, ⟨h0, hl⟩, q⟩ := argI3_of q1
 obtain ⟨t, t', t'', rfl⟩ := vals_i3 r1
 exact call_range_3 h0 (rng_it (I1.kept (t' := _) fun b o e => Heap.get?_push_of_some _ e) (IsRange.new ..) q) (.inl (PyProof.noPylong_of_log2 hl))
def cRngV (ta : TA) : TE := fun σ H Q => ta σ H (argI2 fun i j H1 => ∀ p, H1 p = none → Q (.ref p) (upd H1 p (.rng i j)))
theorem ce_range2 {a b : Expr} {ta : TA} {p pos : Pos} (hg : Gl X "range") (hm : X.mg "range" = none) (ha : PA X [a, b] ta) (hs : starEach [a, b] X.env = [(false, eval a X.env), (false, eval b X.env)] := by rfl) (hs2 : starEach [b] X.env = [(false, eval b X.env)] := by rfl) :
  PE X (.Call (.Name "range" p) [a, b] [] pos) (cRngV ta) := by
 intro pins s σ H Q I h
 refine Call_ (ld_blt I hg hm boot_range (PyProof.Rows.callWith_type1 (thn (ha pos pins s σ H _ I h) fun us s1 ⟨vs, H1, I1, r1, q1⟩ => ?_) (by rw [hs, hs2]) (by rw [hs2]; rfl)))
 obtain ⟨i, j, rfl, q⟩ := argI2_of q1
 obtain ⟨t, t', rfl⟩ := vals_i2 r1
 refine call_range_2 ⟨.ref s1.heap.objs.size, upd H1 s1.heap.objs.size (.rng i j), I1.laid (fun b o e => Heap.get?_push_of_some _ e) (Nat.le_refl _) ⟨_, _, _, Heap.get?_push_size _ rfl⟩, rfl, q _ (I1.hok.fresh (Nat.le_refl _))⟩
end
end L2
namespace PySem
open Sem (wp)
section
variable {prog : Program} {w : World} {A : Around} {E : Value → Shared → Prop} {s : Shared}
theorem lng_extend {R : Result → Shared → Prop} {r : Addr} {a b c : Int} {t u v : Tok} {k : Nat} (hnd : A.handled = none) (hr : IsRange s.heap r a b c t u v) (hbig : Builtin.Range.small a b c = false)
  (hk : Builtin.Range.rangeSize a b c = k) (hle : k ≤ 2 ^ 24) (D : Addr) (z : Value) (m₀ : Nat) (hD : s.heap.get? D = some { cls := .type "list", data := .seq #[] m₀ })
  (hR : ∀ g tk xs m, (∀ b o, b ≠ D → s.heap.get? b = some o → g.get? b = some o) → g.get? D = some { cls := .type "list", dict := none, data := .seq xs m, slots := #[] } →
   ItemsOf (fun i v => ∃ t, v = .int (a + i * c) t) xs k → R (.ok (.ret z)) { s with heap := g, toks := tk }) :
  wpAny (model prog w) A.in1 (Builtin.List.listExtendWith (.ref D) (.ref r) z)
   (fun fin s' => match fin with | .done f => R (.ok f) s' | .again d => d.quiet = true ∧ codeAny (model prog w) A d R s') (fun e s' => R (.error e) s') s := by
 have nDr : D ≠ r := fun e => by rw [e, hr] at hD; simp at hD
 have nDI : D ≠ s.heap.objs.size := Nat.ne_of_lt (Heap.lt_size hD)
 have nDf : D ∉ [s.heap.objs.size] := fun q => nDI (List.mem_singleton.mp q)
 have Wk := (Walks.longrange (prog := prog) (w := w) (A := A.in1) hnd s.heap.objs.size a c k).toS
 have fin : ∀ (g : Heap) (m₁ tk : Nat), IsLongIter g s.heap.objs.size (a + ((0 : Nat) : Int) * c) ((k : Int) - ((0 : Nat) : Int)) c → (∀ b o, b ≠ D → s.heap.get? b = some o → g.get? b = some o) →
   g.get? D = some { cls := .type "list", data := .seq #[] m₁ } → codeAny (model prog w) A (.builtin "list.extend.loop" ⟨[.ref D, .ref s.heap.objs.size, z], []⟩) R { s with heap := g, toks := tk } := by
  intro g m₁ tk q1 q2 q3
  refine codeAny_extend_loopS Wk (by rw [sizeLine_eq]; omega) D nDf z k 0 _ #[] m₁ rfl (Nat.zero_le _) q1 q3 (ItemsOf.nil _) fun s' xs m hm hD' hx => ?_
  rw [Moved.eq_with hm]
  refine hR s'.heap s'.toks xs m (fun b o hb e => hm.heap b o (fun hq => ?_) (q2 b o hb e)) hD' hx
  rcases List.mem_cons.mp hq with e' | hq
  ·exact hb e'
  ·exact absurd (Heap.lt_size e) (by rw [List.mem_singleton.mp hq]; exact Nat.lt_irrefl _)
 unfold Builtin.List.listExtendWith
 refine wpAny_bind (wpAny_typeOf (T := "range") ⟨_, hr, rfl⟩ ?_)
 have x1 : Builtin.List.listSameRef (.ref D) (.ref r) = false := by simp [Builtin.List.listSameRef, nDr]
 have x2 : (Value.type "range" == Value.type "list") = false := by decide
 have x3 : (Value.type "range" == Value.type "tuple") = false := by decide
 simp only [x1, x2, x3, Bool.or_false, Bool.false_eq_true, if_false]
 refine wpAny_bind (wpAny_pyIter_longrange hr hbig ?_)
 refine wpAny_bind (wpAny_holding (wpAny_hint_range (n := k) (Heap.get?_push_of_some _ hr) hk hle ?_))
 generalize hG : s.heap.push { cls := .type "longrange_iterator", data := .fields #[rawInt a, rawInt (Builtin.Range.rangeSize a b c), rawInt c] } = G
 have i1 : IsLongIter G s.heap.objs.size (a + ((0 : Nat) : Int) * c) ((k : Int) - ((0 : Nat) : Int)) c := by
  have q : G.get? s.heap.objs.size = some { cls := .type "longrange_iterator", data := .fields #[rawInt a, rawInt (Builtin.Range.rangeSize a b c), rawInt c] } := by rw [← hG]; exact Heap.get?_push_size _ rfl
  rw [hk] at q
  show G.get? _ = _
  rw [q]; simp
 have old : ∀ b o, s.heap.get? b = some o → G.get? b = some o := fun b o e => by rw [← hG]; exact Heap.get?_push_of_some _ e
 have d1 := old D _ hD
 refine wpAny_ite_split (fun _ => ?_) (fun _ => wpAny_pure ⟨plainId_quiet F.plain_extend_loop _, fin _ m₀ _ i1 (fun b o _ e => old b o e) d1⟩)
 refine wpAny_bind (wpAny_rule ?_)
 refine wpAny_bind ?_
 show wpAny _ _ (updateSeq D (·.push .none) >>= fun _ => updateSeq D (·.pop)) _ _ _
 refine wpAny_bind (wpAny_updateSeq d1 rfl ?_)
 have d2 := Heap.get?_update_self (Obj.mapSeq (·.push Value.none)) d1 rfl
 refine wpAny_updateSeq (hz := by seq_fits) d2 rfl ?_
 have d3 := Heap.get?_update_self (Obj.mapSeq (·.pop)) d2 rfl
 refine wpAny_pure ⟨plainId_quiet F.plain_extend_loop _, fin _ _ _ ?_ (fun b o hb e => ?_) d3⟩
 ·exact (Heap.get?_update_other _ _ nDI).trans ((Heap.get?_update_other _ _ nDI).trans i1)
 ·exact (Heap.get?_update_other _ _ (Ne.symm hb)).trans ((Heap.get?_update_other _ _ (Ne.symm hb)).trans (old b o e))
theorem any_extend {R : Result → Shared → Prop} {r : Addr} {a b c : Int} {t u v : Tok} {k : Nat} (hnd : A.handled = none) (hr : IsRange s.heap r a b c t u v)
  (hk : Builtin.Range.rangeSize a b c = k) (hle : k ≤ 2 ^ 24) (D : Addr) (z : Value) (m₀ : Nat) (hD : s.heap.get? D = some { cls := .type "list", data := .seq #[] m₀ })
  (hR : ∀ g tk xs m, (∀ b o, b ≠ D → s.heap.get? b = some o → g.get? b = some o) → g.get? D = some { cls := .type "list", dict := none, data := .seq xs m, slots := #[] } →
   ItemsOf (fun i v => ∃ t, v = .int (a + i * c) t) xs k → R (.ok (.ret z)) { s with heap := g, toks := tk }) :
  wpAny (model prog w) A.in1 (Builtin.List.listExtendWith (.ref D) (.ref r) z)
   (fun fin s' => match fin with | .done f => R (.ok f) s' | .again d => d.quiet = true ∧ codeAny (model prog w) A d R s') (fun e s' => R (.error e) s') s := by
 cases hs : Builtin.Range.small a b c with
 | true => exact wpAny_extend_range hnd hr hs hk hle D z m₀ hD hR
 | false => exact lng_extend hnd hr hs hk hle D z m₀ hD hR
theorem any_list_range {Q : Value → Shared → Prop} {r : Addr} {a b c : Int} {t u v : Tok} {k : Nat} (hnd : A.handled = none) (hr : IsRange s.heap r a b c t u v)
  (hk : Builtin.Range.rangeSize a b c = k) (hle : k ≤ 2 ^ 24)
  (hQ : ∀ g tk xs m, (∀ b o, s.heap.get? b = some o → g.get? b = some o) →
   g.get? s.heap.objs.size = some { cls := .type "list", dict := none, data := .seq xs m, slots := #[] } → ItemsOf (fun i v => ∃ t, v = .int (a + i * c) t) xs k → Q (.ref s.heap.objs.size) { s with heap := g, toks := tk }) :
  wpAny (model prog w) A (call (.type "list") [.ref r]) Q E s := by
 refine callType_codes (Q₁ := fun obj s₁ => obj = .ref s.heap.objs.size ∧ s₁ = { s with heap := s.heap.push { cls := .type "list", data := .seq #[] } }) F.called_list (F.typeCall_list_1 _) F.entry_list_init
  (code_list_new _ ⟨rfl, rfl⟩) fun obj s₁ q₁ => ?_
 obtain ⟨rfl, rfl⟩ := q₁
 generalize hG : s.heap.push { cls := .type "list", data := .seq #[] } = G
 have old : ∀ b o, s.heap.get? b = some o → G.get? b = some o := fun b o e => by rw [← hG]; exact Heap.get?_push_of_some _ e
 have hD : G.get? s.heap.objs.size = some { cls := .type "list", data := .seq #[] } := by rw [← hG]; exact Heap.get?_push_size _ rfl
 have nDr : s.heap.objs.size ≠ r := fun e => absurd (Heap.lt_size hr) (by rw [← e]; exact Nat.lt_irrefl _)
 refine ⟨⟨_, hD, rfl⟩, F.args_list_init_2 _ _, ?_⟩
 show wpAny _ _ (do let old ← Builtin.List.listItems (.ref s.heap.objs.size); Builtin.List.listUpdate (.ref s.heap.objs.size) (fun _ => #[]); letGo old.toList.reverse; Builtin.List.listExtendWith (.ref s.heap.objs.size) (.ref r) .none) _ _ _
 refine wpAny_bind ?_
 unfold Builtin.List.listItems
 refine wpAny_bind (wpAny_seqItems hD rfl (wpAny_pure ?_))
 show wpAny _ _ (updateSeq s.heap.objs.size (fun _ => #[]) >>= fun _ => letGo (#[] : Array Value).toList.reverse >>= fun _ => Builtin.List.listExtendWith (.ref s.heap.objs.size) (.ref r) .none) _ _ _
 refine wpAny_bind (wpAny_updateSeq hD rfl ?_)
 have d2 := Heap.get?_update_self (Obj.mapSeq (fun _ => (#[] : Array Value))) hD rfl
 have oth : ∀ b o, b ≠ s.heap.objs.size → G.get? b = some o → (G.update s.heap.objs.size (Obj.mapSeq (fun _ => (#[] : Array Value)))).get? b = some o :=
  fun b o hb e => (Heap.get?_update_other _ _ (Ne.symm hb)).trans e
 refine wpAny_bind (wpAny_letGo ?_)
 refine any_extend (A := A.in1) hnd (oth r _ (Ne.symm nDr) (old r _ hr)) hk hle s.heap.objs.size .none _ d2 fun g tk xs m q1 q2 q3 => ⟨rfl, ?_⟩
 exact hQ g tk xs m (fun b o e => q1 b o (Nat.ne_of_lt (Heap.lt_size e)) (oth b o (Nat.ne_of_lt (Heap.lt_size e)) (old b o e))) q2 q3
end
end PySem
namespace L2
open PySem PySem.Spec PyProof.Rows
def rngV (lo : Int) (n : Nat) : List V := (List.range n).map fun (i : Nat) => V.int (lo + (i : Int))
theorem rngV_length (lo : Int) (n : Nat) : (rngV lo n).length = n := by simp [rngV]
theorem vals_of_get : ∀ {xs : List V} {us : List Value}, xs.length = us.length → (∀ (j : Nat) (x : V) (u : Value), xs[j]? = some x → us[j]? = some u → RelV x u) → Vals xs us
 | [], [], _, _ => .nil
 | [], _ :: _, h, _ => by simp at h
 | _ :: _, [], h, _ => by simp at h
 | x :: xs, u :: us, h, k => .cons (k 0 x u rfl rfl) (vals_of_get (by simpa using h) fun j y v e1 e2 => k (j + 1) y v (by simpa using e1) (by simpa using e2))
theorem items_vals {lo : Int} {n : Nat} {xs : Array Value} (h : ItemsOf (fun i v => ∃ t, v = .int (lo + (i : Int) * 1) t) xs n) : Vals (rngV lo n) xs.toList := by
 obtain ⟨hl, hv⟩ := h
 refine vals_of_get (by rw [rngV_length]; simp [hl]) fun j x u e1 e2 => ?_
 obtain ⟨t, rfl⟩ := hv j u (by simpa using e2)
 unfold rngV at e1
 rw [List.getElem?_map] at e1
 cases q : (List.range n)[j]? with
 | none => rw [q] at e1; cases e1
 | some i =>
  rw [q] at e1
  have e3 : i = j := by
   obtain ⟨h1, h2⟩ := List.getElem?_eq_some_iff.mp q
   rw [List.getElem_range] at h2; exact h2.symm
  subst e3
  cases e1
  exact ⟨t, by rw [Int.mul_one]⟩
section
variable {X : Cx}
theorem call_list_rng (hc : X.calm = true) : CallR X (.type "list") (fun xs H Q => ∃ p lo hi, xs = [.ref p] ∧ H p = some (.rng lo hi) ∧ rngN lo hi 1 ≤ 2 ^ 24 ∧ ∀ l, H l = none → Q (.ref l) (upd H l (.lst (rngV lo (rngN lo hi 1))))) := by
 intro pins s σ H xs us Q I r h
 obtain ⟨p, lo, hi, rfl, hp, hz, q⟩ := h
 obtain ⟨u, rfl, ru⟩ := Vals.one r
 cases ru
 obtain ⟨t, u, v, hr⟩ := I.hok p _ hp
 refine any_list_range (I.ok.hd hc) hr (rngN_cast lo hi 1).symm hz fun g tk xs m k1 k2 k3 => ?_
 have fr : H s.heap.objs.size = none := I.hok.fresh (Nat.le_refl _)
 refine ⟨.ref s.heap.objs.size, upd H s.heap.objs.size (.lst (rngV lo (rngN lo hi 1))), I.laid (h' := g) (t' := tk) k1 (Nat.le_refl _) ⟨?_, xs.toList, m, items_vals k3, by simpa using k2⟩, rfl, q _ fr⟩
 rw [rngV_length, sizeLine_eq]
 omega
end
end L2
namespace L2
open PySem PySem.Spec PyProof.Rows
mutual
inductive Rp (K : W.Frag) (H : Hp) : V → PyData → Prop
 | non : Rp K H .non .none
 | bl (b : Bool) : Rp K H (.bl b) (.bool b)
 | int (i : Int) : Rp K H (.int i) (.int i)
 | str (x : Str) : Rp K H (.str x) (.str x)
 | lst {a : Addr} {xs : List V} {ds : List PyData} : SqL K H a xs → Rps K H xs ds → Rp K H (.ref a) (.list ds)
 | tup {a : Addr} {xs : List V} {ds : List PyData} : SqT K H a xs → Rps K H xs ds → Rp K H (.ref a) (.tuple ds)
inductive Rps (K : W.Frag) (H : Hp) : List V → List PyData → Prop
 | nil : Rps K H [] []
 | cons {x : V} {d : PyData} {xs : List V} {ds : List PyData} : Rp K H x d → Rps K H xs ds → Rps K H (x :: xs) (d :: ds)
end
theorem Same.seqT {K : W.Frag} {H H' : Hp} {a : Addr} {xs : List V} (e : Same H H') (h : SqT K H a xs) : SqT K H' a xs := by
 rcases h with (h | ⟨o, h⟩) | h
 ·exact .inl (.inl (e _ _ h))
 ·exact .inl (.inr ⟨o, e _ _ h⟩)
 ·exact .inr h
theorem Rps.ints {K : W.Frag} {H : Hp} : ∀ ns : List Int, Rps K H (ns.map V.int) (ns.map PyData.int)
 | [] => .nil
 | i :: r => .cons (.int i) (Rps.ints r)
theorem Rp.ints {K : W.Frag} {H : Hp} {a : Addr} {ns : List Int} (h : SqL K H a (ns.map V.int)) : Rp K H (.ref a) (.list (ns.map PyData.int)) := .lst h (.ints ns)
section
variable {X : Cx} {pins : List (Addr × Obj)} {σ : St} {H : Hp} {s : Shared}
mutual
theorem Rp.reads (I : Inv X pins σ H s) : ∀ {v : V} {d : PyData} {u : Value}, Rp X.K H v d → RelV v u → ∃ as, Reads s.heap u d as
 | _, _, u, .non, r => by cases (show u = Value.none from r); exact ⟨_, .none⟩
 | _, _, u, .bl b, r => by cases (show u = Value.bool b from r); exact ⟨_, .bool b⟩
 | _, _, u, .int i, r => by obtain ⟨t, e⟩ := (show ∃ t, u = Value.int i t from r); subst e; exact ⟨_, .int i t⟩
 | _, _, u, .str x, r => by obtain ⟨t, e⟩ := (show ∃ t, u = Value.str x t from r); subst e; exact ⟨_, .str x t⟩
 | _, _, u, .lst (a := a) q rr, r => by
  cases (show u = Value.ref a from r)
  obtain ⟨its, rv, p, hz⟩ := I.list q
  obtain ⟨as, ra⟩ := Rps.reads I rr rv
  obtain ⟨o, ho, hc, n, hd⟩ := p.isList
  exact ⟨_, .list ho hc hd (by simpa using ra)⟩
 | _, _, u, .tup (a := a) q rr, r => by
  cases (show u = Value.ref a from r)
  obtain ⟨its, rv, p, hz⟩ := I.tuple q
  obtain ⟨as, ra⟩ := Rps.reads I rr rv
  obtain ⟨o, ho, hc, n, hd⟩ := p
  exact ⟨_, .tuple ho hc hd (by simpa using ra)⟩
theorem Rps.reads (I : Inv X pins σ H s) : ∀ {v : List V} {d : List PyData} {u : List Value}, Rps X.K H v d → Vals v u → ∃ as, ReadsAll s.heap u d as
 | _, _, _, .nil, .nil => ⟨_, .nil⟩
 | _, _, _, .cons q rr, .cons r t => by
  obtain ⟨as, h1⟩ := Rp.reads I q r
  obtain ⟨bs, h2⟩ := Rps.reads I rr t
  exact ⟨_, .cons h1 h2⟩
end
end
def rDeq (K : W.Frag) (f : Bool → Bool) : R2 := fun x y H Q => ∃ da db, Rp K H x da ∧ Rp K H y db ∧ SeqAt.shaped da = true ∧ SeqAt.shaped db = true ∧ Q (.bl (f (PyData.eqv da db))) H
section
variable {X : Cx}
theorem o_deq (hu : X.A.units + 64 < cLine) : OpR X (compareOp .Eq) (rDeq X.K fun b => b) := by
 intro pins s σ H x y v u Q I rx ry q
 obtain ⟨da, db, hx, hy, sa, sb, q⟩ := q
 obtain ⟨as, ra⟩ := hx.reads I rx
 obtain ⟨bs, rb⟩ := hy.reads I ry
 exact eq_dataH ra rb sa sb hu ⟨.bl (PyData.eqv da db), H, I, rfl, q⟩
theorem o_dne (hu : X.A.units + 64 < cLine) : OpR X (compareOp .NotEq) (rDeq X.K fun b => !b) := by
 intro pins s σ H x y v u Q I rx ry q
 obtain ⟨da, db, hx, hy, sa, sb, q⟩ := q
 obtain ⟨as, ra⟩ := hx.reads I rx
 obtain ⟨bs, rb⟩ := hy.reads I ry
 exact ne_dataH ra rb sa sb hu ⟨.bl (!PyData.eqv da db), H, I, rfl, q⟩
def rLeq (K : W.Frag) (f : Bool → Bool) : R2 := fun x y H Q => ∃ (a b : Addr) (ns ms : List Int), x = .ref a ∧ y = .ref b ∧ SqL K H a (ns.map V.int) ∧ SqL K H b (ms.map V.int) ∧ Q (.bl (f (decide (ns = ms)))) H
theorem leq_imp {K : W.Frag} {f : Bool → Bool} {x y : V} {H : Hp} {Q : VK} (q : rLeq K f x y H Q) : rDeq K f x y H Q := by
 obtain ⟨a, b, ns, ms, rfl, rfl, ha, hb, q⟩ := q
 refine ⟨_, _, .ints ha, .ints hb, W.ke_shaped_ints ns, W.ke_shaped_ints ms, ?_⟩
 have e : PyData.eqv (.list (ns.map PyData.int)) (.list (ms.map PyData.int)) = decide (ns = ms) := W.ked_eqvAll ns ms
 rw [e]; exact q
def clsV : V → Option Value
 | .ty n => some (.type n)
 | .ref a => some (.ref a)
 | _ => none
theorem clsV_rel {c : V} {cv v : Value} (h : clsV c = some cv) (r : RelV c v) : v = cv := by
 cases c with
 | ref a => cases h; exact r
 | ty n => cases h; exact r
 | _ => cases h
def rIsi (K : W.Frag) : List V → Hp → VK → Prop := fun xs H Q => ∃ x c t cv b, xs = [x, c] ∧ clsV c = some cv ∧ TyOf K H x t ∧ W.kitOne K t cv = some b ∧ Q (.bl b) H
theorem call_isi : CallR X (.builtin "isinstance") (rIsi X.K) := by
 intro pins s σ H xs us Q I r h
 obtain ⟨x, c, t, cv, b, rfl, rc, ty, e, q⟩ := h
 obtain ⟨u, v, rfl, ru, rv⟩ := Vals.two r
 have e2 := clsV_rel rc rv
 subst e2
 exact isinst_ok I ru ty e fun tk => ⟨.bl b, H, I.tok _, rfl, q⟩
structure ClsM (K : W.Frag) (C : Addr) (m : Str) (f : Addr) : Prop where
 sp : W.specialIn K (.ref C) "__getattribute__" = some (some (.builtin "type.__getattribute__"))
 rd : W.readsIn K C (.type "type") = true
 fd : W.findCls K (.ref C) (.type "type") m = some (.val (.ref f))
 kp : W.keepIn K (.ref f) = true
theorem pe_base {x m : Str} {C f : Addr} {fd : FuncData} {ps : List Str} {sp : Sp} {dvs : List V} {ds : List Value} {E : XK} {CX : CXT} {k : Nat} {p apos pos : Pos} {e : Expr} {es : List Expr} {t : TA} {pl : Sem Bool}
  (hg : Gl X x) (hm : X.mg x = some (.ref C)) (M : ClsM X.K C m f) (F : FnOk X.prog X.w X.K X.mg X.base CX k f fd ps sp) (hr : Room k X.A) (hb : Binds X.K fd ps ds) (hd : Vals dvs ds) (hx : Passes CX X E) (ha : PA X (e :: es) t)
  (hst : starEach (e :: es) X.env = (false, eval e X.env) :: starEach es X.env := by rfl) (hpl : (backTo pos (starEach es X.env)).any (·.1) = false := by rfl) (hdb : (x == ("__debug__" : Str)) = false := by decide)
  (ht : eval (.Call (.Attribute (.Name x p) m apos) (e :: es) [] pos) X.env = (do
   let ov ← eval (.Name x p) X.env
   standAt apos.atName
   let (f, first) ← holding [ov] (getMethod ov m pl)
   callWith pos f first (backTo pos (starEach (e :: es) X.env)) (backToKw pos (keywordEach [] X.env))) := by rfl) :
  PE X (.Call (.Attribute (.Name x p) m apos) (e :: es) [] pos) (tCall sp dvs E t) := by
 intro pins s σ H Q I h
 refine W.methodCall_KW (pl := pl) (ld_glob I hg hm ?_ hdb) ht
 refine W.method_cls I.kIn M.sp (W.cls_value I.kIn M.rd M.fd rfl ?_)
 have I1 := I.tok (s.toks + 1)
 refine W.callWith_K (first := []) (h₀ := X.base) I.ok.mod.kin M.kp (thn (ha pos pins _ σ H _ I1 h) fun us s2 ⟨vs, H2, I2, r, q2⟩ => ⟨I2.kIn, ?_⟩) hst hpl
 exact run_fn F hr hb hd hx I2 r q2
end
end L2
namespace L2
open PySem PySem.Spec PyProof.Rows
theorem bt_len : bootBuiltins "len" = some (.builtin "len") := by decide +kernel
theorem bt_max : bootBuiltins "max" = some (.builtin "max") := by decide +kernel
theorem bt_min : bootBuiltins "min" = some (.builtin "min") := by decide +kernel
theorem bt_abs : bootBuiltins "abs" = some (.builtin "abs") := by decide +kernel
theorem bt_isinstance : bootBuiltins "isinstance" = some (.builtin "isinstance") := by decide +kernel
theorem bt_sorted : bootBuiltins "sorted" = some (.builtin "sorted") := by decide +kernel
theorem bt_all : bootBuiltins "all" = some (.builtin "all") := by decide +kernel
theorem bt_list : bootBuiltins "list" = some (.type "list") := by decide +kernel
theorem bt_tuple : bootBuiltins "tuple" = some (.type "tuple") := by decide +kernel
theorem bt_int : bootBuiltins "int" = some (.type "int") := by decide +kernel
theorem bt_bool : bootBuiltins "bool" = some (.type "bool") := by decide +kernel
theorem bt_enumerate : bootBuiltins "enumerate" = some (.type "enumerate") := by decide +kernel
theorem few_put {f : Str} {v : V} {fs : List (Str × V)} {n : Nat} (h : fs.length < n) : (putF f v fs).length < n + 1 := Nat.lt_of_le_of_lt (length_putF f v fs) (by omega)
section
variable {X : Cx} {a b c : Expr} {ta tb : TE} {pos : Pos}
theorem c_max2 (hc : X.calm = true) : CallR X (.builtin "max") (fun xs H Q => argI2 (fun i j H1 => Q (.int (max i j)) H1) xs H) := (call_max2 hc).imp fun xs H Q q => by
 obtain ⟨i, j, rfl, q⟩ := argI2_of q
 refine ⟨i, j, rfl, ?_⟩
 have e : (if j > i then j else i) = max i j := by split <;> omega
 rw [e]; exact q
theorem c_min2 (hc : X.calm = true) : CallR X (.builtin "min") (fun xs H Q => argI2 (fun i j H1 => Q (.int (min i j)) H1) xs H) := (call_min2 hc).imp fun xs H Q q => by
 obtain ⟨i, j, rfl, q⟩ := argI2_of q
 refine ⟨i, j, rfl, ?_⟩
 have e : (if j < i then j else i) = min i j := by split <;> omega
 rw [e]; exact q
theorem c_abs : CallR X (.builtin "abs") (fun xs H Q => argI (fun i H1 => Q (.int (i.natAbs : Int)) H1) xs H) := call_abs.imp fun xs H Q q => by
 obtain ⟨i, rfl, q⟩ := argI_of q
 refine ⟨i, rfl, ?_⟩
 have e : (if i < 0 then -i else i) = (i.natAbs : Int) := by split <;> omega
 rw [e]; exact q
def isN : V → Bool
 | .non => true
 | _ => false
theorem isN_dec (x : V) : decide (x = .non) = isN x := by cases x <;> simp [isN]
def cTIsN (ta : TE) : TT := fun σ H Q => ta σ H fun x H1 => Q (isN x) H1
def cTNotN (ta : TE) : TT := fun σ H Q => ta σ H fun x H1 => Q (!isN x) H1
theorem ct_isN {j pos'} (ha : PE X a ta) : PT X (.Compare a [.Is] [.Constant .none j pos'] pos) (cTIsN ta) := (pt_cmp (pc_isN ha)).imp fun σ H Q q => by
 show ta σ H _
 have e : (fun x H1 => ∃ c, V.bl (decide (x = V.non)) = .bl c ∧ Q c H1) = fun x H1 => Q (isN x) H1 := by
  funext x H1; rw [isN_dec]; apply propext; exact ⟨fun ⟨c, e, q⟩ => by cases e; exact q, fun q => ⟨_, rfl, q⟩⟩
 rw [e]; exact q
theorem ct_notN {j pos'} (ha : PE X a ta) : PT X (.Compare a [.IsNot] [.Constant .none j pos'] pos) (cTNotN ta) := (pt_cmp (pc_notN ha)).imp fun σ H Q q => by
 show ta σ H _
 have e : (fun x H1 => ∃ c, V.bl (!decide (x = V.non)) = .bl c ∧ Q c H1) = fun x H1 => Q (!isN x) H1 := by
  funext x H1; rw [isN_dec]; apply propext; exact ⟨fun ⟨c, e, q⟩ => by cases e; exact q, fun q => ⟨_, rfl, q⟩⟩
 rw [e]; exact q
theorem cs_while {body : List Stmt} {tc : TT} {tb : TS} (hp : PassesOwn (model X.prog X.w) X.A X.env X.xe) (hc : PT X c tc) (hb : PSs X body tb) : PS X (.While c body [] pos) (cWhile tc tb) := by
 intro pins s σ H D I h
 unfold cWhile WhileAt at h
 obtain ⟨W, ⟨m0, w0⟩, turn⟩ := h
 refine wpAny_While (codeAny_whileLoop (fun n s' => ∃ σ' H', Inv X pins σ' H' s' ∧ W n σ' H') ?_ m0 ⟨σ, H, I, w0⟩)
 rintro n s1 ⟨σ1, H1, I1, w1⟩
 refine wpAny_passesOwn hp (thn (hc pins s1 σ1 H1 _ I1 (turn n σ1 H1 w1)) fun b s2 ⟨H2, I2, q2⟩ => ?_)
 cases b with
 | true =>
  obtain ⟨N, hN, q2⟩ := q2.1 rfl
  rw [if_pos rfl]
  refine wpAny_passesOwn hp (thn (hb pins s2 σ1 H2 _ I2 q2) fun f s3 q3 => ?_)
  cases f with
  | next =>
   obtain ⟨σ3, H3, I3, n3⟩ := q3
   obtain ⟨m', hm, w3⟩ := hN σ3 H3 n3
   exact ⟨m', hm, σ3, H3, I3, w3⟩
  | cont =>
   obtain ⟨σ3, H3, I3, n3⟩ := q3
   obtain ⟨m', hm, w3⟩ := hN σ3 H3 n3
   exact ⟨m', hm, σ3, H3, I3, w3⟩
  | brk => exact q3
  | ret v => exact q3
 | false =>
  rw [if_neg Bool.false_ne_true]
  exact wpAny_execs_nil ⟨σ1, H2, I2, q2.2 rfl⟩
end
theorem forAt_its {lo st : Int} {n : Nat} {g : TG} {tb : TS} {D : Ends} {σ : St} {H : Hp} (Pv : Nat → St → Hp → Prop) (h0 : Pv 0 σ H)
  (hs : ∀ (i : Nat) σ H, i < n → Pv i σ H → g (.int (lo + i * st)) σ H fun σ2 H2 => tb { D with nx := Pv (i + 1), ct := Pv (i + 1), bk := D.nx } σ2 H2) (hd : ∀ σ H, Pv n σ H → D.nx σ H) : ForAt (Its lo st n) g tb D σ H := by
 unfold ForAt
 refine ⟨fun i m σ H => m = n - i ∧ i ≤ n ∧ Pv i σ H, ⟨n, by simp, Nat.zero_le _, h0⟩, ?_⟩
 rintro i m σ H ⟨rfl, hi, p⟩
 by_cases hlt : i < n
 ·refine .inr ⟨hlt, Pv (i + 1), fun σ' H' p' => ⟨n - (i + 1), by omega, rfl, hlt, p'⟩, fun x H' y => ?_⟩
  obtain ⟨e, y⟩ := y
  subst e y
  exact hs i σ _ hlt p
 ·have e : i = n := by omega
  subst e
  exact .inl ⟨Nat.le_refl _, hd σ H p⟩
theorem forAt_list {K : W.Frag} {l : Addr} {xs : List V} {g : TG} {tb : TS} {D : Ends} {σ : St} {H : Hp} (Pv : Nat → St → Hp → Prop) (h0 : Pv 0 σ H) (hl : ∀ i σ H, i ≤ xs.length → Pv i σ H → SqL K H l xs)
  (hs : ∀ i x σ H, xs[i]? = some x → Pv i σ H → g x σ H fun σ2 H2 => tb { D with nx := Pv (i + 1), ct := Pv (i + 1), bk := D.nx } σ2 H2) (hd : ∀ σ H, Pv xs.length σ H → D.nx σ H) : ForAt (Itl K l) g tb D σ H := by
 unfold ForAt
 exact for_list Pv h0 hl hs hd
theorem forAt_tup {K : W.Frag} {l : Addr} {xs : List V} {g : TG} {tb : TS} {D : Ends} {σ : St} {H : Hp} (Pv : Nat → St → Hp → Prop) (h0 : Pv 0 σ H) (hl : ∀ i σ H, i ≤ xs.length → Pv i σ H → SqT K H l xs)
  (hs : ∀ i x σ H, xs[i]? = some x → Pv i σ H → g x σ H fun σ2 H2 => tb { D with nx := Pv (i + 1), ct := Pv (i + 1), bk := D.nx } σ2 H2) (hd : ∀ σ H, Pv xs.length σ H → D.nx σ H) : ForAt (Itt K l) g tb D σ H := by
 unfold ForAt
 exact for_tup Pv h0 hl hs hd
theorem Same.new {H : Hp} {p : Addr} {o : HO} (h : H p = none) : Same H (upd H p o) := fun b u e => by rw [upd_ne (ne_of_none e h)]; exact e
theorem Same.put {H H' : Hp} {p : Addr} {o : HO} (e : Same H H') (h : H p = none) : Same H (upd H' p o) := fun b u q => by rw [upd_ne (ne_of_none q h)]; exact e b u q
theorem Same.at {H H' : Hp} {p : Addr} {o : HO} (e : Same H H') (h : H p = some o) : H' p = some o := e p o h
end L2
namespace L2
open PySem PySem.Spec PyProof.Rows
theorem Same.of_eq {H H' : Hp} {p : Addr} {o : HO} (h : H p = none) (e : upd H p o = H') : Same H H' := by rw [← e]; exact Same.new h
theorem at_of_eq {H H' : Hp} {p : Addr} {o : HO} (e : upd H p o = H') : H' p = some o := by rw [← e]; exact upd_same
theorem Same.back {H H' : Hp} {p : Addr} (e : Same H H') (h : H' p = none) : H p = none := Same.free e h
theorem Same.wr {H0 H H' : Hp} {p : Addr} {o : HO} (s : Same H0 H) (f : H0 p = none) (e : upd H p o = H') : Same H0 H' := by rw [← e]; exact s.put f
end L2
namespace L2
open PySem PySem.Spec PyProof.Rows
structure LLat (H0 H : Hp) (l : Addr) (as : List Addr) (xss : List (List Int)) : Prop where
 top : H l = some (.lst (as.map V.ref))
 nd : (l :: as).Nodup
 len : as.length = xss.length
 each : ∀ (i : Nat) (a : Addr) (xs : List Int), as[i]? = some a → xss[i]? = some xs → H a = some (.lst (xs.map V.int))
 fr : H0 l = none
 frs : ∀ a ∈ as, H0 a = none
theorem LLat.same {H0 H H' : Hp} {l : Addr} {as : List Addr} {xss : List (List Int)} (L : LLat H0 H l as xss) (s : Same H H') : LLat H0 H' l as xss :=
 ⟨s.at L.top, L.nd, L.len, fun i a xs h1 h2 => s.at (L.each i a xs h1 h2), L.fr, L.frs⟩
theorem LLat.nil {H0 H H' : Hp} {l : Addr} (h : H0 l = none) (e : H l = some (.lst [])) : LLat H0 H l [] [] :=
 ⟨e, by simp, rfl, fun i a xs h1 _ => by simp at h1, h, fun a ha => by simp at ha⟩
theorem LLat.tracked {H0 H : Hp} {l : Addr} {as : List Addr} {xss : List (List Int)} (L : LLat H0 H l as xss) {a : Addr} (ha : a ∈ as) : ∃ xs : List Int, H a = some (.lst (xs.map V.int)) := by
 obtain ⟨i, hi, rfl⟩ := List.mem_iff_getElem.mp ha
 have h2 : i < xss.length := by rw [← L.len]; exact hi
 exact ⟨xss[i], L.each i _ _ (List.getElem?_eq_getElem hi) (List.getElem?_eq_getElem h2)⟩
theorem LLat.apart {H0 H : Hp} {l : Addr} {as : List Addr} {xss : List (List Int)} (L : LLat H0 H l as xss) {p : Addr} (h : H p = none) : p ∉ l :: as := by
 intro z
 rcases List.mem_cons.mp z with rfl | z
 ·rw [L.top] at h; cases h
 ·obtain ⟨xs, e⟩ := L.tracked z
  rw [e] at h; cases h
theorem LLat.push {H0 H H' : Hp} {l p : Addr} {as : List Addr} {xss : List (List Int)} {xs : List Int} (L : LLat H0 H l as xss) (hp : H p = some (.lst (xs.map V.int))) (hne : p ∉ l :: as) (hf : H0 p = none)
  (e : upd H l (.lst (as.map V.ref ++ [.ref p])) = H') : LLat H0 H' l (as ++ [p]) (xss ++ [xs]) := by
 subst e
 have hpl : p ≠ l := fun z => hne (by rw [z]; exact List.mem_cons_self)
 have hpa : p ∉ as := fun z => hne (List.mem_cons_of_mem _ z)
 obtain ⟨n1, n2⟩ := List.nodup_cons.mp L.nd
 refine ⟨by rw [upd_same, List.map_append]; rfl, ?_, by simp [L.len], fun i a ys h1 h2 => ?_, L.fr, fun a ha => ?_⟩
 ·refine List.nodup_cons.mpr ⟨fun z => ?_, nd_snoc n2 hpa⟩
  rcases List.mem_append.mp z with z | z
  ·exact n1 z
  ·exact hpl (List.mem_singleton.mp z).symm
 ·have hla : a ∈ as ++ [p] := List.mem_of_getElem? h1
  have nal : a ≠ l := fun z => by
   subst z
   rcases List.mem_append.mp hla with z | z
   ·exact n1 z
   ·exact hpl (List.mem_singleton.mp z).symm
  rw [upd_ne nal]
  by_cases hi : i < as.length
  ·rw [List.getElem?_append_left hi] at h1
   rw [List.getElem?_append_left (by rw [← L.len]; exact hi)] at h2
   exact L.each i a ys h1 h2
  ·rw [List.getElem?_append_right (by omega)] at h1
   rw [List.getElem?_append_right (by rw [← L.len]; omega)] at h2
   have e1 : i - as.length = 0 := by
    cases hq : i - as.length with
    | zero => rfl
    | succ k => rw [hq] at h1; simp at h1
   rw [e1] at h1
   rw [← L.len, e1] at h2
   simp at h1 h2
   rw [← h1, ← h2]; exact hp
 ·rcases List.mem_append.mp ha with z | z
  ·exact L.frs a z
  ·have z' : a = p := by simpa using z
   rw [z']; exact hf
theorem comp_lists {lo st : Int} {n : Nat} {te : TE} {caps : L2.St} {Q : VK} {H2 : Hp} (f : Nat → List Int) (hn : n ≤ sizeLine)
  (hs : ∀ (i : Nat) (H3 : Hp), i < n → Same H2 H3 → ∀ R : VK, (∀ l H6, Same H3 H6 → H3 l = none → H6 l = some (.lst ((f i).map V.int)) → R (.ref l) H6) → te (some (.int (lo + i * st)) :: caps) H3 R)
  (hd : ∀ D H' as, Same H2 H' → LLat H2 H' D as ((List.range n).map f) → Q (.ref D) H') : CompAt (Its lo st n) caps tAll te Q H2 := by
 unfold CompAt
 intro D hD
 refine ⟨fun i m acc H3 => m = n - i ∧ i ≤ n ∧ Same H2 H3 ∧ ∃ as, acc = as.map V.ref ∧ LLat H2 H3 D as ((List.range i).map f), ⟨n, by simp, Nat.zero_le _, Same.new hD, [], rfl, LLat.nil (H' := H2) hD upd_same⟩, ?_⟩
 rintro i m acc H3 ⟨rfl, hi, s3, as, rfl, L⟩
 refine ⟨L.top, ?_⟩
 by_cases hlt : i < n
 ·have hl : as.length = i := by rw [L.len]; simp
  refine .inr ⟨hlt, by simp [hl]; omega, fun v H4 y => ?_⟩
  obtain ⟨e, y⟩ := y
  subst e y
  refine ⟨fun _ => ?_, fun z => by cases z⟩
  refine hs i _ hlt s3 _ fun l H6 s6 hl0 hl6 => ⟨s6.at L.top, n - (i + 1), by omega, rfl, hlt, (s3.trans s6).put hD, as ++ [l], by rw [List.map_append]; rfl, ?_⟩
  rw [List.range_succ, List.map_append]
  exact (L.same s6).push hl6 (L.apart hl0) (s3.back hl0) rfl
 ·have e : i = n := by omega
  subst e
  exact .inl ⟨Nat.le_refl _, hd D H3 as s3 L⟩
section
variable {X : Cx}
end
end L2
namespace L2
open PySem PySem.Spec PyProof.Rows
abbrev HO.any : HO := .ext fun _ => True
theorem ObjOk.anyOf {P : Program} {w : World} {H : Hp} {h : Heap} {a : Addr} {o : Obj} (e : h.get? a = some o) : ObjOk P w H h a (.frz o HO.any) := ⟨e, trivial, ⟨o, e⟩, fun _ _ _ _ => trivial⟩
def CloAt (H : Hp) (f : Addr) (nm qual : Str) (params : Arguments) (body : FuncBody) (scope : Scope) (fv : List (Str × V)) : Prop :=
 ∃ (clos : List (Str × Addr)) (c : Addr) (o : Obj) (u u' : HO) (vs : Array Value) (t : Tok) (doc pm ctv : Value),
  H f = some (.frz { cls := .type "function", data := .func { name := nm, qualname := qual, params, body, scope, globals := mainGlobals, closure := clos, defaults := .none, kwdefaults := .none, doc, pyModule := pm, annotations := none, code := .ref c, closureTuple := ctv, builtins := builtinsNs } } u) ∧
  H c = some (.frz o u') ∧ o.data = .fields vs ∧ vs[1]? = some (.str qual t) ∧
  (∀ x y a, clos.lookup x = some a → clos.lookup y = some a → x = y) ∧ (∀ x, (x, NameKind.free) ∈ scope.names → ∃ a, clos.lookup x = some a) ∧
  (∀ x v, (x, v) ∈ fv → ∃ a, clos.lookup x = some a ∧ H a = some (.cel (some v))) ∧ ∀ x a, clos.lookup x = some a → ∃ v, H a = some (.cel (some v))
theorem ca_snoc {pos pos' : Pos} {c : Value} (l : List Value) (h : TriplesOk l) :
  codeAmong pos' (l ++ [rawInt pos.line, rawInt pos.col, c]) = (match codeAmong pos' l with
   | some d => some d
   | none => if ((pos.line : Int) == pos'.line && (pos.col : Int) == pos'.col) = true then some c else none) := by
 fun_induction TriplesOk l with
 | case1 => simp [codeAmong, rawInt]
 | case2 a t b u x rest ih =>
  simp only [List.cons_append, codeAmong]
  split
  ·rfl
  ·exact ih h
 | case3 l h1 h2 => exact h.elim
def TabK (K : W.Frag) (c P : Addr) : Prop := ∀ h : Heap, K.In h → W.CodeHd h c P
theorem clOf_free {cells : List (Str × Addr)} : ∀ {l : List (Str × NameKind)} {cs : List (Str × Addr)} {x : Str} {c : Addr}, (clOf cells l cs).lookup x = some c → (x, NameKind.free) ∈ l ∨ ∃ a, cs.lookup x = some a
 | [], cs, x, c, h => .inr ⟨c, h⟩
 | (n, k) :: r, cs, x, c, h => by
  unfold clOf at h
  rcases clOf_free h with q | ⟨a, q⟩
  ·exact .inl (List.mem_cons_of_mem _ q)
  ·split at q
   ·rename_i hk
    rw [List.lookup_cons] at q
    split at q
    ·rename_i hx
     have e : x = n := by simpa using hx
     have e2 : k = .free := by simpa using hk
     subst e; subst e2
     exact .inl List.mem_cons_self
    ·exact .inr ⟨a, q⟩
   ·exact .inr ⟨a, q⟩
abbrev fnObjOf (name qual : Str) (params : Arguments) (body : FuncBody) (scope : Scope) (clos : List (Str × Addr)) (doc pm cdv ctv : Value) : Obj :=
 { cls := .type "function", data := .func { name, qualname := qual, params, body, scope, globals := mainGlobals, closure := clos, defaults := .none, kwdefaults := .none, doc, pyModule := pm, annotations := none, code := cdv, closureTuple := ctv, builtins := builtinsNs } }
section
variable {M : Model} {A : Around} {E : Value → Shared → Prop} {s : Shared} {name qual : Str} {params : Arguments} {body : FuncBody} {scope : Scope} {env : Env} {c P : Addr} {ps : Array Value} {pos : Pos} {firstLine : Nat} {mg : Str → Option Value}
 {clos : List (Str × Addr)} {Q : Value → Shared → Prop}
theorem mk_miss (hcl : closureFor scope env = pure clos) (hge0 : env.globals = mainGlobals) (hg : s.heap.Ns mainGlobals mg) (hcode : env.code = .ref c) (C : W.CodeHd s.heap c P) (hP : s.heap.get? P = some (W.tabObj ps)) (ht : TriplesOk ps.toList)
  (hnf : codeAmong pos ps.toList = none) (hgP : mainGlobals ≠ P) (hb : s.heap.BuiltinsAt mg P)
  (h : ∀ c' ctv doc h' tk, Heap.ExtBut P s.heap h' → s.heap.objs.size ≤ c' → c' < h'.objs.size → h'.CodeRec (.ref c') qual → h'.get? P = some (W.tabObj (ps ++ #[rawInt pos.line, rawInt pos.col, .ref c'])) →
   Q (.ref h'.objs.size) { s with heap := h'.push (fnObjOf name qual params body scope clos doc ((mg "__name__").getD .none) (.ref c') ctv), toks := tk }) :
  wpAny M A (makeFunction name qual params body scope env [] [] [] pos firstLine) Q E s := by
 cases body with
 | stmts b => exact W.makeFunction_K hcl hge0 hg hcode C hP ht hnf hgP hb h
 | expr e => exact W.kla_makeFunction hcl hge0 hg hcode C hP ht hnf hgP hb fun c' ctv h' tk => h c' ctv .none h' tk
theorem mk_hit {cv : Value} (hcl : closureFor scope env = pure clos) (hge0 : env.globals = mainGlobals) (hg : s.heap.Ns mainGlobals mg) (hcode : env.code = .ref c) (C : W.CodeHd s.heap c P) (hP : s.heap.get? P = some (W.tabObj ps)) (ht : TriplesOk ps.toList)
  (hf : codeAmong pos ps.toList = some cv) (hb : s.heap.BuiltinsAt mg P)
  (h : ∀ (ctv doc : Value) (h' : Heap) (tk : Tok), (∀ b o, s.heap.get? b = some o → h'.get? b = some o) → s.heap.objs.size ≤ h'.objs.size →
   Q (.ref h'.objs.size) { s with heap := h'.push (fnObjOf name qual params body scope clos doc ((mg "__name__").getD .none) cv ctv), toks := tk }) :
  wpAny M A (makeFunction name qual params body scope env [] [] [] pos firstLine) Q E s := by
 cases body with
 | stmts b => exact W.makeFunction_hit hcl hge0 hg hcode C hP ht hf hb h
 | expr e => exact W.kla_makeFunctionHit hcl hge0 hg hcode C hP ht hf hb fun ctv h' tk => h ctv .none h' tk
end
section
variable {X : Cx} {pins : List (Addr × Obj)} {σ : St} {H : Hp} {s : Shared} {c P : Addr} {qs : List (Pos × Str)} {name qual : Str} {params : Arguments} {body : FuncBody} {scope : Scope} {pos : Pos} {fv : List (Str × V)} {Q : VK} {fns : List Str}
def tFn (X : Cx) (P : Addr) (qs : List (Pos × Str)) (fns : List Str) (name qual : Str) (params : Arguments) (body : FuncBody) (scope : Scope) : TE := fun σ H Q =>
 H P = some (.tbl qs) ∧ ∃ fv : List (Str × V), fv.map (·.1) = fns ∧ (∀ x v, (x, v) ∈ fv → ∃ a, X.env.cells.lookup x = some a ∧ H a = some (.cel (some v))) ∧
  ∀ f H', H f = none → Same H H' → CloAt H' f name qual params body scope fv → Q (.ref f) H'
theorem make_fn (I : Inv X pins σ H s) (hcode : X.env.code = .ref c) (T : TabK X.K c P) (hq : (pos, qual) ∈ qs) (hu : (qs.all fun p => !((pos.line == p.1.line) && (pos.col == p.1.col)) || (p.2 == qual)) = true)
  (hfr : (scope.names.filter fun y => y.2 == .free).map (·.1) = fns) (h : tFn X P qs fns name qual params body scope σ H Q) {n : Nat} :
  wpAny (model X.prog X.w) X.A (makeFunction name qual params body scope X.env [] [] [] pos n) (EP X pins σ Q) X.xe s := by
 obtain ⟨hP, fv, hn, hf, h⟩ := h
 have isfr : ∀ x, (x, NameKind.free) ∈ scope.names ↔ x ∈ fns := fun x => by
  rw [← hfr, List.mem_map]
  constructor
  ·exact fun m => ⟨(x, .free), List.mem_filter.mpr ⟨m, rfl⟩, rfl⟩
  ·rintro ⟨⟨y, k⟩, m, rfl⟩
   have m2 := List.mem_filter.mp m
   have e : k = .free := by simpa using m2.2
   subst e
   exact m2.1
 have names : ∀ x, (x, NameKind.free) ∈ scope.names → ∃ v a, (x, v) ∈ fv ∧ X.env.cells.lookup x = some a ∧ H a = some (.cel (some v)) := fun x hx => by
  have m := (isfr x).mp hx
  rw [← hn] at m
  obtain ⟨⟨x', v⟩, hm, rfl⟩ := List.mem_map.mp m
  obtain ⟨a, h1, h2⟩ := hf _ _ hm
  exact ⟨v, a, hm, h1, h2⟩
 have hcs : ∀ y ∈ scope.names, y.2 = .free → ∃ c, X.env.cells.lookup y.1 = some c := fun y hy e => by
  obtain ⟨y1, y2⟩ := y
  have e : y2 = .free := e
  subst e
  obtain ⟨_, a, _, h1, _⟩ := names y1 hy
  exact ⟨a, h1⟩
 have hcl := closure_is (scope := scope) (env := X.env) hcs
 have sub : ∀ {z : Str} {a : Addr}, (clOf X.env.cells scope.names []).lookup z = some a → X.env.cells.lookup z = some a := fun {z a} e => by
  rcases clOf_sub hcs e with q | q
  ·cases q
  ·exact q
 have subF : ∀ {z : Str} {a : Addr}, (clOf X.env.cells scope.names []).lookup z = some a → (z, NameKind.free) ∈ scope.names := fun {z a} e => by
  rcases clOf_free e with q | ⟨_, q⟩
  ·exact q
  ·cases q
 have cInj : ∀ x y a, (clOf X.env.cells scope.names []).lookup x = some a → (clOf X.env.cells scope.names []).lookup y = some a → x = y := fun x y a e1 e2 => I.ok.inj x y a (sub e1) (sub e2)
 have cHas : ∀ x, (x, NameKind.free) ∈ scope.names → ∃ a, (clOf X.env.cells scope.names []).lookup x = some a := fun x m => clOf_mem (.inl m)
 have cVal : ∀ x v, (x, v) ∈ fv → ∃ a, (clOf X.env.cells scope.names []).lookup x = some a ∧ H a = some (.cel (some v)) := fun x v m => by
  obtain ⟨a, e1, e2⟩ := hf x v m
  obtain ⟨a', e3⟩ := cHas x ((isfr x).mpr (by rw [← hn]; exact List.mem_map_of_mem m))
  have e4 := sub e3
  rw [e1] at e4; cases e4
  exact ⟨a, e3, e2⟩
 have cAll : ∀ x a, (clOf X.env.cells scope.names []).lookup x = some a → ∃ v, H a = some (.cel (some v)) := fun x a e => by
  obtain ⟨v, a', _, e1, e2⟩ := names x (subF e)
  rw [sub e] at e1; cases e1
  exact ⟨v, e2⟩
 have hg : s.heap.Ns mainGlobals X.mg := I.mod.glob.keeps I.bk
 obtain ⟨ps, hPo, ht, hent⟩ := I.hok P _ hP
 have C := T s.heap I.kIn
 have hgP : mainGlobals ≠ P := fun q => by
  obtain ⟨o, es, ep, e, hd, _⟩ := hg
  rw [q, hPo] at e; cases e; cases hd
 have hB : s.heap.BuiltinsAt X.mg P := by
  obtain ⟨bm, ob, b1, b2, b3, b4, b5, b6⟩ := I.mod.bm
  have b3' := I.bk _ _ b3
  refine ⟨bm, ob, b1, b2, fun q => ?_, fun q => ?_, b3', b4, b5, b6⟩
  ·obtain ⟨o, es, ep, e, hd, _⟩ := hg
   rw [← q, b3'] at e; cases e; rw [b6] at hd; cases hd
  ·rw [q, hPo] at b3'; cases b3'; cases b4
 rcases hent pos qual hq with hnf | ⟨c', o, u, vs, t, hit, hc', hd, hv⟩
 ·refine mk_miss hcl I.ok.glob hg hcode C hPo ht hnf hgP hB fun c' ctv doc h' tk hx hge hlt hrec htb => ?_
  obtain ⟨c2, oc, vs, t, e2, hoc, hd, hv⟩ := hrec
  cases e2
  have hc0 : H c' = none := I.hok.fresh hge
  have hsz : s.heap.objs.size ≤ h'.objs.size := Nat.le_of_lt (Nat.lt_of_le_of_lt hge hlt)
  have hf0 : H h'.objs.size = none := I.hok.fresh hsz
  have hcf : c' ≠ h'.objs.size := Nat.ne_of_lt hlt
  let fo := fnObjOf name qual params body scope (clOf X.env.cells scope.names []) doc ((X.mg "__name__").getD .none) (.ref c') ctv
  let H' := upd (upd H c' (.frz oc HO.any)) h'.objs.size (.frz fo HO.any)
  have sm : ∀ b u, H b = some u → H' b = some u := fun b u e => by
   show upd _ _ _ b = _
   rw [upd_ne (ne_of_none e hf0), upd_ne (ne_of_none e hc0)]; exact e
  have H'c : H' c' = some (.frz oc HO.any) := by
   show upd _ _ _ c' = _
   rw [upd_ne hcf, upd_same]
  have H'f : H' h'.objs.size = some (.frz fo HO.any) := upd_same
  have keep : ∀ b o, b ≠ P → s.heap.get? b = some o → (h'.push fo).get? b = some o := fun b o hb e => Heap.get?_push_of_some _ (hx b o hb e)
  have nP : ∀ b, H b = none → b ≠ P := fun b e q => by rw [q, hP] at e; cases e
  refine ⟨.ref h'.objs.size, H', I.un ⟨fun b o e n _ _ => keep b o (nP b n) e, fun b o e n _ _ => ⟨o.slots, keep b o (nP b n) e⟩, fun b o e n _ => ?_, fun b o e _ => ?_, fun b u e _ => sm b u e⟩ fun b u e => ?_, rfl, ?_⟩
  ·have lt := Heap.lt_size e
   show upd _ _ _ b = _
   rw [upd_ne (Nat.ne_of_lt (Nat.lt_of_lt_of_le lt hsz)), upd_ne (Nat.ne_of_lt (Nat.lt_of_lt_of_le lt hge))]; exact n
  ·by_cases hb : b = P
   ·exact ⟨_, Heap.get?_push_of_some _ (by rw [hb]; exact htb)⟩
   ·exact ⟨o, keep b o hb e⟩
  ·by_cases h1 : b = h'.objs.size
   ·subst h1
    rw [H'f] at e; cases e
    exact ObjOk.anyOf (Heap.get?_push_size _ rfl)
   ·have e1 : upd H c' (.frz oc HO.any) b = some u := (upd_ne h1).symm.trans e
    by_cases h2 : b = c'
    ·subst h2
     rw [upd_same] at e1; cases e1
     exact ObjOk.anyOf (Heap.get?_push_of_some _ hoc)
    ·rw [upd_ne h2] at e1
     by_cases hb : b = P
     ·subst hb
      rw [hP] at e1; cases e1
      refine ⟨_, Heap.get?_push_of_some _ htb, ?_, fun pos' q m => ?_⟩
      ·simpa using TriplesOk_snoc (pos.line : Int) (pos.col : Int) (.ref c') ps.toList ht
      ·have e3 : (ps ++ #[rawInt pos.line, rawInt pos.col, Value.ref c']).toList = ps.toList ++ [rawInt pos.line, rawInt pos.col, Value.ref c'] := by simp
       rw [e3, ca_snoc _ ht]
       rcases hent pos' q m with z | ⟨d, o, u, vs', t', z1, z2, z3, z4⟩
       ·rw [z]
        by_cases hl : ((pos.line : Int) == pos'.line && (pos.col : Int) == pos'.col) = true
        ·right
         have hqq : q = qual := by
          have := List.all_eq_true.mp hu (pos', q) m
          simp only [Bool.and_eq_true, beq_iff_eq, Int.ofNat_inj, Int.natCast_inj] at hl
          have a1 : pos.line = pos'.line := by have := hl.1; omega
          have a2 : pos.col = pos'.col := by have := hl.2; omega
          simpa [a1, a2] using this
         subst hqq
         exact ⟨c', oc, HO.any, vs, t, if_pos hl, H'c, hd, hv⟩
        ·exact .inl (if_neg hl)
       ·right
        rw [z1]
        exact ⟨d, o, u, vs', t', rfl, sm _ _ z2, z3, z4⟩
     ·refine (I.hok b u e1).stay (fun d v hc q => keep d v ?_ q) (fun d q => sm _ _ q) fun d u q _ => sm _ _ q
      rcases hc with rfl | hc
      ·exact hb
      ·intro z; rw [z, hP] at hc; cases hc
  ·exact h h'.objs.size H' hf0 sm ⟨_, c', oc, HO.any, HO.any, vs, t, doc, _, ctv, H'f, H'c, hd, hv, cInj, cHas, fun x v m => let ⟨a, q1, q2⟩ := cVal x v m; ⟨a, q1, sm _ _ q2⟩, fun x a q => let ⟨v, q2⟩ := cAll x a q; ⟨v, sm _ _ q2⟩⟩
 ·refine mk_hit hcl I.ok.glob hg hcode C hPo ht hit hB fun ctv doc h' tk hk hsz => ?_
  have hf0 : H h'.objs.size = none := I.hok.fresh hsz
  have sm : Same H (upd H h'.objs.size (.frz (fnObjOf name qual params body scope (clOf X.env.cells scope.names []) doc ((X.mg "__name__").getD .none) (.ref c') ctv) HO.any)) := fun b u e => by
   rw [upd_ne (ne_of_none e hf0)]; exact e
  refine ⟨.ref h'.objs.size, _, I.laid (o := .frz (fnObjOf name qual params body scope (clOf X.env.cells scope.names []) doc ((X.mg "__name__").getD .none) (.ref c') ctv) HO.any) (fun b o e => Heap.get?_push_of_some _ (hk b o e)) hsz (ObjOk.anyOf (Heap.get?_push_size _ rfl)), rfl, ?_⟩
  exact h _ _ hf0 sm ⟨_, c', o, HO.any, u, vs, t, doc, _, ctv, upd_same, sm _ _ hc', hd, hv, cInj, cHas, fun x v m => let ⟨a, q1, q2⟩ := cVal x v m; ⟨a, q1, sm _ _ q2⟩, fun x a q => let ⟨v, q2⟩ := cAll x a q; ⟨v, sm _ _ q2⟩⟩
theorem pe_lambda {e : Expr} (hcode : X.env.code = .ref c) (T : TabK X.K c P) (hq : (pos, X.env.qual ++ "<lambda>") ∈ qs) (hu : (qs.all fun p => !((pos.line == p.1.line) && (pos.col == p.1.col)) || (p.2 == X.env.qual ++ "<lambda>")) = true)
  (hfr : (scope.names.filter fun y => y.2 == .free).map (·.1) = fns) (hdef : defaultsOf params X.env = ([], []) := by rfl) :
  PE X (.Lambda params e scope pos) (tFn X P qs fns "<lambda>" (X.env.qual ++ "<lambda>") params (.expr e) scope) := fun _ _ _ _ _ I h =>
 W.kla_eval hdef (make_fn I hcode T hq hu hfr h)
theorem Inv.track {x : Str} {a : Addr} {i : Nat} (I : Inv X pins σ H s) (hN : X.N.Nodup) (hi : X.N[i]? = some x) (hk : X.env.kindOf x = some .cell) (hcp : X.cp x = true) (hfn : X.fn x = false) (ha : X.env.cells.lookup x = some a) (hH : H a = none) :
  Inv X pins σ (upd H a (.cel (σ[i]?.join))) s := by
 have hab : ∀ b o, X.s₀.heap.get? b = some o → b ≠ a := fun b o e => Nat.ne_of_lt (Nat.lt_of_lt_of_le (Heap.lt_size e) (I.ok.cab2 x a hcp ha))
 obtain ⟨v0, hv0⟩ := I.cell x a ha
 refine ⟨I.ok, I.os, I.bare, ⟨I.base.keep, I.base.slot, fun b o e n hx => ?_, I.base.there, fun b u e f => ?_⟩, I.loc, I.cell, ?_, fun y c e => ?_, fun p hp => ?_, fun b u e => ?_, I.len⟩
 ·rw [upd_ne (hab b o e)]; exact I.base.free b o e n hx
 ·have := I.base.fix b u e f
  rw [upd_ne (ne_of_none this hH)]; exact this
 ·rw [upd_ne (Ne.symm (I.cne x a ha))]; exact I.free
 ·by_cases hc : c = a
  ·subst hc
   obtain rfl := I.ok.inj _ _ _ e ha
   refine .inr ⟨hfn, _, upd_same, fun z j v e1 k e2 => ?_⟩
   have := nodup_ix hN e1 hi
   subst this
   rw [e2] at z; cases z
  ·rw [upd_ne hc]; exact I.freeC y c e
 ·obtain ⟨e, n, ne, nf, d⟩ := I.pin p hp
  refine ⟨e, ?_, ne, nf, d⟩
  rw [upd_ne fun z => ?_]
  ·exact n
  ·obtain ⟨o, q1, q2⟩ := hv0
   rw [← z, e] at q1; cases q1
   exact d _ q2
 ·by_cases hb : b = a
  ·subst hb
   rw [upd_same] at e; cases e
   cases hσ : σ[i]?.join with
   | none => exact ⟨v0, hv0, fun x z => by cases z⟩
   | some v =>
    have hσ' : σ[i]? = some (some v) := by
     cases q : σ[i]? with
     | none => rw [q] at hσ; cases hσ
     | some w => rw [q] at hσ; cases w with
      | none => cases hσ
      | some w => cases hσ; rfl
    obtain ⟨m, hn, hl⟩ := I.loc
    obtain ⟨u, r, l⟩ := hl i x v hi hσ' (.inr (.inl hk))
    rcases l with ⟨k, _⟩ | ⟨_, c, hc, hcell⟩
    ·rw [hk] at k; cases k
    ·rw [ha] at hc; cases hc
     exact ⟨_, hcell, fun y z => by cases z; exact ⟨u, rfl, r⟩⟩
  ·rw [upd_ne hb] at e
   exact (I.hok b u e).stay (fun _ _ _ q => q) (fun d q => by rw [upd_ne (ne_of_none q hH)]; exact q) fun d u q _ => by rw [upd_ne (ne_of_none q hH)]; exact q
def tTrack (X : Cx) (x : Str) (i : Nat) (t : TS) : TS := fun D σ H => ∀ a, X.env.cells.lookup x = some a → X.H₀ a = none → (∀ y b, X.env.cells.lookup y = some b → y ≠ x → b ≠ a) → H a = none ∧ t D σ (upd H a (.cel (σ[i]?.join)))
theorem pss_track {x : Str} {i : Nat} {b : List Stmt} {t : TS} (hN : X.N.Nodup) (hi : X.N[i]? = some x) (hk : X.env.kindOf x = some .cell) (hcp : X.cp x = true) (hfn : X.fn x = false)
  (h : PSs X b t) : PSs X b (tTrack X x i t) := fun pins s σ H D I q => by
 obtain ⟨a, ha⟩ := I.ok.has x (.inl hk)
 obtain ⟨z, q⟩ := q a ha (I.ok.hz a (I.ok.cab2 x a hcp ha)) fun y b e ne z => ne (I.ok.inj y x b e (z ▸ ha))
 exact h pins s σ _ D (I.track hN hi hk hcp hfn ha z) q
end
end L2
namespace L2
open PySem PySem.Spec PyProof.Rows
theorem law_callC {P : Program} {w : World} {K : W.Frag} {mg mb : Str → Option Value} {CX : CXT} {k : Nat} {fa a : Addr} {fd : FuncData} {x : Str} {sp : Sp} {s₁ : Shared} {vs : List Value} {ns : List Int} {tabs : List (Addr × Addr × List (Pos × Str))}
  (KX : K.In s₁.heap) (hns : s₁.heap.Ns mainGlobals mg) (hb : s₁.heap.Ns builtinsNs mb) (hbb : ∀ x : Str, x ≠ "__name__" → mb x = bootBuiltins x) (hlim : s₁.heap.NoLimit) (hbm : ∃ b o, mg "__builtins__" = some (.ref b) ∧ b ≠ builtinsNs ∧ s₁.heap.get? b = some o ∧ o.cls = .type "module" ∧ o.dict = some builtinsNs ∧ o.data = .plain) (hg : s₁.gens = #[])
  (ha : s₁.heap.get? a = some { cls := .type "list", data := .seq vs.toArray }) (hi : IntsAre vs ns) (hl : ns.length ≤ sizeLine) (hr : Room k callerA)
  (hT : ∀ q ∈ tabs, W.CodeHd s₁.heap q.1 q.2.1 ∧ s₁.heap.get? q.2.1 = some (W.tabObj #[])) (hnt : W.noTabs K = true) (nd : (tabs.map fun q => q.2.1).Nodup)
  (F : ∀ base : Heap, K.In base → base.Ns mainGlobals mg → FnOk P w K mg base CX k fa fd [x] sp) (hbind : ∀ (s : Shared) (u : Value), BindsTo s fd ⟨[u], []⟩ [(x, u)])
  (hsp : ∀ H : Hp, SqL K H a (ns.map V.int) → (∀ q ∈ tabs, H q.2.1 = some (.tbl q.2.2)) → sp [.ref a] H (fun v _ => v = .bl true) fun _ _ _ => False)
  (hCX : ∀ H e s', CX [] H s₁ (fun _ _ _ => False) e s' → False) :
  codeAny (model P w) callerA (.call (.ref fa) ⟨[.ref a], []⟩) (fun r s' => r = .ok (.ret (.bool true)) ∧ OldK s₁.heap s'.heap ∧ s'.os = s₁.os ∧ AllBare s'.gens) s₁ := by
 have rv := vals_ints hi
 have lenV := hi.length
 have aP : ∀ q ∈ tabs, q.2.1 ≠ a := fun q hq z => by
  have e := (hT q hq).2
  rw [z, ha] at e; cases e
 have core : ∀ H : Hp, SqL K H a (ns.map V.int) → (∀ q ∈ tabs, H q.2.1 = some (.tbl q.2.2)) →
   (∀ b u, H b = some u → (b = a ∧ K.lookup a = none ∧ ∃ xs, u = .frz { cls := .type "list", data := .seq vs.toArray } (.lst xs)) ∨ ∃ q ∈ tabs, b = q.2.1 ∧ u = .tbl q.2.2) → HOk P w H s₁.heap →
   codeAny (model P w) callerA (.call (.ref fa) ⟨[.ref a], []⟩) (fun r s' => r = .ok (.ret (.bool true)) ∧ OldK s₁.heap s'.heap ∧ s'.os = s₁.os ∧ AllBare s'.gens) s₁ := by
  intro H hS hP hA hok
  have base_of : ∀ {b : Addr} {o : Obj}, s₁.heap.get? b = some o → H b = none → (hidT s₁.heap H).get? b = some o := fun e n => hidT_get e n
  have noA : ∀ {b : Addr} {o : Obj}, s₁.heap.get? b = some o → o.cls ≠ .type "list" ∨ (∀ n, o.data ≠ .seq vs.toArray n) → o ≠ W.tabObj #[] → H b = none := fun {b o} e d1 d2 => by
   cases q : H b with
   | none => rfl
   | some u =>
    rcases hA b u q with ⟨rfl, _, _⟩ | ⟨t, ht, rfl, _⟩
    ·rw [ha] at e; cases e
     rcases d1 with d1 | d1
     ·exact absurd rfl d1
     ·exact absurd rfl (d1 _)
    ·have e2 := (hT t ht).2
     rw [e] at e2; cases e2
     exact absurd rfl d2
  have nsK : ∀ {b : Addr} {m : Str → Option Value}, s₁.heap.Ns b m → (hidT s₁.heap H).Ns b m := fun {b m} ⟨o, es, ep, e, d, r⟩ =>
   ⟨o, es, ep, base_of e (noA e (.inr fun n z => by rw [d] at z; cases z) fun z => by rw [z] at d; cases d), d, r⟩
  have hKb : K.In (hidT s₁.heap H) := fun b o e => base_of (KX b o e) (by
   cases q : H b with
   | none => rfl
   | some u =>
    rcases hA b u q with ⟨rfl, z, _⟩ | ⟨t, ht, rfl, _⟩
    ·rw [z] at e; cases e
    ·have e2 := KX _ _ e
     rw [(hT t ht).2] at e2; cases e2
     have h2 := List.all_eq_true.mp hnt _ (W.mem_of_lookupK e)
     exact absurd (show false = true from h2) Bool.false_ne_true)
  have hM : Mod K mg (hidT s₁.heap H) := ⟨hKb, nsK hns, ⟨mb, nsK hb, hbb⟩, let ⟨mc, h1, h2⟩ := hlim; ⟨mc, nsK h1, h2⟩, let ⟨b, o, a1, a2, a3, a4⟩ := hbm; ⟨b, o, a1, a2, base_of a3 (noA a3 (.inl fun z => by rw [a4.1] at z; simp at z) fun z => by rw [z] at a4; cases a4.1), a4⟩⟩
  have e0 : Env0 P w K mg (hidT s₁.heap H) callerA [] s₁ H := ⟨rfl, hM, fun b o e => of_hidT e, Nat.le_of_eq (hidT_size _ _), trivial, fun b hb => absurd (show b ∈ ([] : List Addr) from hb) (by simp), hok, .of_eq hg⟩
  refine codeAny_mono ((F _ hKb (nsK hns)).run callerA [] s₁ H ⟨[.ref a], []⟩ [.ref a] [.ref a] _ _ hr e0 (hbind s₁ (.ref a)) (.cons rfl .nil) (hsp H hS hP)) fun r s' h => ?_
  cases r with
  | error e => exact (hCX H e s' h).elim
  | ok fl =>
   cases fl with
   | next => exact False.elim h
   | brk => exact False.elim h
   | cont => exact False.elim h
   | ret u =>
    obtain ⟨v, H', os, bare, un, hok', r', q⟩ := h
    have q' : v = .bl true := q
    subst q'
    obtain rfl : u = Value.bool true := r'
    have old : ∀ b o, s₁.heap.get? b = some o → s'.heap.get? b = some o ∨ ∃ t ∈ tabs, b = t.2.1 ∧ o = W.tabObj #[] ∧ ∃ ps, s'.heap.get? b = some (W.tabObj ps) := fun b o e => by
     cases q : H b with
     | none => exact .inl (un.keep b o e q (by intro z; exact absurd (show b ∈ ([] : List Addr) from z) (by simp)) (by simp))
     | some u =>
      rcases hA b u q with ⟨rfl, _, xs, rfl⟩ | ⟨t, ht, rfl, rfl⟩
      ·obtain ⟨e1, _⟩ := hok _ _ q
       obtain ⟨e2, _⟩ := hok' _ _ (un.fix _ _ q trivial)
       rw [e] at e1; cases e1
       exact .inl e2
      ·obtain ⟨ps, e2, _⟩ := hok' _ _ (un.fix _ _ q trivial)
       have e3 := (hT t ht).2
       rw [e] at e3; cases e3
       exact .inr ⟨t, ht, rfl, rfl, ps, e2⟩
    refine ⟨rfl, ⟨fun b o e => ?_, fun b o e => ?_⟩, os, bare⟩
    ·rcases old b o e with z | ⟨t, ht, rfl, rfl, ps, z⟩
     ·exact .inl z
     ·exact .inr (.inl ⟨((hT t ht).1.tab (hT t ht).2).isCodeTable, rfl, #[], ps, rfl, by rw [Array.empty_append]; exact z⟩)
    ·rcases old b o e with z | ⟨t, ht, rfl, rfl, ps, z⟩
     ·exact ⟨o, z⟩
     ·exact ⟨_, z⟩
 let Ht : Hp := fun b => (tabs.find? fun q => q.2.1 == b).map fun q => HO.tbl q.2.2
 have HtP : ∀ q ∈ tabs, Ht q.2.1 = some (.tbl q.2.2) := fun q hq => by
  show Option.map _ (tabs.find? _) = _
  cases e : tabs.find? fun r => r.2.1 == q.2.1 with
  | none =>
   have := List.find?_eq_none.mp e q hq
   simp at this
  | some r =>
   have h1 := List.find?_some e
   have h2 := List.mem_of_find?_eq_some e
   have h3 : r.2.1 = q.2.1 := by simpa using h1
   have : r = q := by
    obtain ⟨i, hi⟩ := List.mem_iff_getElem?.mp h2
    obtain ⟨j, hj⟩ := List.mem_iff_getElem?.mp hq
    have ei : (tabs.map fun q => q.2.1)[i]? = some r.2.1 := by rw [List.getElem?_map, hi]; rfl
    have ej : (tabs.map fun q => q.2.1)[j]? = some r.2.1 := by rw [List.getElem?_map, hj, h3]; rfl
    obtain ⟨i1, i2⟩ := List.getElem?_eq_some_iff.mp ei
    obtain ⟨j1, j2⟩ := List.getElem?_eq_some_iff.mp ej
    have := (List.getElem_inj nd).mp (i2.trans j2.symm)
    subst this
    rw [hi] at hj; exact Option.some.inj hj
   subst this
   rfl
 have HtA : ∀ b u, Ht b = some u → ∃ q ∈ tabs, b = q.2.1 ∧ u = .tbl q.2.2 := fun b u e => by
  have e : Option.map (fun q => HO.tbl q.2.2) (tabs.find? fun q => q.2.1 == b) = some u := e
  obtain ⟨q, hq, rfl⟩ := Option.map_eq_some_iff.mp e
  have h1 := List.find?_some hq
  exact ⟨q, List.mem_of_find?_eq_some hq, by have : q.2.1 = b := by simpa using h1
                                             exact this.symm, rfl⟩
 have tok : ∀ {H : Hp} {q}, q ∈ tabs → ObjOk P w H s₁.heap q.2.1 (.tbl q.2.2) := fun {H q} hq => ⟨#[], (hT q hq).2, trivial, fun _ _ _ => .inl rfl⟩
 cases hk : K.lookup a with
 | some o =>
  have e := KX a o hk
  rw [ha] at e
  cases e
  refine core Ht (.inr ⟨_, vs.toArray, _, hk, rfl, rfl, rfl, by rw [List.size_toArray, lenV]; exact hl, by simpa using rv⟩) HtP (fun b u z => .inr (HtA b u z)) fun b u z => ?_
  obtain ⟨q, hq, rfl, rfl⟩ := HtA b u z
  exact tok hq
 | none =>
  refine core (fun b => if b = a then some (.frz { cls := .type "list", data := .seq vs.toArray } (.lst (ns.map V.int))) else Ht b) (.inl (.inr ⟨{ cls := .type "list", data := .seq vs.toArray }, if_pos rfl⟩)) (fun q hq => (if_neg (aP q hq)).trans (HtP q hq)) (fun b u z => ?_) fun b u z => ?_
  ·by_cases hb : b = a
   ·have z' := (if_pos hb).symm.trans z
    cases z'
    exact .inl ⟨hb, hk, _, rfl⟩
   ·exact .inr (HtA b u ((if_neg hb).symm.trans z))
  ·by_cases hb : b = a
   ·have z' := (if_pos hb).symm.trans z
    cases z'
    subst hb
    exact ⟨ha, by rw [List.length_map]; exact hl, vs, _, rv, ha⟩
   ·obtain ⟨q, hq, rfl, rfl⟩ := HtA b u ((if_neg hb).symm.trans z)
    exact tok hq
theorem walk_ofC {l : W.OpenLaw} {n k : Nat} {q : Program} {loose : List Str} {XP : (Str → Option Value) → Heap → Prop} {YP : World → Heap → Prop} {d : DefRec} {K : Params → W.Frag} {CX : CXT} {sp : W.Frag → Sp} {x : Str} {tabs : List (Addr × Addr × List (Pos × Str))}
  (hn : l.most = some n) (hn2 : n ≤ sizeLine) (hdf : d.params.defaults = []) (hr : Room k callerA)
  (hY : ∀ (w : World) (h : Heap), YP w h → (K w.params).In h)
  (hT : ∀ (w : World) (h : Heap), YP w h → (K w.params).In h → ∀ t ∈ tabs, W.CodeHd h t.1 t.2.1 ∧ h.get? t.2.1 = some (W.tabObj #[])) (hnt : ∀ w : World, W.noTabs (K w.params) = true) (nd : (tabs.map fun q => q.2.1).Nodup)
  (F : ∀ (w : World) (mg : Str → Option Value) (fa : Addr) (h : Heap), (K w.params).In h → h.Ns mainGlobals mg → mg d.name = some (.ref fa) →
   ∃ fd : FuncData, (∀ (s : Shared) (u : Value), BindsTo s fd ⟨[u], []⟩ [(x, u)]) ∧
    ∀ base : Heap, (K w.params).In base → base.Ns mainGlobals mg → FnOk l.prog w (K w.params) mg base CX k fa fd [x] (sp (K w.params)))
  (hsp : ∀ (K : W.Frag) (H : Hp) (a : Addr) (ns : List Int), ns.length ≤ n → SqL K H a (ns.map V.int) → (∀ q ∈ tabs, H q.2.1 = some (.tbl q.2.2)) → sp K [.ref a] H (fun v _ => v = .bl true) fun _ _ _ => False)
  (hCX : ∀ (H : Hp) (s : Shared) (e : Value) (s' : Shared), CX [] H s (fun _ _ _ => False) e s' → False) :
  W.WalkO q loose XP YP l.row.toRowW d [] (fun f vs => PySem.call f vs) := by
 refine Att.attach_call hn hdf fun w s₀ s₁ mg mb fa o pm cd doc a vs ns G Y ho hd hcd hmg hobj hints hlen hg => ?_
 have KX := hY w _ Y
 obtain ⟨fd, hb, hF⟩ := F w mg fa _ KX G.T.g hmg
 exact law_callC KX G.T.g G.T.b G.T.builtins G.T.nolimit G.T.bmain hg hobj hints (Nat.le_trans hlen hn2) hr (hT w _ Y KX) (hnt w) nd hF hb (fun H hS hP => hsp (K w.params) H a ns hlen hS hP) fun H e s' => hCX H s₁ e s'
end L2
namespace L2
open PySem PySem.Spec PyProof.Rows
structure CloScope (N ps fns : List Str) (sc : Scope) : Prop where
 kind : sc.kind = .function
 co : sc.isCoroutine = false
 gen : sc.isGenerator = false
 nd : N.Nodup
 pre : N.take (ps.length + fns.length) = ps ++ fns
 par : ∀ x ∈ ps, sc.names.lookup x = some .local
 fre : ∀ x ∈ fns, sc.names.lookup x = some .free
 nocell : ∀ y ∈ sc.names, y.2 ≠ .cell
def startC (N : List Str) (vs : List V) (fv : List (Str × V)) : St := vs.map some ++ fv.map (fun p => some p.2) ++ List.replicate (N.length - vs.length - fv.length) none
def cxClo (CX : CXT) (P : Program) (w : World) (K : W.Frag) (mg : Str → Option Value) (base : Heap) (N : List Str) (qual : Str) (scope : Scope) (f : Addr) (cd : Value) (clos : List (Str × Addr)) (A : Around) (outer : List Env) (s : Shared) (H : Hp) (E : XK) : Cx where
 prog := P
 w := w
 K := K
 mg := mg
 base := base
 A := A.deeper (W.envX qual scope s.heap.objs.size f cd clos)
 N := N
 s₀ := s
 H₀ := H
 env := W.envX qual scope s.heap.objs.size f cd clos
 outer := outer
 stack := W.envX qual scope s.heap.objs.size f cd clos :: outer
 ex := []
 calm := true
 cp := fun _ => false
 fn := fun _ => false
 pn := []
 xe := fun e s' => wpAny (model P w) (A.deeper (W.envX qual scope s.heap.objs.size f cd clos)) (leaving (W.envX qual scope s.heap.objs.size f cd clos) e) (fun _ s'' => CX outer H s E e s'') (fun e' s'' => CX outer H s E e' s'') s'
theorem lookup_nd {α : Type} : ∀ {l : List (Str × α)} {x : Str} {v : α}, (l.map (·.1)).Nodup → (x, v) ∈ l → l.lookup x = some v
 | [], _, _, _, m => by simp at m
 | (y, u) :: r, x, v, nd, m => by
  obtain ⟨n1, n2⟩ := List.nodup_cons.mp nd
  rw [List.lookup_cons]
  rcases List.mem_cons.mp m with e | m
  ·cases e; simp
  ·have : x ≠ y := fun e => n1 (by rw [← e]; exact List.mem_map_of_mem (f := (·.1)) m)
   rw [beq_false_of_ne this]
   exact lookup_nd n2 m
theorem zip_keys : ∀ {ps : List Str} {us : List Value}, us.length = ps.length → (ps.zip us).map (·.1) = ps
 | [], [], _ => rfl
 | p :: ps, u :: us, h => by simp [zip_keys (ps := ps) (us := us) (by simpa using h)]
 | [], _ :: _, h => by simp at h
 | _ :: _, [], h => by simp at h
theorem zip_rev_lookup {ps : List Str} {us : List Value} {i : Nat} {x : Str} {u : Value} (hl : us.length = ps.length) (nd : ps.Nodup) (h1 : ps[i]? = some x) (h2 : us[i]? = some u) : (ps.zip us).reverse.lookup x = some u := by
 refine lookup_nd ?_ (List.mem_reverse.mpr ?_)
 ·rw [List.map_reverse, zip_keys hl]
  exact List.pairwise_reverse.mpr (nd.imp fun h => Ne.symm h)
 ·refine List.mem_iff_getElem?.mpr ⟨i, ?_⟩
  rw [List.getElem?_zip_eq_some]
  exact ⟨h1, h2⟩
def codeOf (body : FuncBody) (env : Env) : Code := match body with
 | .stmts b => .func b env
 | .expr e => .expr e env
section
variable {CX : CXT} {P : Program} {w : World} {K : W.Frag} {mg : Str → Option Value} {base : Heap} {N ps fns : List Str} {nm qual : Str} {params : Arguments} {scope : Scope} {f : Addr} {cd : Value} {clos : List (Str × Addr)} {A : Around} {outer : List Env} {s : Shared} {H : Hp} {E : XK} {us : List Value} {vs : List V} {fv : List (Str × V)} {k : Nat}
theorem inv_startC {h' : Heap} {tk : Tok} (S : CloScope N ps fns scope) (hd : A.handled = none) (e0 : Env0 P w K mg base A outer s H) (hl : vs.length = ps.length) (r : Vals vs us) (hfv : fv.map (·.1) = fns)
  (hin : ∀ x y a, clos.lookup x = some a → clos.lookup y = some a → x = y) (hhas : ∀ x, (x, NameKind.free) ∈ scope.names → ∃ a, clos.lookup x = some a)
  (hval : ∀ x v, (x, v) ∈ fv → ∃ a, clos.lookup x = some a ∧ H a = some (.cel (some v))) (hall : ∀ x a, clos.lookup x = some a → ∃ v, H a = some (.cel (some v)))
  (hns : h'.Ns s.heap.objs.size fun x => (ps.zip us).reverse.lookup x) (hk : ∀ b o, s.heap.get? b = some o → h'.get? b = some o) :
  Inv (cxClo CX P w K mg base N qual scope f cd clos A outer s H E) [] (startC N vs fv) H { s with heap := h', toks := tk } := by
 have lenF : fv.length = fns.length := by rw [← hfv, List.length_map]
 have hpl : ps.length + fns.length ≤ N.length := by have := congrArg List.length S.pre; rw [List.length_take, List.length_append] at this; omega
 have noA : ∀ b : Addr, b ∉ (cxClo CX P w K mg base N qual scope f cd clos A outer s H E).ex := fun b z => absurd (show b ∈ ([] : List Addr) from z) (by simp)
 have lu : us.length = ps.length := by rw [← r.length]; exact hl
 have ndP : (ps ++ fns).Nodup := by rw [← S.pre]; exact S.nd.sublist (List.take_sublist _ _)
 refine ⟨⟨e0.mod, S.kind, rfl, rfl, Nat.le_refl _, fun y z c h1 h2 => hin y z c h1 h2, fun y hy => ?_, fun y c h _ => (Bool.false_ne_true h).elim, fun _ => hd, Around.frames_deeper e0.frames, .inr ⟨rfl, rfl⟩, fun b z => absurd z (noA b), e0.bs, e0.bsz, fun b _ _ => noA b, fun b z => absurd z (noA b), e0.funs, e0.frf, fun y c h _ => (Bool.false_ne_true h).elim, fun b hb => e0.hok.fresh hb⟩,
  rfl, e0.bare, Un.kept hk, ⟨_, hns, fun i y v h1 h2 h3 => ?_⟩, fun y c h => ?_, e0.hok.fresh (Nat.le_refl _), fun y c h => ?_, fun p hp => absurd (show p ∈ ([] : List (Addr × Obj)) from hp) (by simp), e0.hok.kept hk, ?_⟩
 ·have hy : scope.names.lookup y = some .cell ∨ scope.names.lookup y = some .free := hy
  rcases hy with hy | hy
  ·exact absurd rfl (S.nocell _ (PySem.mem_of_lookup hy))
  ·exact hhas y (PySem.mem_of_lookup hy)
 ·have h1 : N[i]? = some y := h1
  unfold startC at h2
  by_cases hi : i < vs.length
  ·rw [List.getElem?_append_left (by simp; omega), List.getElem?_append_left (by simpa using hi), List.getElem?_map] at h2
   cases e : vs[i]? with
   | none => rw [e] at h2; cases h2
   | some a =>
    rw [e] at h2; cases h2
    obtain ⟨u, hu, rv⟩ := r.get e
    have hp : ps[i]? = some y := by
     have : (N.take (ps.length + fns.length))[i]? = some y := by rw [List.getElem?_take_of_lt (by omega)]; exact h1
     rw [S.pre, List.getElem?_append_left (by omega)] at this
     exact this
    exact ⟨u, rv, .inl ⟨S.par y (List.mem_of_getElem? hp), zip_rev_lookup lu (ndP.sublist (List.sublist_append_left _ _)) hp hu⟩⟩
  ·by_cases hj : i < vs.length + fv.length
   ·rw [List.getElem?_append_left (by simp; omega), List.getElem?_append_right (by simpa using hi), List.length_map, List.getElem?_map] at h2
    cases e : fv[i - vs.length]? with
    | none => rw [e] at h2; cases h2
    | some p =>
     obtain ⟨z, v'⟩ := p
     rw [e] at h2; cases h2
     have hp : fns[i - vs.length]? = some y := by
      have : (N.take (ps.length + fns.length))[i]? = some y := by rw [List.getElem?_take_of_lt (by omega)]; exact h1
      rw [S.pre, List.getElem?_append_right (by omega), ← hl] at this
      exact this
     have hz : z = y := by
      rw [← hfv, List.getElem?_map, e] at hp
      exact Option.some.inj hp
     subst hz
     obtain ⟨a, q1, q2⟩ := hval _ _ (List.mem_of_getElem? e)
     obtain ⟨u, q3, q4⟩ := e0.hok a _ q2
     obtain ⟨y', rfl, r'⟩ := q4 v' rfl
     exact ⟨y', r', .inr ⟨.inr (S.fre z (List.mem_of_getElem? hp)), a, q1, q3.keeps hk⟩⟩
   ·rw [List.getElem?_append_right (by simp; omega), List.getElem?_replicate] at h2
    split at h2 <;> cases h2
 ·obtain ⟨v, q2⟩ := hall y c h
  obtain ⟨u, q3, _⟩ := e0.hok c _ q2
  exact ⟨u, q3.keeps hk⟩
 ·obtain ⟨v, q2⟩ := hall y c h
  exact .inr ⟨rfl, some v, q2, fun z => by cases z⟩
 ·unfold startC
  show _ = N.length
  simp only [List.length_append, List.length_map, List.length_replicate]
  omega
structure CloOk (P : Program) (w : World) (K : W.Frag) (mg : Str → Option Value) (base : Heap) (CX : CXT) (k : Nat) (nm qual : Str) (params : Arguments) (body : FuncBody) (scope : Scope) (ps : List Str) (sp : List (Str × V) → Sp) : Prop where
 len : ∀ fv vs H Q E, sp fv vs H Q E → vs.length = ps.length
 run : ∀ (A : Around) (outer : List Env) (s : Shared) (H : Hp) (f : Addr) (fv : List (Str × V)) (us : List Value) (vs : List V) (Q : VK) (E : XK), Room k A → Env0 P w K mg base A outer s H → CloAt H f nm qual params body scope fv → Vals vs us → sp fv vs H Q E →
  codeAny (model P w) A (.call (.ref f) ⟨us, []⟩) (CR CX outer P w H s Q E) s
theorem clo_entry {body : FuncBody} {sp : List (Str × V) → Sp} (S : CloScope N ps fns scope) (len : ∀ fv vs H Q E, sp fv vs H Q E → vs.length = ps.length ∧ fv.map (·.1) = fns)
  (hb : ∀ (clos : List (Str × Addr)) (doc pm cdv ctv : Value) (us : List Value), us.length = ps.length →
   bindArgs { name := nm, qualname := qual, params, body, scope, globals := mainGlobals, closure := clos, defaults := .none, kwdefaults := .none, doc, pyModule := pm, annotations := none, code := cdv, closureTuple := ctv, builtins := builtinsNs } ⟨us, []⟩ = pure (ps.zip us))
  (hgo : ∀ (A : Around) (outer : List Env) (s : Shared) (H : Hp) (f : Addr) (clos : List (Str × Addr)) (cdv : Value) (fv : List (Str × V)) (vs : List V) (Q : VK) (E : XK) (s1 : Shared), Room k (A.deeper (W.envX qual scope s.heap.objs.size f cdv clos)) → sp fv vs H Q E →
   Inv (cxClo CX P w K mg base N qual scope f cdv clos A outer s H E) [] (startC N vs fv) H s1 →
   codeAny (model P w) A (codeOf body (W.envX qual scope s.heap.objs.size f cdv clos)) (CR CX outer P w H s Q E) s1) :
  CloOk P w K mg base CX (k + 1) nm qual params body scope ps sp := by
 refine ⟨fun fv vs H Q E h => (len fv vs H Q E h).1, fun A outer s H f fv us vs Q E hr e0 hc r hsp => ?_⟩
 obtain ⟨clos, c, o, u, u', xs, t, doc, pm, ctv, h1, h2, h3, h4, h5, h6, h7, h8⟩ := hc
 obtain ⟨hl, hfv⟩ := len fv vs H Q E hsp
 have lu : us.length = ps.length := by rw [← r.length]; exact hl
 obtain ⟨hf, _⟩ := e0.hok f _ h1
 obtain ⟨hcO, _⟩ := e0.hok c _ h2
 have lim : s.heap.NoLimit := e0.mod.nolimit.keeps fun b o e => (e0.bs b o e).1
 have hloc : ∀ y ∈ ps.zip us, scope.names.lookup y.1 = some .local := fun ⟨n, v⟩ hy => S.par n (List.of_mem_zip hy).1
 have cr : s.heap.CodeRec (.ref c) qual := ⟨c, o, xs, t, rfl, hcO, h3, h4⟩
 have fin : wpAny (model P w) A.in1 (newFunctionEnv scope mainGlobals clos (ps.zip us) (qual ++ ".<locals>.") (some f) (.ref c) none builtinsNs)
   (fun env s₂ => s₂.heap.NoLimit ∧ codeAny (model P w) A (codeOf body env) (CR CX outer P w H s Q E) s₂) (fun e s' => CR CX outer P w H s Q E (.error e) s') s := by
  refine wpAny_newFunctionEnv S.nocell hloc (fun h' hns hsb => ?_) S.kind
  have hk : ∀ b o, s.heap.get? b = some o → h'.get? b = some o := fun b o e => hsb.extBut b o (Nat.ne_of_lt (Heap.lt_size e)) (Heap.get?_push_of_some _ e)
  exact ⟨lim.keeps hk, hgo A outer s H f clos (.ref c) fv vs Q E _ (hr.deeper _) hsp (inv_startC S hr.hd e0 hl r hfv h5 h6 h7 h8 hns hk)⟩
 cases body with
 | stmts b =>
  refine codeAny_call_function hr.depth hf rfl S.co S.gen rfl cr ?_
  rw [hb clos doc pm (.ref c) ctv us lu]
  exact wpAny_pure fin
 | expr e =>
  refine W.kla_callFunE hr.depth hf rfl S.co S.gen rfl cr ?_
  rw [hb clos doc pm (.ref c) ctv us lu]
  exact wpAny_pure fin
theorem clo_expr {e : Expr} {sp : List (Str × V) → Sp} (S : CloScope N ps fns scope) (len : ∀ fv vs H Q E, sp fv vs H Q E → vs.length = ps.length ∧ fv.map (·.1) = fns)
  (hb : ∀ (clos : List (Str × Addr)) (doc pm cdv ctv : Value) (us : List Value), us.length = ps.length →
   bindArgs { name := nm, qualname := qual, params, body := .expr e, scope, globals := mainGlobals, closure := clos, defaults := .none, kwdefaults := .none, doc, pyModule := pm, annotations := none, code := cdv, closureTuple := ctv, builtins := builtinsNs } ⟨us, []⟩ = pure (ps.zip us))
  (hbody : ∀ (A : Around) (outer : List Env) (s : Shared) (H : Hp) (f : Addr) (clos : List (Str × Addr)) (cdv : Value) (fv : List (Str × V)) (vs : List V) (Q : VK) (E : XK), Room k (A.deeper (W.envX qual scope s.heap.objs.size f cdv clos)) → sp fv vs H Q E →
   ∃ te, PE (cxClo CX0 P w K mg base N qual scope f cdv clos A outer s H E).nox e te ∧ te (startC N vs fv) H Q) : CloOk P w K mg base CX0 (k + 1) nm qual params (.expr e) scope ps sp :=
 clo_entry S len hb fun A outer s H f clos cdv fv vs Q E s1 hr hsp I => by
  obtain ⟨te, ht, hq⟩ := hbody A outer s H f clos cdv fv vs Q E hr hsp
  refine W.kla_codeExpr (wpAny_mono (ht [] s1 _ H Q (I.wish _) hq) (fun v s' ⟨x, H', J, rv, q⟩ => ?_) fun _ _ z => z.elim)
  exact ⟨x, H', J.os, J.bare, J.base, J.hok, rv, q⟩
end
section
variable {X : Cx} {CX : CXT} {k : Nat} {nm qual x : Str} {params : Arguments} {body : FuncBody} {scope : Scope} {ps : List Str} {sp : List (Str × V) → Sp} {p pos : Pos} {e : Expr} {es : List Expr} {t : TA} {E : XK} {i : Nat}
theorem run_clo {pins : List (Addr × Obj)} {σ : St} {H : Hp} {s : Shared} {Q : VK} {us : List Value} {vs : List V} {f : Addr} {fv : List (Str × V)} (F : CloOk X.prog X.w X.K X.mg X.base CX k nm qual params body scope ps sp) (hr : Room k X.A) (hx : Passes CX X E)
  (I : Inv X pins σ H s) (hc : CloAt H f nm qual params body scope fv) (r : Vals vs us) (h : sp fv vs H Q E) : wpAny (model X.prog X.w) X.A (call (.ref f) us) (EP X pins σ Q) X.xe s := by
 refine wpAny_call (codeAny_mono (F.run X.A X.stack s H f fv us vs Q E hr I.env0 hc r h) fun r s' hq => ?_)
 cases r with
 | error e => exact hx pins σ H s e s' I hq
 | ok fl =>
  cases fl with
  | ret u => exact I.after hq
  | next => exact False.elim hq
  | brk => exact False.elim hq
  | cont => exact False.elim hq
theorem CloAt.fn {pins : List (Addr × Obj)} {σ : St} {H : Hp} {s : Shared} {f : Addr} {fv : List (Str × V)} (hc : CloAt H f nm qual params body scope fv) (I : Inv X pins σ H s) : W.FnAt f s.heap := by
 obtain ⟨clos, c, o, u, u', xs, t, doc, pm, ctv, h1, _⟩ := hc
 obtain ⟨e, _⟩ := I.hok f _ h1
 exact ⟨_, _, _, _, e⟩
def tCallV (nm qual : Str) (params : Arguments) (body : FuncBody) (scope : Scope) (sp : List (Str × V) → Sp) (E : XK) (i : Nat) (t : TA) : TE := fun σ H Q => ∃ f fv, σ[i]? = some (some (.ref f)) ∧ CloAt H f nm qual params body scope fv ∧ t σ H fun vs H1 => CloAt H1 f nm qual params body scope fv ∧ sp fv vs H1 Q E
theorem pe_callV (i : Nat) (F : CloOk X.prog X.w X.K X.mg X.base CX k nm qual params body scope ps sp) (hr : Room k X.A) (hx : Passes CX X E) (ha : PA X (e :: es) t) (hN : X.N[i]? = some x := by rfl) (hv : Vis X.env.scope x := by first | exact Or.inl rfl | exact Or.inr (Or.inl rfl) | exact Or.inr (Or.inr rfl)) (hd : (x == ("__debug__" : Str)) = false := by decide)
  (hcd : (x == ("__classdict__" : Str)) = false := by decide) (he : starEach (e :: es) X.env = (false, eval e X.env) :: starEach es X.env := by rfl) (hpl : (backTo pos (starEach es X.env)).any (·.1) = false := by rfl) :
  PE X (.Call (.Name x p) (e :: es) [] pos) (tCallV nm qual params body scope sp E i t) := by
 intro pins s σ H Q I h
 obtain ⟨f, fv, e1, hc, h⟩ := h
 refine wpAny_Call_Name_kw (thn (pe_var (pos := p) hN hv hd hcd pins s σ H (fun v H1 => v = .ref f ∧ H1 = H) I ⟨_, e1, rfl, rfl⟩) fun u s1 ⟨v, H1, I1, r, q1, q2⟩ => ?_)
 subst q1; subst q2
 cases (show u = Value.ref f from r)
 refine W.callWith_F (hc.fn I1) (thn (ha pos pins s1 σ H1 _ I1 h) fun us s2 ⟨vs, H2, I2, r2, q⟩ => ⟨q.1.fn I2, ?_⟩) he hpl
 exact run_clo F hr hx I2 q.1 r2 q.2
end
theorem Inv.capd {X : Cx} {pins : List (Addr × Obj)} {σ : St} {H : Hp} {s : Shared} (hfn : ∀ x, X.fn x = true) (I : Inv X pins σ H s) (g : Str → Bool) : Inv { X with fn := g } pins σ H s := by
 have ok := I.ok
 refine ⟨⟨ok.mod, ok.kind, ok.glob, ok.blt, ok.above, ok.inj, ok.has, fun x c _ h => ok.cab x c (hfn x) h, ok.hd, ok.frames, ok.stk, ok.exf, ok.bs, ok.bsz, ok.noex, ok.exfs, ok.funs, ok.frf, ok.cab2, ok.hz⟩, I.os, I.bare, I.base, I.loc, I.cell, I.free, fun x c e => ?_, I.pin, I.hok, I.len⟩
 rcases I.freeC x c e with z | ⟨z, _⟩
 ·exact .inl z
 ·rw [hfn x] at z; cases z
abbrev capFn (cap : List Str) : Str → Bool := fun x => !(cap.contains x)
abbrev cxCap (cap : List Str) (CX : CXT) (P : Program) (w : World) (K : W.Frag) (mg : Str → Option Value) (base : Heap) (N : List Str) (qual : Str) (scope : Scope) (f : Addr) (cd : Value) (A : Around) (outer : List Env) (s : Shared) (H : Hp) (E : XK) : Cx :=
 { cxOf CX P w K mg base N qual scope f cd A outer s H E with fn := capFn cap }
theorem Fun.okC {P : Program} {w : World} {K : W.Frag} {mg : Str → Option Value} {base : Heap} {x qual : Str} {st : Stmt} {f c : Addr} {fd : FuncData} {N ps : List Str} {k : Nat} {sp : Sp} (cap : List Str) (F : Fun K x qual st f fd) (hc : fd.code = .ref c) (S : FnScope N ps (defScope st)) (len : ∀ vs H Q E, sp vs H Q E → vs.length = ps.length)
  (hbody : ∀ (A : Around) (outer : List Env) (s : Shared) (H : Hp) (vs : List V) (Q : VK) (E : XK), Room k (A.deeper (envOfC qual (defScope st) s.heap.objs.size f (.ref c))) → sp vs H Q E →
   ∃ t, PSs (cxCap cap CX0 P w K mg base N qual (defScope st) f (.ref c) A outer s H E).nox (defBody st) t ∧ t { nx := fun _ H' => Q .non H', rt := Q } (start N vs) H) : FnOk P w K mg base CX0 (k + 1) f fd ps sp := by
 obtain ⟨oc, od, kV, doc, pm, an, cdv, ct, osl, rfl, lk, hcd⟩ := F.ex
 obtain rfl : cdv = .ref c := hc
 refine ⟨len, fun A outer s H args us vs Q E hr e0 hb r hsp => ?_⟩
 have hl := len _ _ _ _ hsp
 have KX : K.In s.heap := e0.mod.kin.keeps fun b o e => (e0.bs b o e).1
 have lim : s.heap.NoLimit := e0.mod.nolimit.keeps fun b o e => (e0.bs b o e).1
 have hkind : ∀ y ∈ ps.zip us, (defScope st).names.lookup y.1 = some .local ∨ ((defScope st).names.lookup y.1 = some .cell ∧ ((cellsFrom (s.heap.objs.size + 1) (defScope st).names []).lookup y.1).isSome = true) := fun ⟨n, v⟩ hy => by
  rcases S.par n (List.of_mem_zip hy).1 with q | q
  ·exact .inl q
  ·exact .inr ⟨q, W.cellsFrom_some _ _ _ (.inl q)⟩
 refine codeAny_call_function hr.depth (KX _ _ lk) rfl S.co S.gen rfl (W.codeRec_of KX hcd) (hb _ _ _ _ ?_)
 refine wpAny_newFunctionEnv_cells S.kind hkind fun env he s1 x => ?_
 subst he
 refine ⟨lim.keeps x.toInCall.keep, codeAny_func ?_⟩
 obtain ⟨t, ht, hq⟩ := hbody A outer s H vs Q E (hr.deeper _) hsp
 have I : Inv (cxOf CX0 P w K mg base N qual (defScope st) f (.ref c) A outer s H E) [] (start N vs) H s1 := inv_start S hr.hd e0 hl r x
 have I' : Inv (cxCap cap CX0 P w K mg base N qual (defScope st) f (.ref c) A outer s H E).nox [] (start N vs) H s1 := (I.capd (fun _ => rfl) (capFn cap)).wish _
 refine wpAny_mono (ht [] s1 (start N vs) H _ I' hq) (fun fl s' hs => ?_) fun e s' hs => hs.elim
 have fin : ∀ {σ' : St} {H' : Hp} {v : V} {u : Value}, Inv (cxCap cap CX0 P w K mg base N qual (defScope st) f (.ref c) A outer s H E).nox [] σ' H' s' → RelV v u → Q v H' → CE outer P w H s Q u s' :=
  fun {σ' H' v u} J rv q => ⟨v, H', J.os, J.bare, J.base, J.hok, rv, q⟩
 cases fl with
 | ret u =>
  obtain ⟨v, σ', H', J, rv, q⟩ := hs
  exact fin J rv q
 | next =>
  obtain ⟨σ', H', J, q⟩ := hs
  exact fin (v := V.non) (u := Value.none) J rfl q
 | brk =>
  obtain ⟨_, _, _, q⟩ := hs
  exact False.elim q
 | cont =>
  obtain ⟨_, _, _, q⟩ := hs
  exact False.elim q
section
variable {X : Cx} {c P : Addr} {qs : List (Pos × Str)} {name q : Str} {params : Arguments} {scope : Scope} {pos : Pos} {fns : List Str}
theorem ce_lambda {e : Expr} (hcode : X.env.code = .ref c) (T : TabK X.K c P) (hql : X.env.qual ++ "<lambda>" = q) (hq : (pos, q) ∈ qs) (hu : (qs.all fun p => !((pos.line == p.1.line) && (pos.col == p.1.col)) || (p.2 == q)) = true)
  (hfr : (scope.names.filter fun y => y.2 == .free).map (·.1) = fns) (hdef : defaultsOf params X.env = ([], []) := by rfl) :
  PE X (.Lambda params e scope pos) (tFn X P qs fns "<lambda>" q params (.expr e) scope) := by
 subst hql
 exact pe_lambda hcode T hq hu hfr hdef
end
theorem tabK_of {K : W.Frag} {c P : Addr} (e : W.codeHdIn K c P = true) : TabK K c P := fun _ X => W.codeHd_of_K X e
end L2
namespace L2
open PySem PySem.Spec PyProof.Rows
theorem ct_pc {X : Cx} {a b : Expr} {pos : Pos} {op : CmpOp} {t : TE} (h : PC X op a b t) (h1 : behindInMarks op b = false) : PT X (.Compare a [op] [b] pos) (cB t) := by
 intro pins s σ H Q I hw
 refine wpAny_isTrue_Compare1 (thn (h pins s σ H _ I hw) fun v s1 h1 => thn h1 fun u s2 h2 => thn h2 fun c s3 ⟨x, H1, I1, r1, q1⟩ => ?_) h1
 obtain ⟨d, rfl, q⟩ := boolK_of q1
 cases r1
 exact wpAny_truthy_bool ⟨H1, I1, q⟩
end L2
namespace L2
open PySem PySem.Spec PyProof.Rows
end L2
namespace L2
open PySem PySem.W PyProof.Rows
structure STO (lt : Nat → Nat → Bool) (n : Nat) : Prop where
 irr : ∀ i, i < n → lt i i = false
 tr : ∀ i j k, i < n → j < n → k < n → lt i j = true → lt j k = true → lt i k = true
 tot : ∀ i j, i < n → j < n → i ≠ j → lt i j = true ∨ lt j i = true
def Wp {α : Type} (lt : Nat → Nat → Bool) (n : Nat) : KasT α → (α → Prop) → Prop
 | .ret a, Q => Q a
 | .ask i j k, Q => i < n ∧ j < n ∧ Wp lt n (k (lt i j)) Q
section
variable {lt : Nat → Nat → Bool} {n : Nat} {α β : Type}
theorem Wp.bind {f : α → KasT β} {Q : β → Prop} : ∀ {t : KasT α}, Wp lt n t (fun a => Wp lt n (f a) Q) → Wp lt n (t.bind f) Q
 | .ret _, h => h
 | .ask _ _ _, ⟨h1, h2, h⟩ => ⟨h1, h2, Wp.bind h⟩
theorem Wp.kas {cmp : Nat → Nat → (Bool → Shared → Prop) → Shared → Prop} {Q : α → Shared → Prop} {s : Shared} (hc : ∀ i j (C : Bool → Shared → Prop), i < n → j < n → C (lt i j) s → cmp i j C s) : ∀ {t : KasT α}, Wp lt n t (fun a => Q a s) → t.kasWp cmp Q s
 | .ret _, h => h
 | .ask i j k, ⟨h1, h2, h⟩ => hc i j _ h1 h2 (Wp.kas hc h)
theorem wp_mono {Q Q' : α → Prop} : ∀ {t : KasT α}, Wp lt n t Q → (∀ a, Q a → Q' a) → Wp lt n t Q'
 | .ret _, h, k => k _ h
 | .ask _ _ _, ⟨h1, h2, h⟩, k => ⟨h1, h2, wp_mono h k⟩
structure Pm (n : Nat) (p : Array Nat) : Prop where
 size : p.size = n
 perm : p.toList.Perm (List.range n)
abbrev g0 (p : Array Nat) (i : Nat) : Nat := p.getD i 0
theorem g0_eq (p : Array Nat) (i : Nat) : g0 p i = (p[i]?).getD 0 := by unfold g0; rw [Array.getD_eq_getD_getElem?]
theorem Pm.bd {p : Array Nat} (P : Pm n p) {i : Nat} (h : i < n) : g0 p i < n := by
 have hi : i < p.size := by rw [P.size]; exact h
 have e : g0 p i = p[i] := by rw [g0_eq, Array.getElem?_eq_getElem hi]; rfl
 rw [e]
 exact List.mem_range.mp (P.perm.mem_iff.mp (Array.mem_toList_iff.mpr (Array.getElem_mem hi)))
theorem Pm.inj {p : Array Nat} (P : Pm n p) {i j : Nat} (h : i < n) (h' : j < n) (ne : i ≠ j) : g0 p i ≠ g0 p j := by
 have nd : p.toList.Nodup := P.perm.nodup_iff.mpr List.nodup_range
 have hi : i < p.toList.length := by rw [Array.length_toList, P.size]; exact h
 have hj : j < p.toList.length := by rw [Array.length_toList, P.size]; exact h'
 have e : ∀ k (hk : k < p.toList.length), g0 p k = p.toList[k] := fun k hk => by
  rw [g0_eq, ← Array.getElem?_toList, List.getElem?_eq_getElem hk]; rfl
 rw [e i hi, e j hj]
 exact fun z => ne ((List.getElem_inj nd).mp z)
def Up (lt : Nat → Nat → Bool) (p : Array Nat) (m : Nat) : Prop := ∀ i j, i < j → j < m → lt (g0 p i) (g0 p j) = true
def Dn (lt : Nat → Nat → Bool) (p : Array Nat) (m : Nat) : Prop := ∀ i j, i < j → j < m → lt (g0 p j) (g0 p i) = true
theorem Up.snoc (S : STO lt n) {p : Array Nat} (P : Pm n p) {m : Nat} (hm : m < n) (h1 : 1 ≤ m) (U : Up lt p m) (h : lt (g0 p (m - 1)) (g0 p m) = true) : Up lt p (m + 1) := fun i j hij hj => by
 by_cases e : j = m
 ·subst e
  by_cases e2 : i = j - 1
  ·subst e2; exact h
  ·exact S.tr _ _ _ (P.bd (by omega)) (P.bd (by omega)) (P.bd hm) (U i (j - 1) (by omega) (by omega)) h
 ·exact U i j hij (by omega)
theorem Dn.snoc (S : STO lt n) {p : Array Nat} (P : Pm n p) {m : Nat} (hm : m < n) (h1 : 1 ≤ m) (U : Dn lt p m) (h : lt (g0 p m) (g0 p (m - 1)) = true) : Dn lt p (m + 1) := fun i j hij hj => by
 by_cases e : j = m
 ·subst e
  by_cases e2 : i = j - 1
  ·subst e2; exact h
  ·exact S.tr _ _ _ (P.bd hm) (P.bd (by omega)) (P.bd (by omega)) h (U i (j - 1) (by omega) (by omega))
 ·exact U i j hij (by omega)
theorem wp_asc (S : STO lt n) {p : Array Nat} (P : Pm n p) {Q : Nat → Prop} : ∀ (f m : Nat), 1 ≤ m → m + f ≤ n → Up lt p m → (∀ m', m ≤ m' → m' ≤ m + f → Up lt p m' → (m' < m + f → lt (g0 p m') (g0 p (m' - 1)) = true) → Q m') → Wp lt n (kas_asc p f m) Q
 | 0, m, _, _, U, h => h m (Nat.le_refl _) (Nat.le_refl _) U (fun z => absurd z (by omega))
 | f + 1, m, h1, hf, U, h => by
  refine ⟨P.bd (by omega), P.bd (by omega), ?_⟩
  cases e : lt (p.getD m 0) (p.getD (m - 1) 0) with
  | true => exact h m (Nat.le_refl _) (by omega) U fun _ => e
  | false =>
   have e2 : lt (g0 p (m - 1)) (g0 p m) = true := (S.tot _ _ (P.bd (by omega)) (P.bd (by omega)) (P.inj (by omega) (by omega) (by omega))).resolve_right (by rw [show lt (g0 p m) (g0 p (m - 1)) = false from e]; simp)
   exact wp_asc S P f (m + 1) (by omega) (by omega) (U.snoc S P (by omega) h1 e2) fun m' a1 a2 a3 a4 => h m' (by omega) (by omega) a3 fun z => a4 (by omega)
theorem wp_desc (S : STO lt n) {p : Array Nat} (P : Pm n p) {Q : Array Nat × Nat × Nat → Prop} : ∀ (f m : Nat), 2 ≤ m → m + f ≤ n → Dn lt p m → (∀ m', 2 ≤ m' → m' ≤ n → Dn lt p m' → Q (p, m', 0)) → Wp lt n (kas_desc f p m 0) Q
 | 0, m, _, hf, U, h => h m (by omega) (by omega) U
 | f + 1, m, h1, hf, U, h => by
  refine ⟨P.bd (by omega), P.bd (by omega), ?_⟩
  cases e : lt (p.getD m 0) (p.getD (m - 1) 0) with
  | true => exact wp_desc S P f (m + 1) (by omega) (by omega) (U.snoc S P (by omega) (by omega) e) h
  | false =>
   have e2 : lt (g0 p (m - 1)) (g0 p m) = true := (S.tot _ _ (P.bd (by omega)) (P.bd (by omega)) (P.inj (by omega) (by omega) (by omega))).resolve_right (by rw [show lt (g0 p m) (g0 p (m - 1)) = false from e]; simp)
   refine ⟨P.bd (by omega), P.bd (by omega), ?_⟩
   rw [show lt (p.getD (m - 1) 0) (p.getD m 0) = true from e2]
   exact h m (by omega) (by omega) U
theorem Pm.rev {p : Array Nat} (P : Pm n p) (i j : Nat) : Pm n (kas_rev p i j) := ⟨by unfold kas_rev; rw [mirror_size]; exact P.size, (Array.perm_iff_toList_perm.mp (mirror_perm p i j ((j - i) / 2))).trans P.perm⟩
theorem Dn.rev {p : Array Nat} (P : Pm n p) {m : Nat} (hm : m ≤ n) (U : Dn lt p m) : Up lt (kas_rev p 0 m) m := fun i j hij hj => by
 have e : ∀ k, k < m → g0 (kas_rev p 0 m) k = g0 p (m - 1 - k) := fun k hk => by
  rw [g0_eq, g0_eq]
  unfold kas_rev
  rw [getElem?_mirror_all (by rw [P.size]; exact hm), if_pos ⟨Nat.zero_le _, hk⟩]
  congr 2
  omega
 rw [e i (by omega), e j hj]
 exact U (m - 1 - j) (m - 1 - i) (by omega) (by omega)
theorem wp_tail3 (S : STO lt n) {p : Array Nat} (P : Pm n p) {m : Nat} (h1 : 1 ≤ m) (hm : m ≤ n) (U : Dn lt p m) : Wp lt n (kas_tail3 m n p) (fun r => Pm n r.2 ∧ 1 ≤ r.1 ∧ r.1 ≤ n ∧ Up lt r.2 r.1) :=
 Wp.bind (wp_asc S (P.rev 0 m) (n - m) m h1 (by omega) (U.rev P hm) fun m' a1 a2 a3 _ => ⟨P.rev 0 m, by show 1 ≤ m'; omega, by show m' ≤ n; omega, a3⟩)
theorem wp_count (S : STO lt n) {p : Array Nat} (P : Pm n p) (h2 : 2 ≤ n) : Wp lt n (kas_count n p) (fun r => Pm n r.2 ∧ 1 ≤ r.1 ∧ r.1 ≤ n ∧ Up lt r.2 r.1) := by
 refine Wp.bind (wp_asc S P (n - 1) 1 (Nat.le_refl _) (by omega) (fun i j h1 h2 => absurd h2 (by omega)) fun m a1 a2 a3 a4 => ?_)
 by_cases e : (m == n) = true
 ·rw [if_pos e]
  exact ⟨P, a1, by show m ≤ n; omega, a3⟩
 ·rw [if_neg e]
  have hmn : m < n := by
   have : m ≠ n := by simpa using e
   omega
  by_cases e2 : m > 1
  ·rw [if_pos e2]
   refine ⟨P.bd (by omega), P.bd (by omega), ?_⟩
   rw [show lt (p.getD 0 0) (p.getD (m - 1) 0) = true from a3 0 (m - 1) (by omega) (by omega)]
   exact ⟨P, a1, by show m ≤ n; omega, a3⟩
  ·rw [if_neg e2]
   have e3 : m = 1 := by omega
   subst e3
   refine Wp.bind (wp_desc S P (n - 2) 2 (Nat.le_refl _) (by omega) (fun i j h1 h2 => ?_) fun m' b1 b2 b3 => ?_)
   ·obtain rfl : j = 1 := by omega
    obtain rfl : i = 0 := by omega
    exact a4 (by omega)
   ·exact wp_tail3 S P (by show 1 ≤ m'; omega) b2 b3
theorem wp_place (S : STO lt n) {p : Array Nat} (P : Pm n p) {k : Nat} (hk : k < n) {Q : Nat → Prop} (h : ∀ l, l ≤ k → (∀ i, i < l → lt (g0 p i) (g0 p k) = true) → (∀ i, l ≤ i → i < k → lt (g0 p k) (g0 p i) = true) → Q l) (U : Up lt p k) :
  ∀ (f l r : Nat), l ≤ r → r ≤ k → r - l ≤ f → (∀ i, i < l → lt (g0 p i) (g0 p k) = true) → (∀ i, r ≤ i → i < k → lt (g0 p k) (g0 p i) = true) → Wp lt n (kas_place p k f l r) Q
 | 0, l, r, a1, a2, a3, b1, b2 => h l (by omega) b1 fun i h1 h2 => b2 i (by omega) h2
 | f + 1, l, r, a1, a2, a3, b1, b2 => by
  unfold kas_place
  by_cases e : l ≥ r
  ·rw [if_pos e]
   exact h l (by omega) b1 fun i h1 h2 => b2 i (by omega) h2
  ·rw [if_neg e]
   have hm1 : (l + r) / 2 < r := by omega
   have hm2 : l ≤ (l + r) / 2 := by omega
   refine ⟨P.bd hk, P.bd (by omega), ?_⟩
   cases e2 : lt (p.getD k 0) (p.getD ((l + r) / 2) 0) with
   | true =>
    refine wp_place S P hk h U f l ((l + r) / 2) hm2 (by omega) (by omega) b1 fun i h1 h2 => ?_
    by_cases e3 : i = (l + r) / 2
    ·subst e3; exact e2
    ·exact S.tr _ _ _ (P.bd hk) (P.bd (by omega)) (P.bd (by omega)) e2 (U ((l + r) / 2) i (by omega) h2)
   | false =>
    have e4 : lt (g0 p ((l + r) / 2)) (g0 p k) = true := (S.tot _ _ (P.bd (by omega)) (P.bd hk) (P.inj (by omega) hk (by omega))).resolve_right (by rw [show lt (g0 p k) (g0 p ((l + r) / 2)) = false from e2]; simp)
    refine wp_place S P hk h U f ((l + r) / 2 + 1) r (by omega) a2 (by omega) (fun i h1 => ?_) b2
    by_cases e3 : i = (l + r) / 2
    ·subst e3; exact e4
    ·exact S.tr _ _ _ (P.bd (by omega)) (P.bd (by omega)) (P.bd hk) (U i ((l + r) / 2) (by omega) (by omega)) e4
theorem Up.ins {p : Array Nat} (P : Pm n p) {k l : Nat} (hk : k < n) (hl : l ≤ k) (U : Up lt p k) (b1 : ∀ i, i < l → lt (g0 p i) (g0 p k) = true) (b2 : ∀ i, l ≤ i → i < k → lt (g0 p k) (g0 p i) = true) : Up lt (bubble p k (k - l)) (k + 1) := fun i j hij hj => by
 have e : ∀ x, g0 (bubble p k (k - l)) x = if x = l then g0 p k else if l < x ∧ x ≤ k then g0 p (x - 1) else g0 p x := fun x => by
  rw [g0_eq, getElem?_bubble (by rw [P.size]; exact hk) (k - l) (by omega), show k - (k - l) = l by omega]
  by_cases h1 : x = l
  ·rw [if_pos h1, if_pos h1, g0_eq]
  ·rw [if_neg h1, if_neg h1]
   by_cases h2 : l < x ∧ x ≤ k
   ·rw [if_pos h2, if_pos h2, g0_eq]
   ·rw [if_neg h2, if_neg h2, g0_eq]
 rw [e i, e j]
 by_cases hi : i = l
 ·rw [if_pos hi, if_neg (by omega), if_pos ⟨by omega, by omega⟩]
  exact b2 (j - 1) (by omega) (by omega)
 ·rw [if_neg hi]
  by_cases hj' : j = l
  ·rw [if_pos hj', if_neg (by omega)]
   exact b1 i (by omega)
  ·rw [if_neg hj']
   by_cases h1 : l < i ∧ i ≤ k
   ·rw [if_pos h1, if_pos ⟨by omega, by omega⟩]
    exact U (i - 1) (j - 1) (by omega) (by omega)
   ·rw [if_neg h1]
    by_cases h2 : l < j ∧ j ≤ k
    ·rw [if_pos h2]
     exact U i (j - 1) (by omega) (by omega)
    ·rw [if_neg h2]
     exact U i j hij (by omega)
theorem Pm.bub {p : Array Nat} (P : Pm n p) (k d : Nat) : Pm n (bubble p k d) := ⟨by rw [bubble_size]; exact P.size, (Array.perm_iff_toList_perm.mp (bubble_perm p k d)).trans P.perm⟩
theorem wp_bin (S : STO lt n) : ∀ (f : Nat) (p : Array Nat) (k : Nat), k + f = n → Pm n p → Up lt p k → Wp lt n (kas_bin f p k) (fun q => Pm n q ∧ Up lt q n)
 | 0, p, k, e, P, U => ⟨P, by rw [show n = k by omega]; exact U⟩
 | f + 1, p, k, e, P, U => by
  refine Wp.bind (wp_place S P (by omega) (fun l hl b1 b2 => ?_) U k 0 k (Nat.zero_le _) (Nat.le_refl _) (by omega) (fun i h => absurd h (by omega)) fun i h1 h2 => absurd h2 (by omega))
  exact wp_bin S f _ (k + 1) (by omega) (P.bub k (k - l)) (U.ins P (by omega) hl b1 b2)
theorem wp_sort (S : STO lt n) (h2 : 2 ≤ n) : Wp lt n (kas_sort n) (fun q => Pm n q ∧ Up lt q n) := by
 have P0 : Pm n (List.toArray (List.range n)) := ⟨by simp, by simp⟩
 refine Wp.bind ?_
 refine wp_mono (wp_count S P0 h2) fun r hr => ?_
 obtain ⟨P, a1, a2, U⟩ := hr
 by_cases e : r.1 < n
 ·rw [if_pos e, show max r.1 1 = r.1 by omega]
  exact wp_bin S (n - r.1) r.2 r.1 (by omega) P U
 ·rw [if_neg e]
  exact ⟨P, by rw [show n = r.1 by omega]; exact U⟩
end
end L2
namespace L2
open PySem PySem.Spec PyProof.Rows
section
variable {X : Cx}
theorem ps_dead {st : Stmt} : PS X st (fun _ _ _ => False) := fun _ _ _ _ _ _ q => q.elim
theorem vals_bools : ∀ {bs : List Bool} {us : List Value}, Vals (bs.map V.bl) us → us = bs.map Value.bool
 | [], [], _ => rfl
 | [], _ :: _, h => by cases h
 | _ :: _, [], h => by cases h
 | b :: bs, u :: us, h => by
  cases h with
  | cons h1 h2 =>
   rw [vals_bools h2]
   cases h1
   rfl
theorem range_all (bs : List Bool) (d : Bool) : (List.range bs.length).all (fun i => bs.getD i d) = bs.all id := by
 rw [Bool.eq_iff_iff, List.all_eq_true, List.all_eq_true]
 constructor
 ·intro h x hx
  obtain ⟨i, hi, rfl⟩ := List.mem_iff_getElem.mp hx
  have := h i (by simpa using hi)
  simpa [hi] using this
 ·intro h i hi
  have hi' : i < bs.length := by simpa using hi
  have := h bs[i] (List.getElem_mem hi')
  simpa [hi'] using this
def rAllB (K : W.Frag) (f : List Bool → Bool) : List V → Hp → VK → Prop := fun xs H Q => ∃ p bs, xs = [.ref p] ∧ SqL K H p (bs.map V.bl) ∧ Q (.bl (f bs)) H
theorem truth_bools {prog : Program} {w : World} {A : Around} (bs : List Bool) : TruthOf prog w A (fun i v => (bs.map Value.bool).toArray[i]? = some v) (fun i => bs.getD i true) := by
 intro i v s Q E hP hQ
 have e : v = .bool (bs.getD i true) := by
  simp only [List.getElem?_toArray, List.getElem?_map] at hP
  cases q : bs[i]? with
  | none => rw [q] at hP; cases hP
  | some b => rw [q] at hP; simp at hP; rw [← hP]; simp [List.getD, q]
 rw [e]
 exact wpAny_truthy_bool hQ
theorem call_allB (hc : X.calm = true) : CallR X (.builtin "all") (rAllB X.K fun bs => bs.all id) := by
 intro pins s σ H xs us Q I r h
 obtain ⟨p, bs, rfl, hq, q⟩ := h
 obtain ⟨u, rfl, rx⟩ := vals1 r
 cases rx
 obtain ⟨its, r', pl, hz⟩ := I.list hq
 have e := vals_bools r'
 subst e
 have hL := pl.isList
 have hlt : p < s.heap.objs.size := by obtain ⟨_, e, _⟩ := hL; exact Heap.lt_size e
 refine call_all_walk (wpAny_pyIter_list hL ⟨_, _, _, _, _, _, fun i => bs.getD i true, rfl, Walks.list (A := X.A.in1) (I.ok.hd hc) _ p (Nat.ne_of_lt hlt) (bs.map Value.bool).toArray, ⟨⟨_, Heap.get?_push_size _ rfl, rfl, rfl⟩, hL.push _⟩, truth_bools bs, fun h' tk hk => ?_⟩)
 refine ⟨.bl (bs.all id), H, I.kept (t' := tk) (fun b o e => hk b o (fun hb => ?_) (Heap.get?_push_of_some _ e)), ?_, q⟩
 ·exact absurd (Heap.lt_size e) (by rw [List.mem_singleton.mp hb]; exact Nat.lt_irrefl _)
 ·have e := range_all bs true
  simp only [List.size_toArray, List.length_map]
  rw [e]; rfl
end
end L2
namespace L2
open PySem PySem.Spec PyProof.Rows
section
variable {X : Cx} {pins : List (Addr × Obj)} {σ : St} {H : Hp} {s : Shared} {h' : Heap}
theorem Inv.turnLaid {t' : Nat} {ch : List Addr} {a : Addr} {o : HO} (I : Inv X pins σ H s) (k : ∀ b u, b ∉ ch → s.heap.get? b = some u → h'.get? b = some u) (hp : s.heap.objs.size ≤ a) (new : ObjOk X.prog X.w (upd H a o) h' a o)
  (hn : ∀ b ∈ ch, H b = none) (hl : ∀ b ∈ ch, b < s.heap.objs.size) (hch : ∀ b ∈ ch, (b ∈ X.ex ∨ X.s₀.heap.objs.size ≤ b) ∧ b ≠ X.env.locals ∧ (∀ x c, X.env.cells.lookup x = some c → c ≠ b) ∧ ∀ p ∈ X.pn ++ pins, p.1 ≠ b) :
  Inv X pins σ (upd H a o) { s with heap := h', toks := t' } := by
 have nit : ∀ b u, H b = some u → b ∉ ch := fun b u e z => by rw [hn b z] at e; cases e
 have fr := I.hok.fresh hp
 refine I.call' (s' := { s with heap := h', toks := t' }) (ch := ch) rfl ⟨fun b o q _ _ hx => k b o hx q, fun b o q _ _ hx => ⟨o.slots, k b o hx q⟩, fun b o q n _ => ?_, fun b o q hx => ⟨o, k b o hx q⟩, fun b u q _ => ?_⟩ (fun b u e => ?_) I.bare hch
 ·rw [upd_ne (Nat.ne_of_lt (Nat.lt_of_lt_of_le (Heap.lt_size q) hp))]; exact n
 ·rw [upd_ne (ne_of_none q fr)]; exact q
 ·by_cases hb : b = a
  ·subst hb; rw [upd_same] at e; cases e; exact new
  ·rw [upd_ne hb] at e
   refine (I.hok b u e).stay (fun c v hc q => k c v ?_ q) (fun c q => by rw [upd_ne (ne_of_none q fr)]; exact q) fun c xs q _ => by rw [upd_ne (ne_of_none q fr)]; exact q
   rcases hc with z | z
   ·rw [z]; exact nit b u e
   ·exact nit c _ z
end
def Ite (K : W.Frag) (a : Addr) : It :=
 ⟨fun i H => ∃ xs x, SqL K H a xs ∧ xs[i]? = some x, fun i H v H' => ∃ T x, v = .ref T ∧ H T = none ∧ H' = upd H T (.tup [.int i, x]) ∧ ∀ xs, SqL K H a xs → xs[i]? = some x, fun i H => ∃ xs, SqL K H a xs ∧ xs.length ≤ i⟩
theorem turn_enum {P : Program} {w : World} {K : W.Frag} {es : List Expr} {k : Nat} {pos : Pos} (a e it : Addr) (hne : e ≠ it) : Turn P w K (.Tuple es k pos) (Ite K a) [e, it] e (fun i h => (∃ old, IsEnum h e it (i : Nat) old) ∧ h.IsListIter it a i) where
 mem := by simp
 obj := fun i h st b hb => by
  obtain ⟨⟨old, he⟩, ⟨o, e1, c, d⟩⟩ := st
  rcases List.mem_cons.mp hb with z | z
  ·subst z
   exact ⟨_, he, fun v z => by cases z⟩
  ·rw [List.mem_singleton.mp z]
   exact ⟨o, e1, fun v z => by rw [d] at z; cases z⟩
 keep := fun i h h' st kk => by
  obtain ⟨⟨old, he⟩, hit⟩ := st
  exact ⟨⟨old, kk e (by simp) _ he⟩, hit.at fun o x => kk it (by simp) o x⟩
 item := by
  intro X hP hw hK hc i pins s σ H E I hf st hg
  subst hP hw hK
  obtain ⟨xs, x, hq, hx⟩ := hg
  obtain ⟨its, rv, p, hz⟩ := I.list hq
  obtain ⟨u, hu, ru⟩ := rv.get hx
  obtain ⟨⟨old, he⟩, hit⟩ := st
  have he' := Heap.lt_size he
  have hi' : it < s.heap.objs.size := by obtain ⟨o, q, _⟩ := hit; exact Heap.lt_size q
  refine wpAny_pyNext_enum_item he hit p.isList (x := u) (by simpa using hu) hne fun h' heo hit' hT hsz hk => ?_
  refine ⟨_, rfl, wpAny_letOwnedTupleGo_enum (s := { s with heap := h', toks := s.toks + 1 }) heo fun h2 he2 hs2 => ?_⟩
  have hT2 : h2.get? s.heap.objs.size = some { cls := .type "tuple", data := .seq #[.int i s.toks, u] } := (hs2.2 _ (Nat.ne_of_gt he')).trans hT
  have I2 : Inv X pins σ (upd H s.heap.objs.size (.tup [.int i, x])) { s with heap := h2, toks := s.toks + 1 } := by
   refine I.turnLaid (ch := [e, it]) (fun b o hb q => ?_) (Nat.le_refl _) ⟨by simp [sizeLine_eq], [.int i s.toks, u], .cons ⟨_, rfl⟩ (.cons ru .nil), ⟨_, hT2, rfl, _, rfl⟩⟩ (fun b hb => (hf b hb).1) (fun b hb => ?_) fun b hb => ?_
   ·have b1 : b ≠ e := fun z => hb (by simp [z])
    have b2 : b ≠ it := fun z => hb (by simp [z])
    exact (hs2.2 b b1).trans (hk b o b1 b2 q)
   ·rcases List.mem_cons.mp hb with z | z
    ·rw [z]; exact he'
    ·rw [List.mem_singleton.mp z]; exact hi'
   ·obtain ⟨f0, f1, f2, f3, f4, f5⟩ := hf b hb
    exact ⟨f3, f1, f4, f5⟩
  refine ⟨.ref s.heap.objs.size, _, I2, rfl, ⟨_, x, rfl, I.hok.fresh (Nat.le_refl _), rfl, fun ys hy => by rw [I.list_inj hy hq]; exact hx⟩, ⟨⟨u, by simpa using he2⟩, hit'.extBut hs2.extBut (Ne.symm hne)⟩, fun b hb => ?_⟩
  have hb' : b ≠ s.heap.objs.size := by
   rcases List.mem_cons.mp hb with z | z
   ·rw [z]; exact Nat.ne_of_lt he'
   ·rw [List.mem_singleton.mp z]; exact Nat.ne_of_lt hi'
  rw [upd_ne hb']
  exact (hf b hb).1
 done := by
  intro X hP hw hK hc i pins s σ H E I hf st hg
  subst hP hw hK
  obtain ⟨xs, hq, hx⟩ := hg
  obtain ⟨its, rv, p, hz⟩ := I.list hq
  obtain ⟨⟨old, he⟩, hit⟩ := st
  obtain ⟨f0, f1, f2, f3, f4, f5⟩ := hf it (by simp)
  have hl := rv.length
  exact wpAny_pyNext_enum_end (I.ok.hd hc) he hit p.isList (by simp; omega) fun h' eb => ⟨rfl, I.turned (t' := s.toks) (fun b o hb e => eb b o hb e) f0 f1 f3 f4 f5⟩
 self := fun _ _ _ _ _ st h => by
  obtain ⟨⟨old, he⟩, _⟩ := st
  exact wpAny_pyIter_enum he h
section
variable {X : Cx} {es : List Expr} {k : Nat} {tp : Pos}
def iEnum (K : W.Frag) (ta : TA) : TI := fun σ H R => ta σ H fun vs H1 => ∃ a, vs = [.ref a] ∧ (∃ xs, SqL K H1 a xs) ∧ R (Ite K a) H1
theorem pi_enum {l : Expr} {ta : TA} {p pos : Pos} (hg : Gl X "enumerate") (hm : X.mg "enumerate" = none) (ha : PA X [l] ta) (hs : starEach [l] X.env = [(false, eval l X.env)] := by rfl) : PI X (.Tuple es k tp) (.Call (.Name "enumerate" p) [l] [] pos) (iEnum X.K ta) := by
 intro pins s σ H R I h
 refine Call_ (ld_blt I hg hm bt_enumerate (PyProof.Rows.callWith_type1 (thn (ha pos pins s σ H _ I h) fun us s1 ⟨vs, H1, I1, r1, q1⟩ => ?_) hs rfl))
 obtain ⟨a, e, ⟨xs, hq⟩, q⟩ := q1
 subst e
 obtain ⟨u, rfl, ru⟩ := Vals.one r1
 cases ru
 obtain ⟨its, rv, pl, hz⟩ := I1.list hq
 refine call_enumerate_list pl.isList fun h' he hi hsz hk => wpAny_pyIter_enum (s := { s1 with heap := h' }) he ?_
 refine ⟨s1.heap.objs.size + 1, [s1.heap.objs.size + 1, s1.heap.objs.size], _, _, H1, rfl, I1.kept (t' := s1.toks) hk, turn_enum a _ _ (Nat.succ_ne_self _), ⟨⟨.none, by simpa using he⟩, hi⟩, fun b hb => ?_, q⟩
 rcases List.mem_cons.mp hb with z | z
 ·rw [z]; exact I1.fpOk (Nat.le_succ _) (I1.hok.fresh (Nat.le_succ _))
 ·rw [List.mem_singleton.mp z]; exact I1.fpOk (Nat.le_refl _) (I1.hok.fresh (Nat.le_refl _))
end
structure BlkOk2 (X : Cx) (scope : Scope) (x1 x2 : Str) (cap : List Nat) (ys : List Str) : Prop where
 kind : scope.kind = .function
 nocell : ∀ y ∈ scope.names, y.2 ≠ .cell
 locs : ∀ y ∈ scope.names, y.2 = .local → scope.names.lookup y.1 = some .local
 lx1 : scope.names.lookup x1 = some .local
 lx2 : scope.names.lookup x2 = some .local
 fr : ∀ y ∈ scope.names, y.2 = .free → X.env.kindOf y.1 = some .cell ∨ X.env.kindOf y.1 = some .free
 cap : CapOk X scope cap ys
 nd : (x1 :: x2 :: ys).Nodup
theorem blk2_mk {X : Cx} {scope : Scope} {x1 x2 : Str} {cap : List Nat} {ys : List Str} (kind : scope.kind = .function) (h1 : (scope.names.all fun y => !(y.2 == .cell)) = true) (h2 : (scope.names.all fun y => !(y.2 == .local) || scope.names.lookup y.1 == some .local) = true)
  (hx1 : scope.names.lookup x1 = some .local) (hx2 : scope.names.lookup x2 = some .local) (h3 : (scope.names.all fun y => !(y.2 == .free) || (X.env.kindOf y.1 == some .cell || X.env.kindOf y.1 == some .free)) = true) (hcap : CapOk X scope cap ys) (hnd : (x1 :: x2 :: ys).Nodup) : BlkOk2 X scope x1 x2 cap ys := by
 refine ⟨kind, fun y hy e => ?_, fun y hy e => ?_, hx1, hx2, fun y hy e => ?_, hcap, hnd⟩
 ·have := List.all_eq_true.mp h1 y hy
  rw [e] at this; exact absurd this (by decide)
 ·have := List.all_eq_true.mp h2 y hy
  rw [e] at this
  simpa using this
 ·have := List.all_eq_true.mp h3 y hy
  rw [e] at this
  simpa using this
section
variable {X : Cx} {scope : Scope} {x1 x2 : Str} {cap : List Nat} {ys : List Str}
theorem BlkOk2.clos (B : BlkOk2 X scope x1 x2 cap ys) (ok : X.Ok) : ∀ y ∈ scope.names, y.2 = .free → ∃ c, X.env.cells.lookup y.1 = some c := fun y hy e => ok.has y.1 (B.fr y hy e)
theorem BlkOk2.sub (B : BlkOk2 X scope x1 x2 cap ys) (ok : X.Ok) {z : Str} {c : Addr} (h : (clOf X.env.cells scope.names []).lookup z = some c) : X.env.cells.lookup z = some c := by
 rcases clOf_sub (B.clos ok) h with q | q
 ·simp at q
 ·exact q
theorem BlkOk2.start {pins : List (Addr × Obj)} {σ : St} {H₂ : Hp} {s₂ : Shared} {fp : List Addr} {h₁ : Heap} {tk : Nat} {C D : Addr} (B : BlkOk2 X scope x1 x2 cap ys) (I : Inv X pins σ H₂ s₂)
  (hf : ∀ b ∈ fp, FpOk X pins H₂ b) (hD : s₂.heap.objs.size ≤ D) (hC : s₂.heap.objs.size ≤ C) (hDC : D ≠ C) (hk : ∀ b o, s₂.heap.get? b = some o → h₁.get? b = some o)
  (hns : ∃ m, h₁.Ns C m) (hl : h₁.get? D = some { cls := .type "list", data := .seq ([] : List Value).toArray }) (hfp : ∀ b ∈ fp, b < s₂.heap.objs.size) :
  Inv (X.blk scope C (x1 :: x2 :: ys) s₂ H₂ fp) [] (none :: none :: capV σ cap) (upd H₂ D (.lst [])) { s₂ with heap := h₁, toks := tk } := by
 have ok := I.ok
 have freshC : H₂ C = none := I.hok.fresh hC
 have freshD : H₂ D = none := I.hok.fresh hD
 have lt : ∀ b o, s₂.heap.get? b = some o → b < s₂.heap.objs.size := fun b o e => Heap.lt_size e
 refine ⟨⟨ok.mod, B.kind, ok.glob, ok.blt, hC, fun y z c h1 h2 => ok.inj y z c (B.sub ok h1) (B.sub ok h2), fun y hy => ?_, fun y c h => (Bool.false_ne_true h).elim, ok.hd, ok.frames, .inl rfl, fun b hb => ⟨?_, fun y c h e => ?_⟩, I.bs, Nat.le_trans ok.bsz I.sz, fun b o e hb => ?_, fun b hb hs => ?_, I.stack, I.stkFree, fun y c h => (Bool.false_ne_true h).elim, fun b hb => I.hok.fresh hb⟩,
  rfl, I.bare, Un.laid hk hD freshD, ?_, fun y c h => ?_, ?_, fun y c h => ?_, fun p hp => ?_, ?_, ?_⟩
 ·have hy' : (relabel scope X.env).names.lookup y = some .cell ∨ (relabel scope X.env).names.lookup y = some .free := hy
  have m : (y, NameKind.free) ∈ scope.names := by
   rcases hy' with q | q
   ·exact relabel_of q (.inl rfl) B.nocell
   ·exact relabel_of q (.inr rfl) B.nocell
  exact clOf_mem (.inl m)
 ·exact Nat.ne_of_lt (Nat.lt_of_lt_of_le (hfp b hb) hC)
 ·exact (hf b hb).2.2.2.2.1 y c (B.sub ok h) e
 ·rcases (hf b hb).2.2.2.1 with q | q
  ·exact ok.noex b o e q
  ·exact absurd (Nat.lt_of_lt_of_le (Heap.lt_size (ok.bs b o e).1) q) (Nat.lt_irrefl _)
 ·rcases List.mem_cons.mp (I.stkSub b hs) with q | q
  ·exact (hf b hb).2.1 q
  ·exact (hf b hb).2.2.1 q
 ·obtain ⟨m, hm⟩ := hns
  refine ⟨m, hm, fun i y v e1 e2 e3 => ?_⟩
  cases i with
  | zero => simp at e2
  | succ i =>
   cases i with
   | zero => simp at e2
   | succ i =>
   obtain ⟨j, n1, n2, n3, n4⟩ := capOk_get (i := i) B.cap (by simpa [Cx.blk] using e1) (by simpa using e2)
   obtain ⟨m0, hn0, hl0⟩ := I.loc
   have vis : Vis X.env.scope y := by
    rcases n4 with q | q
    ·exact .inr (.inl q)
    ·exact .inr (.inr q)
   obtain ⟨u, ru, l⟩ := hl0 j y v n1 n2 vis
   refine ⟨u, ru, .inr ⟨relabel_free n3, ?_⟩⟩
   rcases l with ⟨k, _⟩ | ⟨_, c, ec, z⟩
   ·rw [k] at n4
    rcases n4 with q | q <;> cases q
   ·obtain ⟨c', ec'⟩ := clOf_mem (cells := X.env.cells) (cs := []) (.inl (lookup_mem_names n3))
    have := B.sub ok ec'
    rw [ec] at this; cases this
    obtain ⟨o, ho, hd⟩ := z
    exact ⟨c, ec', o, hk c o ho, hd⟩
 ·obtain ⟨v, o, ho, hd⟩ := I.cell y c (B.sub ok h)
  exact ⟨v, o, hk c o ho, hd⟩
 ·show upd H₂ D _ C = none
  rw [upd_ne (Ne.symm hDC)]; exact freshC
 ·obtain ⟨v, o, ho, hd⟩ := I.cell y c (B.sub ok h)
  rw [upd_ne (Nat.ne_of_lt (Nat.lt_of_lt_of_le (lt c o ho) hD))]
  refine (I.freeC y c (B.sub ok h)).imp id fun ⟨_, o', ho', hno⟩ => ⟨rfl, o', ho', fun z i v e1 k e2 => ?_⟩
  cases i with
  | zero => simp at e2
  | succ i =>
   cases i with
   | zero => simp at e2
   | succ i =>
   obtain ⟨j, n1, n2, n3, n4⟩ := capOk_get (i := i) B.cap (by simpa [Cx.blk] using e1) (by simpa using e2)
   exact hno z j v n1 n4 n2
 ·exact absurd (show p ∈ ([] : List (Addr × Obj)) from hp) (by simp)
 ·exact I.hok.laid hk hD ⟨Nat.zero_le _, [], 0, .nil, hl⟩
 ·simp [Cx.blk, capV, capOk_len B.cap]
theorem BlkOk2.back {pins : List (Addr × Obj)} {σ : St} {H₂ H' : Hp} {s₂ s' : Shared} {fp : List Addr} {C : Addr} {pl : List (Addr × Obj)} {σ' : St} (B : BlkOk2 X scope x1 x2 cap ys) (I : Inv X pins σ H₂ s₂)
  (hf : ∀ b ∈ fp, FpOk X pins H₂ b) (J : Inv (X.blk scope C (x1 :: x2 :: ys) s₂ H₂ fp) pl σ' H' s') : Inv X pins σ H' s' :=
 I.call' (ch := fp) J.os J.base J.hok J.bare fun b hb => by
  obtain ⟨f0, f1, f2, f3, f4, f5⟩ := hf b hb
  refine ⟨?_, f1, f4, f5⟩
  rcases f3 with q | q
  ·exact .inl q
  ·exact .inr q
theorem BlkOk2.far {pins : List (Addr × Obj)} {σ : St} {H₂ H' : Hp} {s₂ s' : Shared} {fp : List Addr} {C : Addr} {pl : List (Addr × Obj)} {σ' : St} (I : Inv X pins σ H₂ s₂)
  (hC : s₂.heap.objs.size ≤ C) (J : Inv (X.blk scope C (x1 :: x2 :: ys) s₂ H₂ fp) pl σ' H' s') :
  H' C = none ∧ C ≠ X.env.locals ∧ X.s₀.heap.objs.size ≤ C ∧ (∀ z c, X.env.cells.lookup z = some c → c ≠ C) ∧ ∀ p ∈ X.pn ++ pins, p.1 ≠ C := by
 refine ⟨J.free, Nat.ne_of_gt (Nat.lt_of_lt_of_le I.lt hC), Nat.le_trans I.sz hC, fun z c e q => ?_, fun p hp q => ?_⟩
 ·obtain ⟨v, w⟩ := I.cell z c e
  exact absurd (Nat.lt_of_lt_of_le w.lt (by rw [q]; exact hC)) (Nat.lt_irrefl _)
 ·exact absurd (Nat.lt_of_lt_of_le (Heap.lt_size (I.pin p hp).1) (by rw [q]; exact hC)) (Nat.lt_irrefl _)
end
@[irreducible] def CompAt2 (K : W.Frag) (J : It) (caps : St) (tt : TT) (te : TE) (Q : VK) (H2 : Hp) : Prop := ∀ D, H2 D = none → ∃ W : CW, (∃ m, W 0 m [] (upd H2 D (.lst []))) ∧
 ∀ i m acc H3, W i m acc H3 → H3 D = some (.lst acc) ∧ ((J.stop i H3 ∧ Q (.ref D) H3) ∨ (J.go i H3 ∧ acc.length < sizeLine ∧ ∀ v H4, J.yld i H3 v H4 → ∃ T v1 v2, v = .ref T ∧ SqT K H4 T [v1, v2] ∧ tt (some v1 :: some v2 :: caps) H4 fun b H5 =>
  (b = true → te (some v1 :: some v2 :: caps) H5 fun u H6 => H6 D = some (.lst acc) ∧ ∃ m', m' < m ∧ W (i + 1) m' (acc ++ [u]) (upd H6 D (.lst (acc ++ [u])))) ∧ (b = false → ∃ m', m' < m ∧ W (i + 1) m' acc H5)))
def tComp2 (K : W.Frag) (cap : List Nat) (wi : TI) (tt : TT) (te : TE) : TE := fun σ H Q => wi σ H fun J H2 => CompAt2 K J (capV σ cap) tt te Q H2
section
variable {X : Cx} {scope : Scope} {x1 x2 : Str} {cap : List Nat} {ys : List Str} {elt iter : Expr} {ifs : List Expr} {px1 px2 px pos : Pos} {kx : Nat} {wi : TI} {tt : TT} {te : TE}
theorem comp_block2 (B : BlkOk2 X scope x1 x2 cap ys) (hc : X.calm = true) (he : ∀ C s H fp, PE (X.blk scope C (x1 :: x2 :: ys) s H fp) elt te) (ht : ∀ C s H fp, CTs (X.blk scope C (x1 :: x2 :: ys) s H fp) ifs tt)
  {pins : List (Addr × Obj)} {σ : St} {s₂ : Shared} {Q : VK} {RR : Value → Addr → Result → Shared → Prop} {itv : Value} {E : Value → Shared → Prop}
  (hp : PIE X pins σ (.Tuple [.Name x1 px1, .Name x2 px2] kx px) (fun J H2 => CompAt2 X.K J (capV σ cap) tt te Q H2) itv s₂)
  (hR : ∀ (D C : Addr) (H' : Hp) (s' : Shared), Inv X pins σ H' s' → (∃ m, s'.heap.Ns C m) → H' C = none → C ≠ X.env.locals → X.s₀.heap.objs.size ≤ C → (∀ z c, X.env.cells.lookup z = some c → c ≠ C) → (∀ p ∈ X.pn ++ pins, p.1 ≠ C) → Q (.ref D) H' → RR (.ref D) C (.ok .next) s') :
  wpAny (model X.prog X.w) X.A (newList []) (fun acc s₃ => wpAny (model X.prog X.w) X.A (newFunctionEnv scope X.env.globals (clOf X.env.cells scope.names []) [] X.env.qual none .none (some X.env)) (fun cenv s₄ =>
   codeAny (model X.prog X.w) X.A (.compStart (.ListComp elt [⟨.Tuple [.Name x1 px1, .Name x2 px2] kx px, iter, ifs, 0⟩] scope pos) 0 itv acc { cenv with scope := relabel scope X.env }) (RR acc cenv.locals) s₄) E s₃) E s₂ := by
 obtain ⟨it, fp, tn, J, H2, e, I2, T, st2, f2, hw⟩ := hp
 subst e
 unfold CompAt2 at hw
 refine wpAny_newObj_type (wpAny_newFunctionEnv B.nocell (by intro y hy; simp at hy) (fun h₁ hns₁ hsb₁ => ?_) B.kind)
 dsimp only at hns₁ hsb₁ ⊢
 generalize hG : s₂.heap.push { cls := .type "list", dict := none, data := .seq ([] : List Value).toArray } = G at hns₁ hsb₁ ⊢
 have hsz : G.objs.size = s₂.heap.objs.size + 1 := by rw [← hG, Heap.size_push]
 have hCle : s₂.heap.objs.size ≤ G.objs.size := by omega
 have hDC : s₂.heap.objs.size ≠ G.objs.size := by omega
 have old : ∀ b o, s₂.heap.get? b = some o → h₁.get? b = some o := fun b o q => by
  have lt := Heap.lt_size q
  refine hsb₁.extBut b o (Nat.ne_of_lt (Nat.lt_of_lt_of_le lt hCle)) (Heap.get?_push_of_some _ ?_)
  rw [← hG]; exact Heap.get?_push_of_some _ q
 have accAt : h₁.get? s₂.heap.objs.size = some { cls := .type "list", data := .seq ([] : List Value).toArray } := by
  refine hsb₁.extBut _ _ hDC (Heap.get?_push_of_some _ ?_)
  rw [← hG]; exact Heap.get?_push_size _ rfl
 have hfp : ∀ b ∈ fp, b < s₂.heap.objs.size := fun b hb => by
  obtain ⟨o, ho, _⟩ := T.obj _ _ st2 b hb
  exact Heap.lt_size ho
 obtain ⟨W, ⟨m0, w0⟩, turn⟩ := hw s₂.heap.objs.size (I2.hok.fresh (Nat.le_refl _))
 generalize htk : s₂.toks + ([] : List (Str × Value)).length = tk
 have I0 := B.start (tk := tk) (C := G.objs.size) I2 f2 (Nat.le_refl _) hCle hDC old ⟨_, hns₁⟩ accAt hfp
 have st0 : tn 0 h₁ := T.keep _ _ _ st2 fun b hb o q => old b o q
 -- what stays true of the iterator's objects
 have f3 : ∀ {H' : Hp}, (∀ b ∈ fp, H' b = none) → ∀ b ∈ fp, FpOk (X.blk scope G.objs.size (x1 :: x2 :: ys) s₂ H2 fp) [] H' b := fun hn b hb => by
  obtain ⟨f0, f1, f2', f3', f4, f5⟩ := f2 b hb
  refine ⟨hn b hb, Nat.ne_of_lt (Nat.lt_of_lt_of_le (hfp b hb) hCle), fun hs => ?_, .inl hb, fun z c q => f4 z c (B.sub I2.ok q), fun p hp => absurd (show p ∈ ([] : List (Addr × Obj)) from hp) (by simp)⟩
  rcases List.mem_cons.mp (I2.stkSub b hs) with q | q
  ·exact f1 q
  ·exact f2' q
 have n0 : ∀ b ∈ fp, upd H2 s₂.heap.objs.size (.lst []) b = none := fun b hb => by
  rw [upd_ne (Nat.ne_of_lt (hfp b hb))]; exact (f2 b hb).1
 have loop : ∀ sx : Shared, sx = { s₂ with heap := h₁, toks := tk } →
   codeAny (model X.prog X.w) X.A (.compLoop (.ListComp elt [⟨.Tuple [.Name x1 px1, .Name x2 px2] kx px, iter, ifs, 0⟩] scope pos) 0 (.ref it) (.ref s₂.heap.objs.size) (compEnvC scope (clOf X.env.cells scope.names []) G.objs.size X.env)) (RR (.ref s₂.heap.objs.size) G.objs.size) sx := by
  rintro sx rfl
  refine comp_turns (fun n s' => ∃ i acc H', Inv (X.blk scope G.objs.size (x1 :: x2 :: ys) s₂ H2 fp) [] (none :: none :: capV σ cap) H' s' ∧ tn i s'.heap ∧ (∀ b ∈ fp, H' b = none) ∧ W i n acc H') ?_ m0 ⟨0, [], _, I0, st0, n0, w0⟩
  rintro n s3 ⟨i, acc, H3, I3, st3, fr3, w3⟩
  obtain ⟨hD3, alt⟩ := turn i n acc H3 w3
  rcases alt with ⟨stop, q⟩ | ⟨go, hlen, step⟩
  ·refine wpAny_mono (T.done (X.blk scope G.objs.size (x1 :: x2 :: ys) s₂ H2 fp) rfl rfl rfl hc i [] s3 _ H3 (fun _ _ => False) I3 (f3 fr3) st3 stop) (fun r s4 ⟨hr, I4⟩ => ?_) fun _ _ z => z.elim
   subst hr
   obtain ⟨g1, g2, g3, g4, g5⟩ := BlkOk2.far I2 hCle I4
   obtain ⟨m4, hm4, _⟩ := I4.loc
   exact hR _ _ H3 s4 (B.back I2 f2 I4) ⟨m4, hm4⟩ g1 g2 g3 g4 g5 q
  ·refine wpAny_mono (T.item (X.blk scope G.objs.size (x1 :: x2 :: ys) s₂ H2 fp) rfl rfl rfl hc i [] s3 _ H3 (fun _ _ => False) I3 (f3 fr3) st3 go) (fun r s4 ⟨u, hr, h4⟩ => ?_) fun _ _ z => z.elim
   subst hr
   refine wpAny_mono h4 (fun _ s4 ⟨v, H4, I4, rv, y4, st4, fr4⟩ => ?_) fun _ _ z => z.elim
   have I4' := I4.pinned (f3 fr4) (T.obj _ _ st4)
   obtain ⟨Tt, v1, v2, ev, hT4, step⟩ := step v H4 y4
   have G0 : PG (X.blk scope G.objs.size (x1 :: x2 :: ys) s₂ H2 fp) (.Tuple [.Name x1 px1, .Name x2 px2] kx px) (gTup X.K 2 (gCons (gName 0) (gCons (gName 1) gNil))) :=
    pg_tup hc (pgs_cons (pg_name (i := 0) B.nd rfl (.inl (lookup_relabel_local B.lx1)) (.inr (lookup_relabel_local B.lx1))) (pgs_cons (pg_name (i := 1) B.nd rfl (.inl (lookup_relabel_local B.lx2)) (.inr (lookup_relabel_local B.lx2))) pgs_nil))
   refine wpAny_mono (G0 _ s4 _ H4 v u (fun σ5 H5 => σ5 = some v1 :: some v2 :: capV σ cap ∧ H4 = H5) I4' rv ⟨Tt, [v1, v2], ev, hT4, rfl, ⟨v1, _, rfl, v2, _, rfl, ⟨rfl, rfl, rfl⟩⟩⟩) (fun _ s5 z5 => ?_) fun _ _ z => z.elim
   obtain ⟨σ5, H5, I5, e5, e6⟩ := z5
   subst e5 e6
   have I5' : Inv (X.blk scope G.objs.size (x1 :: x2 :: ys) s₂ H2 fp) ([] ++ pinsAt fp s4.heap) (some v1 :: some v2 :: capV σ cap) H4 s5 := I5
   refine wpAny_mono (ht _ _ _ _ _ s5 _ H4 _ I5' step) (fun ok s6 ⟨H6, I6, q6⟩ => ?_) fun _ _ z => z.elim
   have pinned : ∀ {σ7 : St} {H7 : Hp} {s7 : Shared}, Inv (X.blk scope G.objs.size (x1 :: x2 :: ys) s₂ H2 fp) ([] ++ pinsAt fp s4.heap) σ7 H7 s7 → tn (i + 1) s7.heap ∧ ∀ b ∈ fp, H7 b = none := fun {σ7 H7 s7} I7 => by
    refine ⟨T.keep _ _ _ st4 fun b hb o e => (I7.pin (b, o) (List.mem_append_right _ (List.mem_append_right _ (mem_pinsAt hb e)))).1, fun b hb => ?_⟩
    obtain ⟨o, e, d⟩ := T.obj _ _ st4 b hb
    exact (I7.pin (b, o) (List.mem_append_right _ (List.mem_append_right _ (mem_pinsAt hb e)))).2.1
   have weak : ∀ {H7 : Hp} {s7 : Shared}, Inv (X.blk scope G.objs.size (x1 :: x2 :: ys) s₂ H2 fp) ([] ++ pinsAt fp s4.heap) (some v1 :: some v2 :: capV σ cap) H7 s7 → Inv (X.blk scope G.objs.size (x1 :: x2 :: ys) s₂ H2 fp) [] (none :: none :: capV σ cap) H7 s7 := fun I7 =>
    (I7.unpinned (pins := [])).weak rfl fun j z e => by
     cases j with
     | zero => simp at e
     | succ j =>
      cases j with
      | zero => simp at e
      | succ j => simpa using e
   cases ok with
   | false =>
    rw [if_neg Bool.false_ne_true]
    obtain ⟨m', hm', w'⟩ := q6.2 rfl
    exact ⟨m', hm', i + 1, acc, H6, weak I6, (pinned I6).1, (pinned I6).2, w'⟩
   | true =>
    rw [if_pos rfl]
    refine wpAny_mono (he _ _ _ _ _ s6 _ H6 _ I6 (q6.1 rfl)) (fun y s7 ⟨z, H7, I7, rz, hD7, m', hm', w'⟩ => ?_) fun _ _ z => z.elim
    refine wpAny_mono (mt_append (X := X.blk scope G.objs.size (x1 :: x2 :: ys) s₂ H2 fp) _ s7 _ H7 (.ref s₂.heap.objs.size) [z] (.ref s₂.heap.objs.size) [y] (fun _ H8 => H8 = upd H7 s₂.heap.objs.size (.lst (acc ++ [z]))) I7 rfl (.cons rz .nil) ⟨_, acc, z, rfl, rfl, hD7, hlen, rfl⟩) (fun _ s8 ⟨_, H8, I8, _, e8⟩ => ?_) fun _ _ z => z.elim
    subst e8
    exact ⟨m', hm', i + 1, _, _, weak I8, (pinned I8).1, (pinned I8).2, w'⟩
 exact codeAny_compStart_list (loop _ rfl) (T.self _ 0 _ _ _ st0 (loop _ rfl))
theorem pe_comp2 (B : BlkOk2 X scope x1 x2 cap ys) (hc : X.calm = true) (hi : PI X (.Tuple [.Name x1 px1, .Name x2 px2] kx px) iter wi) (he : ∀ C s H fp, PE (X.blk scope C (x1 :: x2 :: ys) s H fp) elt te) (ht : ∀ C s H fp, CTs (X.blk scope C (x1 :: x2 :: ys) s H fp) ifs tt)
  (hs : ∀ x, foldedSetIterable iter X.env x = pure x := by intro _; rfl) : PE X (.ListComp elt [⟨.Tuple [.Name x1 px1, .Name x2 px2] kx px, iter, ifs, 0⟩] scope pos) (tComp2 X.K cap wi tt te) := by
 intro pins s σ H Q I h
 rw [eval_ListComp]
 refine wpAny_comprehension_free (use := none) rfl hs (closure_is (B.clos I.ok)) B.kind B.locs ?_
 refine thn (hi pins s σ H _ I h) fun v s1 h1 => thn h1 fun itv s2 h2 => ?_
 refine comp_block2 (Q := Q) (RR := fun acc C => compPost (model X.prog X.w) X.A X.xe none (EP X pins σ Q) acc C) B hc he ht h2 ?_
 rintro D C H' s' J ⟨m, hm⟩ g1 g2 g3 g4 g5 q
 exact ⟨m, hm, fun h' sb => ⟨.ref D, H', J.turned (t' := s'.toks) (fun b o hb e => (sb.2 b hb).trans e) g1 g2 (.inr g3) g4 g5, rfl, q⟩⟩
end
end L2
namespace L2
open PySem PySem.Spec PyProof.Rows
theorem paired_get1 {α β : Type} {F : α → β → Prop} : ∀ {as : List α} {bs : List β} {i : Nat} {a : α}, Paired F as bs → as[i]? = some a → ∃ b, bs[i]? = some b ∧ F a b
 | _, _, i, b, .nil, h => by simp at h
 | _, _, 0, b, .cons x xs, h => by simp at h; subst h; exact ⟨_, rfl, x⟩
 | _, _, i + 1, b, .cons x xs, h => by obtain ⟨a, h1, h2⟩ := paired_get1 (i := i) xs (by simpa using h); exact ⟨a, by simpa using h1, h2⟩
def del (H : Hp) (D : Addr) : Hp := fun b => if b = D then none else H b
theorem del_self {H : Hp} {D : Addr} : del H D D = none := by unfold del; rw [if_pos rfl]
theorem del_ne {H : Hp} {D b : Addr} (h : b ≠ D) : del H D b = H b := by unfold del; rw [if_neg h]
theorem del_same {H : Hp} {D : Addr} : Same (del H D) H := fun b u e => by
 by_cases h : b = D
 ·rw [h, del_self] at e; cases e
 ·rw [del_ne h] at e; exact e
theorem del_upd {H : Hp} {D : Addr} {o : HO} : del (upd H D o) D = del H D := by
 funext b
 by_cases h : b = D
 ·rw [h, del_self, del_self]
 ·rw [del_ne h, del_ne h, upd_ne h]
theorem del_none {H : Hp} {D : Addr} (h : H D = none) : del H D = H := by
 funext b
 by_cases e : b = D
 ·rw [e, del_self, h]
 ·rw [del_ne e]
theorem same_del {H H' : Hp} {D : Addr} (s : Same H H') : Same (del H D) (del H' D) := fun b u e => by
 by_cases h : b = D
 ·rw [h, del_self] at e; cases e
 ·rw [del_ne h] at e ⊢; exact s b u e
theorem comp_itsP {lo st : Int} {n : Nat} {te : TE} {caps : L2.St} {Q : VK} {H2 : Hp} (Pv : Nat → List V → Hp → Prop) (hn : n ≤ sizeLine) (h0 : Pv 0 [] H2)
  (hs : ∀ (i : Nat) acc H3 H3', i < n → Same H2 H3 → Same H3 H3' → Pv i acc H3 → ∀ R : VK, (∀ u H6', Same H3' H6' → (∀ H6, Same H3 H6 → (∀ p o, (H3' p = none ∨ ∀ ys, o ≠ HO.lst ys) → H6' p = some o → H6 p = some o) → Pv (i + 1) (acc ++ [u]) H6) → R u H6') → te (some (.int (lo + i * st)) :: caps) H3' R)
  (hd : ∀ D acc H H', H2 D = none → H D = none → Same H2 H → Same H H' → Pv n acc H → acc.length = n → H' D = some (.lst acc) → Q (.ref D) H') : CompAt (Its lo st n) caps tAll te Q H2 := by
 unfold CompAt
 intro D hD
 refine ⟨fun i m acc H3 => m = n - i ∧ i ≤ n ∧ acc.length = i ∧ H3 D = some (.lst acc) ∧ Same H2 (del H3 D) ∧ Pv i acc (del H3 D), ⟨n, by simp, Nat.zero_le _, rfl, upd_same, ?_, ?_⟩, ?_⟩
 ·rw [del_upd, del_none hD]; exact Same.refl _
 ·rw [del_upd, del_none hD]; exact h0
 rintro i m acc H3 ⟨rfl, hi, hacc, hD3, s3, p3⟩
 refine ⟨hD3, ?_⟩
 by_cases hlt : i < n
 ·refine .inr ⟨hlt, by omega, fun v H4 y => ?_⟩
  obtain ⟨e, y⟩ := y
  subst e y
  refine ⟨fun _ => ?_, fun z => by cases z⟩
  refine hs i acc _ _ hlt s3 del_same p3 _ fun u H6' s6 k => ⟨s6.at hD3, n - (i + 1), by omega, rfl, hlt, by simp [hacc], upd_same, ?_, ?_⟩
  ·rw [del_upd]; exact s3.trans (same_del s6)
  ·rw [del_upd]
   refine k _ (same_del s6) fun p o q1 q2 => ?_
   rw [del_ne (fun z => by
    rcases q1 with q1 | q1
    ·rw [z, hD3] at q1; cases q1
    ·rw [z, s6.at hD3] at q2; cases q2; exact q1 _ rfl)]
   exact q2
 ·have e : i = n := by omega
  subst e
  exact .inl ⟨Nat.le_refl _, hd D acc _ H3 hD del_self s3 del_same p3 hacc hD3⟩
theorem comp_listP {K : W.Frag} {l : Addr} {xs : List V} {te : TE} {caps : L2.St} {Q : VK} {H2 : Hp} (Pv : Nat → List V → Hp → Prop) (hl : SqL K H2 l xs) (hn : xs.length ≤ sizeLine) (h0 : Pv 0 [] H2)
  (hs : ∀ (i : Nat) x acc H3 H3', xs[i]? = some x → Same H2 H3 → Same H3 H3' → Pv i acc H3 → ∀ R : VK, (∀ u H6', Same H3' H6' → (∀ H6, Same H3 H6 → (∀ p o, (H3' p = none ∨ ∀ ys, o ≠ HO.lst ys) → H6' p = some o → H6 p = some o) → Pv (i + 1) (acc ++ [u]) H6) → R u H6') → te (some x :: caps) H3' R)
  (hd : ∀ D acc H H', H2 D = none → H D = none → Same H2 H → Same H H' → Pv xs.length acc H → acc.length = xs.length → H' D = some (.lst acc) → Q (.ref D) H') : CompAt (Itl K l) caps tAll te Q H2 := by
 unfold CompAt
 intro D hD
 refine ⟨fun i m acc H3 => m = xs.length - i ∧ i ≤ xs.length ∧ acc.length = i ∧ H3 D = some (.lst acc) ∧ Same H2 (del H3 D) ∧ Pv i acc (del H3 D), ⟨xs.length, by simp, Nat.zero_le _, rfl, upd_same, ?_, ?_⟩, ?_⟩
 ·rw [del_upd, del_none hD]; exact Same.refl _
 ·rw [del_upd, del_none hD]; exact h0
 rintro i m acc H3 ⟨rfl, hi, hacc, hD3, s3, p3⟩
 refine ⟨hD3, ?_⟩
 have q := (s3.trans del_same).seq hl
 by_cases hlt : i < xs.length
 ·have hx : xs[i]? = some xs[i] := List.getElem?_eq_getElem hlt
  refine .inr ⟨⟨xs, xs[i], q, hx⟩, by omega, fun v H4 y => ?_⟩
  obtain ⟨e, y⟩ := y
  have ev := y xs q
  rw [hx] at ev
  cases ev
  subst e
  refine ⟨fun _ => ?_, fun z => by cases z⟩
  refine hs i _ acc _ _ hx s3 del_same p3 _ fun u H6' s6 k => ⟨s6.at hD3, xs.length - (i + 1), by omega, rfl, hlt, by simp [hacc], upd_same, ?_, ?_⟩
  ·rw [del_upd]; exact s3.trans (same_del s6)
  ·rw [del_upd]
   refine k _ (same_del s6) fun p o q1 q2 => ?_
   rw [del_ne (fun z => by
    rcases q1 with q1 | q1
    ·rw [z, hD3] at q1; cases q1
    ·rw [z, s6.at hD3] at q2; cases q2; exact q1 _ rfl)]
   exact q2
 ·have e : i = xs.length := by omega
  subst e
  exact .inl ⟨⟨xs, q, Nat.le_refl _⟩, hd D acc _ H3 hD del_self s3 del_same p3 hacc hD3⟩
theorem comp_tupP {K : W.Frag} {l : Addr} {xs : List V} {te : TE} {caps : L2.St} {Q : VK} {H2 : Hp} (Pv : Nat → List V → Hp → Prop) (hl : SqT K H2 l xs) (hn : xs.length ≤ sizeLine) (h0 : Pv 0 [] H2)
  (hs : ∀ (i : Nat) x acc H3 H3', xs[i]? = some x → Same H2 H3 → Same H3 H3' → Pv i acc H3 → ∀ R : VK, (∀ u H6', Same H3' H6' → (∀ H6, Same H3 H6 → (∀ p o, (H3' p = none ∨ ∀ ys, o ≠ HO.lst ys) → H6' p = some o → H6 p = some o) → Pv (i + 1) (acc ++ [u]) H6) → R u H6') → te (some x :: caps) H3' R)
  (hd : ∀ D acc H H', H2 D = none → H D = none → Same H2 H → Same H H' → Pv xs.length acc H → acc.length = xs.length → H' D = some (.lst acc) → Q (.ref D) H') : CompAt (Itt K l) caps tAll te Q H2 := by
 unfold CompAt
 intro D hD
 refine ⟨fun i m acc H3 => m = xs.length - i ∧ i ≤ xs.length ∧ acc.length = i ∧ H3 D = some (.lst acc) ∧ Same H2 (del H3 D) ∧ Pv i acc (del H3 D), ⟨xs.length, by simp, Nat.zero_le _, rfl, upd_same, ?_, ?_⟩, ?_⟩
 ·rw [del_upd, del_none hD]; exact Same.refl _
 ·rw [del_upd, del_none hD]; exact h0
 rintro i m acc H3 ⟨rfl, hi, hacc, hD3, s3, p3⟩
 refine ⟨hD3, ?_⟩
 have q := (s3.trans del_same).seqT hl
 by_cases hlt : i < xs.length
 ·have hx : xs[i]? = some xs[i] := List.getElem?_eq_getElem hlt
  refine .inr ⟨⟨xs, xs[i], q, hx⟩, by omega, fun v H4 y => ?_⟩
  obtain ⟨e, y⟩ := y
  have ev := y xs q
  rw [hx] at ev
  cases ev
  subst e
  refine ⟨fun _ => ?_, fun z => by cases z⟩
  refine hs i _ acc _ _ hx s3 del_same p3 _ fun u H6' s6 k => ⟨s6.at hD3, xs.length - (i + 1), by omega, rfl, hlt, by simp [hacc], upd_same, ?_, ?_⟩
  ·rw [del_upd]; exact s3.trans (same_del s6)
  ·rw [del_upd]
   refine k _ (same_del s6) fun p o q1 q2 => ?_
   rw [del_ne (fun z => by
    rcases q1 with q1 | q1
    ·rw [z, hD3] at q1; cases q1
    ·rw [z, s6.at hD3] at q2; cases q2; exact q1 _ rfl)]
   exact q2
 ·have e : i = xs.length := by omega
  subst e
  exact .inl ⟨⟨xs, q, Nat.le_refl _⟩, hd D acc _ H3 hD del_self s3 del_same p3 hacc hD3⟩
theorem comp_listF {K : W.Frag} {l : Addr} {xs : List V} {tt : TT} {te : TE} {caps : L2.St} {Q : VK} {H2 : Hp} (p : V → Bool) (f : V → V) (hl : SqL K H2 l xs) (hn : xs.length < sizeLine)
  (ht : ∀ (x : V) (H3 : Hp), x ∈ xs → Same H2 H3 → ∀ R : Bool → Hp → Prop, (∀ H6, Same H3 H6 → R (p x) H6) → tt (some x :: caps) H3 R)
  (hs : ∀ (x : V) (H3 : Hp), x ∈ xs → p x = true → Same H2 H3 → ∀ R : VK, (∀ H6, Same H3 H6 → R (f x) H6) → te (some x :: caps) H3 R)
  (hd : ∀ D H', H2 D = none → Same H2 H' → H' D = some (.lst ((xs.filter p).map f)) → Q (.ref D) H') : CompAt (Itl K l) caps tt te Q H2 := by
 unfold CompAt
 intro D hD
 refine ⟨fun i m acc H3 => m = xs.length - i ∧ i ≤ xs.length ∧ acc = ((xs.take i).filter p).map f ∧ H3 D = some (.lst acc) ∧ Same H2 H3, ⟨xs.length, by simp, Nat.zero_le _, rfl, upd_same, Same.new hD⟩, ?_⟩
 rintro i m acc H3 ⟨rfl, hi, rfl, hD3, s3⟩
 refine ⟨hD3, ?_⟩
 have q := s3.seq hl
 by_cases hlt : i < xs.length
 ·have hx : xs[i]? = some xs[i] := List.getElem?_eq_getElem hlt
  have hle : (((xs.take i).filter p).map f).length < sizeLine := by
   rw [List.length_map]
   refine Nat.lt_of_le_of_lt (List.length_filter_le _ _) ?_
   rw [List.length_take]; omega
  have et : xs.take (i + 1) = xs.take i ++ [xs[i]] := by rw [List.take_succ, hx]; rfl
  refine .inr ⟨⟨xs, xs[i], q, hx⟩, hle, fun v H4 y => ?_⟩
  obtain ⟨e, y⟩ := y
  have ev := y xs q
  rw [hx] at ev
  cases ev
  subst e
  refine ht _ _ (List.getElem_mem hlt) s3 _ fun H5 s5 => ⟨fun hp => ?_, fun hp => ?_⟩
  ·refine hs _ _ (List.getElem_mem hlt) hp (s3.trans s5) _ fun H6 s6 => ⟨s6.at (s5.at hD3), xs.length - (i + 1), by omega, rfl, hlt, ?_, upd_same, (s3.trans (s5.trans s6)).put hD⟩
   rw [et, List.filter_append, List.map_append]
   simp [hp]
  ·refine ⟨xs.length - (i + 1), by omega, rfl, hlt, ?_, s5.at hD3, s3.trans s5⟩
   rw [et, List.filter_append, List.map_append]
   simp [hp]
 ·have e : i = xs.length := by omega
  subst e
  rw [List.take_length] at hD3 ⊢
  exact .inl ⟨⟨xs, q, Nat.le_refl _⟩, hd D H3 hD s3 hD3⟩
theorem deq_same {K : W.Frag} {f : Bool → Bool} {x y : V} {H : Hp} {Q : VK} {d : PyData} (hx : Rp K H x d) (hy : Rp K H y d) (hd : SeqAt.shaped d = true) (q : Q (.bl (f true)) H) : rDeq K f x y H Q :=
 ⟨d, d, hx, hy, hd, hd, by rw [PySem.SeqAt.eqv_refl d (SeqAt.canLay_of_shaped hd)]; exact q⟩
end L2
namespace L2
open PySem PySem.Spec PyProof.Rows
section
variable {X : Cx} {K : W.Frag}
theorem ix_listK (e : X.K = K) : IxR X (rIxL K) := e ▸ ix_list
theorem ix_tupK (e : X.K = K) : IxR X (rIxT K) := e ▸ ix_tup
theorem sl_listK (e : X.K = K) : SlR X (rSlL K) := e ▸ sl_list
theorem isiK (e : X.K = K) : CallR X (.builtin "isinstance") (rIsi K) := e ▸ call_isi
theorem deqK (e : X.K = K) (hu : X.A.units + 64 < cLine) : OpR X (compareOp .Eq) (rDeq K fun b => b) := e ▸ o_deq hu
theorem dneK (e : X.K = K) (hu : X.A.units + 64 < cLine) : OpR X (compareOp .NotEq) (rDeq K fun b => !b) := e ▸ o_dne hu
end
end L2
namespace L2
open PySem PySem.Spec PyProof.Rows
theorem cutV_ints (es : List Int) (lo hi : Option Int) : cutV (es.map V.int) lo hi = ((es.drop (HT.sIx es.length 0 lo)).take (HT.sIx es.length es.length hi - HT.sIx es.length 0 lo)).map V.int := by
 unfold cutV
 rw [List.length_map, ← List.map_drop, ← List.map_take]
end L2
namespace L2
open PySem PySem.Spec PyProof.Rows
theorem sIx_nn {n d : Nat} {i : Int} (h0 : 0 ≤ i) : HT.sIx n d (some i) = min i.toNat n := by
 show (if i < 0 then (i + (n : Int)).toNat else min i.toNat n) = _
 rw [if_neg (by omega)]
end L2
namespace L2
open PySem PySem.Spec PyProof.Rows
section
variable {X : Cx}
end
def forBody : Stmt → List Stmt
 | .For _ _ b _ _ => b
 | _ => []
def callArg (i : Nat) : Expr → Expr
 | .Call _ as _ _ => as.getD i (.Constant .none 0 ⟨0, 0, 0, 0⟩)
 | _ => .Constant .none 0 ⟨0, 0, 0, 0⟩
def lamArgs : Expr → Arguments
 | .Lambda a _ _ _ => a
 | _ => defArgs (.Pass ⟨0, 0, 0, 0⟩)
def lamBody : Expr → Expr
 | .Lambda _ b _ _ => b
 | e => e
def lamScope : Expr → Scope
 | .Lambda _ _ s _ => s
 | _ => defScope (.Pass ⟨0, 0, 0, 0⟩)
theorem atI_in {xs : List Int} {x v : Int} (h0 : 0 ≤ x) (h : xs[x.toNat]? = some v) : atI (xs.map V.int) x = some (.int v) := by
 have := atI_nat (xs := xs.map V.int) (j := x.toNat) (v := .int v) (by rw [List.getElem?_map, h]; rfl)
 rwa [Int.toNat_of_nonneg h0] at this
theorem ixN_in {n : Nat} {x : Int} (h0 : 0 ≤ x) (h : x < n) : ixN n x = some x.toNat := by
 unfold ixN
 rw [if_pos h0, if_pos h]
end L2
namespace PySem
open Sem (wp)
open PyProof.Rows
namespace F
end F
section
variable {prog : Program} {w : World} {A : Around} {E : Value → Shared → Prop} {s : Shared}
end
end PySem
namespace L2
open PySem PySem.Spec PyProof.Rows
section
variable {X : Cx}
end
end L2
namespace L2
open PySem PySem.Spec PyProof.Rows
section
variable {X : Cx} {K : W.Frag}
theorem o_shr : OpR X (binaryOp .RShift) (kI (fun _ j => 0 ≤ j) fun i j => .int (i / 2 ^ j.toNat)) := op_shr.imp fun _ _ _ _ => kI_imp
end
end L2
namespace L2
open PySem PySem.Spec PyProof.Rows
theorem pss_dead {X : Cx} {sts : List Stmt} : PSs X sts (fun _ _ _ => False) := fun _ _ _ _ _ _ q => q.elim
theorem whileAt_inv {c : TT} {tb : TS} {D : Ends} {σ : St} {H : Hp} (Pv : Nat → St → Hp → Prop) {m : Nat} (h0 : Pv m σ H)
  (hs : ∀ m σ H, Pv m σ H → c σ H fun b H1 => (b = true → ∃ N : St → Hp → Prop, (∀ σ' H', N σ' H' → ∃ m', m' < m ∧ Pv m' σ' H') ∧ tb { D with nx := N, ct := N, bk := D.nx } σ H1) ∧ (b = false → D.nx σ H1)) : WhileAt c tb D σ H := by
 unfold WhileAt
 exact ⟨Pv, ⟨m, h0⟩, hs⟩
end L2
namespace L2
open PySem PySem.Spec PyProof.Rows PySem.W
def bstIts : Option (Int × Tok) → Array Value
 | none => #[]
 | some (m, t) => #[.int m t, .int m t]
def BstOf (f : Nat → Int) (j : Nat) : Option (Int × Tok) → Prop
 | none => j = 0
 | some (m, _) => (∃ i, i < j ∧ f i = m) ∧ ∀ i, i < j → f i ≤ m
def MaxOut (f : Nat → Int) (n : Nat) (d v : Value) : Prop := (n = 0 → v = d) ∧ (0 < n → ∃ m t, v = .int m t ∧ (∃ i, i < n ∧ f i = m) ∧ ∀ i, i < n → f i ≤ m)
theorem mxd_args (a v : Value) : argsOk "max" ⟨[a], [(Str.ofString "default", v)]⟩ := by unfold argsOk; kernel_rfl
section
variable {prog : Program} {w : World} {A : Around} {R : Result → Shared → Prop} {I : Addr} {fp wr : List Addr} {n : Nat} {P : Nat → Value → Prop} {St : Nat → Heap → Prop}
theorem mxd_loop (W : Walks prog w A.in1 I fp wr n P St) (f : Nat → Int) (hP : ∀ i v, P i v → ∃ t, v = .int (f i) t) (S : Addr) (hSf : S ∉ fp) (d : Value) : ∀ (k j : Nat) (s : Shared) (b : Option (Int × Tok)) (c : Nat), n - j = k → j ≤ n → St j s.heap →
  s.heap.get? S = some { cls := .type "list", dict := none, data := .seq (bstIts b) c, slots := #[] } → BstOf f j b →
  (∀ v h' tk, MaxOut f n d v → (∀ b o, b ∉ wr → b ≠ S → s.heap.get? b = some o → h'.get? b = some o) → R (.ok (.ret v)) { s with heap := h', toks := tk }) →
  codeAny (model prog w) A (.builtin "max.loop" ⟨[.ref I, .none, .ref S], [(Str.ofString "default", d)]⟩) R s
 | 0, j, s, b, c, hk, hj, hst, hS, hb, hR => by
  have hin : j = n := by omega
  subst hin
  have hSw : S ∉ wr := fun h => hSf (W.sub _ h)
  refine codeAny_builtin F.entry_max_loop ?_
  rw [Around.under_plainId F.plain_max_loop _]
  show wpAny _ A.in1 (seqItems? (.ref S) >>= _) _ _ s
  refine wpAny_bind (wpAny_seqItems hS rfl ?_)
  show wpAny _ A.in1 (tryCatch (pyNext (.ref I)) _ >>= _) _ _ s
  refine wpAny_bind (wpAny_tryCatch (W.done s _ _ hst fun h' tk hk' => ?_))
  have hS' := hk' S _ hSw hS
  cases b with
  | none =>
   cases hb
   exact wpAny_bind (m := rule _) (wpAny_rule (wpAny_pure (hR d _ tk ⟨fun _ => rfl, fun q => absurd q (Nat.lt_irrefl _)⟩ fun b o hbw _ e => hk' b o hbw e)))
  | some p =>
   obtain ⟨m, t⟩ := p
   show wpAny _ A.in1 (updateSeq S (fun _ => #[]) >>= _) _ _ _
   refine wpAny_bind (wpAny_updateSeq hS' rfl (wpAny_bind (wpAny_letGo (wpAny_pure ?_))) (by show (2 : Nat) ≤ _; decide))
   refine hR _ _ tk ⟨fun q => ?_, fun _ => ⟨m, t, rfl, hb⟩⟩ fun b o hbw hbS e => (Heap.get?_update_other _ _ (Ne.symm hbS)).trans (hk' b o hbw e)
   obtain ⟨⟨i, hi, _⟩, _⟩ := hb
   omega
 | k + 1, j, s, b, c, hk, hj, hst, hS, hb, hR => by
  have hlt : j < n := by omega
  have hSw : S ∉ wr := fun h => hSf (W.sub _ h)
  have hname : (toString "max" ++ toString ".loop" : String) = "max.loop" := by decide
  refine codeAny_builtin F.entry_max_loop ?_
  rw [Around.under_plainId F.plain_max_loop _]
  show wpAny _ A.in1 (seqItems? (.ref S) >>= _) _ _ s
  refine wpAny_bind (wpAny_seqItems hS rfl ?_)
  show wpAny _ A.in1 (tryCatch (pyNext (.ref I)) _ >>= _) _ _ s
  refine wpAny_bind (wpAny_tryCatch (W.item j s _ _ hlt hst fun v h' tk hv hst' hk' => ?_))
  have hS' := hk' S _ hSw hS
  obtain ⟨t, rfl⟩ := hP _ _ hv
  have turned : ∀ (g : Array Value → Array Value), (∀ b ∈ fp, ∀ o, h'.get? b = some o → (h'.update S (Obj.mapSeq g)).get? b = some o) := fun g b hbf o e => (Heap.get?_update_other _ _ (fun h : S = b => hSf (by rw [h]; exact hbf))).trans e
  cases b with
  | none =>
   cases hb
   show wpAny _ A.in1 (updateSeq S (fun _ => #[.int (f 0) t, .int (f 0) t]) >>= _) _ _ _
   refine wpAny_bind (wpAny_updateSeq hS' rfl ?_)
   rw [hname]
   refine wpAny_pure ⟨plainId_quiet F.plain_max_loop _, mxd_loop W f hP S hSf d k 1 _ (some (f 0, t)) (c + 1) (by omega) (by omega) (W.frame _ _ _ hst' (turned _)) ?_ ⟨⟨0, by omega, rfl⟩, fun i hi => ?_⟩ fun v' h'' tk'' ho hk'' => ?_⟩
   ·exact (Heap.get?_update_self _ hS' rfl).trans rfl
   ·rw [show i = 0 by omega]; exact Int.le_refl _
   exact hR v' h'' tk'' ho fun b o hbw hbS e => hk'' b o hbw hbS ((Heap.get?_update_other _ _ (Ne.symm hbS)).trans (hk' b o hbw e))
  | some p =>
   obtain ⟨m, u⟩ := p
   obtain ⟨⟨i0, hi0, e0⟩, hle⟩ := hb
   show wpAny _ A.in1 (tryCatch (holding [.int (f j) t, .int (f j) t] (richCompare .Gt (.int (f j) t) (.int m u) >>= _)) _ >>= _) _ _ _
   have hcmp := CmpOf.ints_gt (prog := prog) (w := w) (A := A.in1) (P := fun i v => ∃ t, v = .int (if i = 0 then f j else m) t) (fun i => if i = 0 then f j else m) (fun i v e => e)
   refine wpAny_bind (wpAny_tryCatch (wpAny_holding (wpAny_bind (hcmp 0 1 _ _ _ _ _ ⟨t, rfl⟩ ⟨u, rfl⟩ ?_))))
   refine wpAny_bind (wpAny_holding (wpAny_truthy_bool ?_))
   refine wpAny_bind (wpAny_letGo (wpAny_pure ?_))
   by_cases hb : f j > m
   ·show wpAny _ _ (if decide (f j > m) = true then _ else _) _ _ _
    rw [if_pos (decide_eq_true hb)]
    refine wpAny_bind (wpAny_updateSeq hS' rfl (wpAny_bind (wpAny_letGo ?_)) (by show (2 : Nat) ≤ _; decide))
    rw [hname]
    obtain ⟨c', e'⟩ : ∃ c', (h'.update S (Obj.mapSeq fun _ => #[.int (f j) t, .int (f j) t])).get? S = some { cls := .type "list", dict := none, data := .seq #[.int (f j) t, .int (f j) t] c', slots := #[] } := ⟨_, Heap.get?_update_self _ hS' rfl⟩
    refine wpAny_pure ⟨plainId_quiet F.plain_max_loop _, mxd_loop W f hP S hSf d k (j + 1) _ (some (f j, t)) c' (by omega) hlt (W.frame _ _ _ hst' (turned _)) e' ⟨⟨j, by omega, rfl⟩, fun i hi => ?_⟩ fun v' h'' tk'' ho hk'' => ?_⟩
    ·by_cases q : i = j
     ·subst q; exact Int.le_refl _
     ·have := hle i (by omega)
      omega
    ·exact hR v' h'' tk'' ho fun b o hbw hbS e => hk'' b o hbw hbS ((Heap.get?_update_other _ _ (Ne.symm hbS)).trans (hk' b o hbw e))
   ·show wpAny _ _ (if decide (f j > m) = true then _ else _) _ _ _
    rw [if_neg (by rw [decide_eq_false hb]; exact Bool.false_ne_true)]
    refine wpAny_bind (wpAny_letGo ?_)
    rw [hname]
    refine wpAny_pure ⟨plainId_quiet F.plain_max_loop _, mxd_loop W f hP S hSf d k (j + 1) _ (some (m, u)) c (by omega) hlt hst' hS' ⟨⟨i0, by omega, e0⟩, fun i hi => ?_⟩ fun v' h'' tk'' ho hk'' => hR v' h'' tk'' ho fun b o hbw hbS e => hk'' b o hbw hbS (hk' b o hbw e)⟩
    by_cases q : i = j
    ·subst q; omega
    ·exact hle i (by omega)
theorem mxd_call {E : Value → Shared → Prop} {s : Shared} {l : Addr} {xs : Array (Int × Tok)} {d : Value} {Q : Value → Shared → Prop} (hh : A.handled = none) (hl : s.heap.IsList l (intItems xs))
  (h : ∀ v h' tk, MaxOut (numAt xs) xs.size d v → (∀ b o, s.heap.get? b = some o → h'.get? b = some o) → Q v { s with heap := h', toks := tk }) :
  wpAny (model prog w) A (call (.builtin "max") [.ref l] [(Str.ofString "default", d)]) Q E s := by
 have hname : (toString "max" ++ toString ".loop" : String) = "max.loop" := by decide
 refine kmk_tree F.kind_max F.plain_max F.entry_max (mxd_args _ _) ?_
 show wpAny _ A.in1 (Builtin.Builtins.bindParams "max" ["key", "default"] 0 ⟨[], [(Str.ofString "default", d)]⟩ >>= _) _ _ s
 refine wpAny_bind (wpAny_of_eq (show Builtin.Builtins.bindParams "max" ["key", "default"] 0 ⟨[], [(Str.ofString "default", d)]⟩ = pure [none, some d] from rfl) ?_)
 refine wpAny_bind (wpAny_pure (wpAny_bind (iter_intList hl fun s₂ e st hfp hlI => ?_)))
 subst e
 refine wpAny_bind (wpAny_newObj_type ?_)
 rw [hname]
 have W := Walks.list (prog := prog) (w := w) (A := A.in1) hh s.heap.objs.size l hlI (intItems xs)
 have hsz : (intItems xs).size = xs.size := by simp [intItems]
 refine wpAny_pure ⟨plainId_quiet F.plain_max_loop _, mxd_loop W (numAt xs) (fun i v e => intItems_at e) _ (fun hm => Nat.lt_irrefl _ (hfp _ hm)) d _ 0 _ none 0 rfl (Nat.zero_le _) (W.frame _ _ _ st fun b _ o e => Heap.get?_push_of_some _ e) (Heap.get?_push_size _ rfl) rfl fun v h' tk ho hk => ?_⟩
 rw [hsz] at ho
 exact h v h' tk ho (old_kept fun b o hbw e => hk b o hbw (Nat.ne_of_lt (Heap.lt_size e)) (Heap.get?_push_of_some _ e))
end
section
variable {X : Cx}
def tMaxD (K : W.Frag) (ta : TA) (tf : TE) : TE := fun σ H Q => ta σ H fun xs H1 => tf σ H1 fun y H2 =>
 ∃ (l : Addr) (ns : List Int) (z : Int), xs = [.ref l] ∧ y = .int z ∧ SqL K H2 l (ns.map V.int) ∧ ∀ m, (ns = [] → m = z) → (ns ≠ [] → m ∈ ns ∧ ∀ a ∈ ns, a ≤ m) → Q (.int m) H2
theorem pe_maxD {e fe : Expr} {ta : TA} {tf : TE} {p pos kp : Pos} (hc : X.calm = true) (hg : Gl X "max") (hm : X.mg "max" = none) (ha : PA X [e] ta) (hf : PE X fe tf)
  (he : backTo pos (starEach [e] X.env) = (false, eval e X.env) :: backTo pos (starEach [] X.env) := by rfl) :
  PE X (.Call (.Name "max" p) [e] [⟨some "default", fe, kp⟩] pos) (tMaxD X.K ta tf) := by
 intro pins s σ H Q I h
 refine wpAny_Call_Name_kw (ld_blt I hg hm bt_max ?_ (by decide) (by decide))
 refine callWith_kw (thn (ha pos pins s σ H _ I h) fun us s1 ⟨xs, H1, I1, r1, q1⟩ => ?_) he (by rw [he]; rfl) rfl rfl
 refine kws_cons (thn (hf pins s1 σ H1 _ I1 q1) fun fu s2 ⟨y, H2, I2, r2, q2⟩ => kws_nil ?_)
 obtain ⟨l, ns, z, rfl, rfl, hl, q⟩ := q2
 obtain ⟨u, rfl, ru⟩ := Vals.one r1
 cases ru
 obtain ⟨tz, rfl⟩ := r2
 obtain ⟨its, r', pl, hz⟩ := I2.list hl
 have hi := intsAre_of r'
 have hL := pl.isList
 have hn := hi.numsOf
 obtain ⟨ys, e⟩ := hi.allInts.items
 rw [e] at hL
 have e2 : numsOf its = numsOf (intItems ys).toList := by rw [← e]
 rw [e2, nums_intItems] at hn
 have hlen := congrArg List.length hn
 rw [List.length_map, Array.length_toList] at hlen
 show wpAny _ _ (call (.builtin "max") [.ref l] [(Str.ofString "default", .int z tz)]) _ _ s2
 refine mxd_call (I.ok.hd hc) hL fun v h' tk ho hk => ?_
 by_cases hne : ns = []
 ·have h0 : ys.size = 0 := by rw [hlen, hne]; rfl
  have := ho.1 h0
  subst this
  exact ⟨.int z, H2, I2.kept (t' := tk) hk, ⟨tz, rfl⟩, q z (fun _ => rfl) fun x => absurd hne x⟩
 ·have hpos : 0 < ns.length := List.length_pos_iff.mpr hne
  obtain ⟨m, t, rfl, ⟨i, hi', ei⟩, hle⟩ := ho.2 (by omega)
  refine ⟨.int m, H2, I2.kept (t' := tk) hk, ⟨t, rfl⟩, q m (fun x => absurd x hne) fun _ => ⟨?_, fun a ha' => ?_⟩⟩
  ·rw [← hn, ← ei, numAt_eq]; exact getD_mem (by rw [List.length_map, Array.length_toList]; omega)
  ·rw [← hn] at ha'
   obtain ⟨j, hj, rfl⟩ := mem_getD ha'
   rw [List.length_map, Array.length_toList] at hj
   rw [← numAt_eq]; exact hle j hj
def tRevS (K : W.Frag) (te : TE) (ts : TO) : TE := fun σ H Q => te σ H fun x H1 => ts σ H1 fun o H2 => ∃ a xs, x = .ref a ∧ o = some (-1) ∧ SqL K H2 a xs ∧ ∀ p, H2 p = none → Q (.ref p) (upd H2 p (.lst xs.reverse))
theorem pe_revS {e : Expr} {te : TE} {st : Expr} {ts : TO} {pos p2 : Pos} (he : PE X e te) (hs : PO X (some st) ts) : PE X (.Subscript e (.Slice none none (some st) p2) pos) (tRevS X.K te ts) := by
 intro pins s σ H Q I h
 refine Subscript_ (thn (he pins s σ H _ I h) fun v s1 ⟨x, H1, I1, r1, q1⟩ => ?_)
 refine wpAny_Slice ?_
 rw [evalPart_none]
 refine wpAny_pure (wpAny_pure (thn (hs pins s1 σ H1 _ I1 q1) fun vk s3 ⟨o, H3, I3, pk, q3⟩ => ?_))
 obtain ⟨a, xs, rfl, rfl, hx, q⟩ := q3
 cases r1
 have I4 : Inv X pins σ H3 { s3 with heap := s3.heap.push { cls := .type "slice", data := .fields #[.none, .none, vk] } } := I3.kept (t' := s3.toks) fun b ob q => Heap.get?_push_of_some _ q
 obtain ⟨its, r, ht, hz⟩ := I4.list hx
 have hlen := r.length
 show wpAny (model X.prog X.w) X.A (subscriptTail e (.Slice none none (some st) p2) (.ref a) (.ref s3.heap.objs.size)) (EP X pins σ Q) X.xe { s3 with heap := s3.heap.push { cls := .type "slice", data := .fields #[.none, .none, vk] } }
 refine tail_any (ops := [.ref a, .ref s3.heap.objs.size]) ht.isList.typeIs slot_list_getitem.lookup ?_ (by with_unfolding_all rfl)
 refine wpAny_getItem_list_slice ht.isList (Heap.IsSliceOf.new ..) .none .none pk (by decide) ?_ (by rw [List.size_toArray] <;> omega)
 rw [krv_pick]
 refine ⟨.ref _, _, I4.laid (t' := s3.toks) (o := .lst xs.reverse) (fun b ob q => Heap.get?_push_of_some _ q) (Nat.le_refl _) ?_, rfl, q _ (I4.hok.fresh (Nat.le_refl _))⟩
 exact ⟨by rw [List.length_reverse]; exact hz, _, 0, r.reverse, Heap.get?_push_size _ rfl⟩
end
end L2
namespace L2
open PySem PySem.Spec PyProof.Rows PySem.W
structure FunD (K : W.Frag) (x qual : Str) (st : Stmt) (f : Addr) (fd : FuncData) (ds : List Value) : Prop where
 ex : ∃ (oc : Value) (od : Option Addr) (dT : Addr) (o : Obj) (n : Nat) (kV doc pm : Value) (an : Option Addr) (cdv ct : Value) (osl : Array (Option Value)),
  fd = W.fnOf x qual (defArgs st) (defBody st) (defScope st) (.ref dT) kV doc pm an cdv ct ∧ K.lookup f = some ⟨oc, od, .func fd, osl⟩ ∧ W.codeIn K cdv qual = true ∧ K.lookup dT = some o ∧ o.data = .seq ds.toArray n
 kp : W.keepIn K (.ref f) = true
section
variable {P : Program} {w : World} {K : W.Frag} {mg : Str → Option Value} {base : Heap}
theorem FunD.ok {x qual : Str} {st : Stmt} {f : Addr} {fd : FuncData} {ds : List Value} {N ps : List Str} {k : Nat} {sp : Sp} (F : FunD K x qual st f fd ds) (S : FnScope N ps (defScope st)) (len : ∀ vs H Q E, sp vs H Q E → vs.length = ps.length)
  (hbody : ∀ (cdv : Value) (A : Around) (outer : List Env) (s : Shared) (H : Hp) (vs : List V) (Q : VK) (E : XK), Room k (A.deeper (envOfC qual (defScope st) s.heap.objs.size f cdv)) → sp vs H Q E →
   ∃ t, PSs (cxOf CX0 P w K mg base N qual (defScope st) f cdv A outer s H E).nox (defBody st) t ∧ t { nx := fun _ H' => Q .non H', rt := Q } (start N vs) H) : FnOk P w K mg base CX0 (k + 1) f fd ps sp := by
 obtain ⟨oc, od, dT, o, n, kV, doc, pm, an, cdv, ct, osl, rfl, lk, hcd, _⟩ := F.ex
 refine fn_of lk hcd S len fun A outer s H vs Q E hr hsp => ?_
 obtain ⟨t, h, q⟩ := hbody cdv A outer s H vs Q E hr hsp
 exact ⟨t, h.nox, q⟩
theorem FunD.binds {x qual : Str} {st : Stmt} {f : Addr} {fd : FuncData} {ps : List Str} {ds es : List Value} (F : FunD K x qual st f fd ds) (n : Nat) (hn : n + es.length = ps.length)
  (h : ∀ (dT : Addr) (kV doc pm : Value) (an : Option Addr) (cdv ct : Value) (us : List Value), us.length = n →
   ∃ k : Option (Array Value) → Sem (List (Str × Value)), bindArgs (W.fnOf x qual (defArgs st) (defBody st) (defScope st) (.ref dT) kV doc pm an cdv ct) ⟨us, []⟩ = seqItems? (.ref dT) >>= k ∧ k (some ds.toArray) = pure (ps.zip (us ++ es))) : Binds K fd ps es := by
 obtain ⟨oc, od, dT, o, n, kV, doc, pm, an, cdv, ct, osl, rfl, lk, hcd, ho, hs⟩ := F.ex
 intro s us X hl
 obtain ⟨k, h1, h2⟩ := h dT kV doc pm an cdv ct us (by rw [List.length_append] at hl; omega)
 exact binds_K X rfl ho hs h1 h2
theorem fund_mk {x qual : Str} {st : Stmt} {f dT : Addr} {oc : Value} {od an dod : Option Addr} {osl dsl : Array (Option Value)} {kV doc pm cdv ct dc : Value} {ds : List Value} {n : Nat} (l : K.lookup f = some ⟨oc, od, .func (W.fnOf x qual (defArgs st) (defBody st) (defScope st) (.ref dT) kV doc pm an cdv ct), osl⟩)
  (c : W.codeIn K cdv qual = true) (k : W.keepIn K (.ref f) = true) (d : K.lookup dT = some ⟨dc, dod, .seq ds.toArray n, dsl⟩) : FunD K x qual st f (W.fnOf x qual (defArgs st) (defBody st) (defScope st) (.ref dT) kV doc pm an cdv ct) ds :=
 ⟨⟨oc, od, dT, _, n, kV, doc, pm, an, cdv, ct, osl, rfl, l, c, d, rfl⟩, k⟩
end
end L2
namespace L2
open PySem PySem.Spec PyProof.Rows
section
variable {X : Cx} {EE : EEs}
section
variable {pins ps : List (Addr × Obj)} {σ : St} {H : Hp} {s : Shared}
end
theorem ps_try0 {h₀ : ExceptHandler} {hs : List ExceptHandler} {pos : Pos} {body : List Stmt} {tb : TS} (hx : X.xe = fun _ _ => False) (hbody : PSs X body tb) : PS X (.Try body (h₀ :: hs) [] [] pos) tb := by
 intro pins s σ H D I h
 refine wpAny_Try_except (wpAny_mono (hbody pins s σ H D I h) (fun f s1 hq => ?_) fun e s1 z => ?_)
 ·cases f with
  | next => exact wpAny_execs_nil hq
  | brk => exact hq
  | cont => exact hq
  | ret u => exact hq
 ·rw [hx] at z; exact z.elim
end
end L2
namespace L2
open PySem PySem.Spec PyProof.Rows
section
variable {prog : Program} {w : World} {A : Around} {E : Value → Shared → Prop} {s : Shared}
theorem nx_tup {j t : Addr} {i : Nat} {its : Array Value} {x : Value} {Q : Value → Shared → Prop} (hj : s.heap.IsTupleIter j t i) (ht : s.heap.IsTuple t its) (hx : its[i]? = some x)
  (q : ∀ h', h'.IsTupleIter j t (i + 1) → Heap.SameBut j s.heap h' → Q x { s with heap := h' }) : wpAny (model prog w) A (Builtin.SmallTypes.nextOf (.ref j)) Q E s := by
 obtain ⟨oj, ej, cj, dj⟩ := id hj
 obtain ⟨ot, et, _, nt, dt⟩ := ht
 unfold Builtin.SmallTypes.nextOf
 refine wpAny_bind (wpAny_callSpecial?_slot (name := Str.ofString "__next__") hj.typeIs F.slot_tuple_iterator_next (wpAny_call_entry F.slot_tuple_iterator_next hj.typeIs F.entry_tuple_iterator_next ?_ (F.args_tuple_iterator_next_1 _)))
 show wpAny _ _ (field (.ref j) 0 >>= _) _ _ s
 refine wpAny_bind (wpAny_field ej dj (x := .ref t) rfl ?_)
 show wpAny _ _ (if (Value.ref t == Value.none) = true then _ else _) _ _ s; rw [if_neg (show ¬ ((Value.ref t == Value.none) = true) from Bool.false_ne_true)]
 show wpAny _ _ (field (.ref j) 1 >>= _) _ _ s
 refine wpAny_bind (wpAny_field ej dj (x := .int i 0) rfl ?_)
 show wpAny _ _ (seqItems? (.ref t) >>= _) _ _ s; refine wpAny_bind (wpAny_seqItems et dt ?_)
 simp only [Int.toNat_natCast, hx]
 refine wpAny_bind (wpAny_setField ej dj (by simp) (wpAny_pure ⟨x, rfl, wpAny_pure (q _ ?_ (Heap.SameBut.update ..))⟩))
 exact ⟨_, Heap.get?_update_self _ ej (Obj.isFreed_of_fields (Obj.data_mapFields dj _)), (Obj.cls_mapFields ..).trans cj, by rw [Obj.data_mapFields dj]; simp [rawInt]⟩
theorem nx_tupEnd {j t : Addr} {i : Nat} {its : Array Value} {Q : Value → Shared → Prop} (hh : A.handled = none) (hj : s.heap.IsTupleIter j t i) (ht : s.heap.IsTuple t its) (hx : its[i]? = none)
  (q : ∀ h' e, Heap.ExtBut j s.heap h' → (∃ o, h'.get? e = some o ∧ o.cls = .type "StopIteration") → E (.ref e) { s with heap := h' }) : wpAny (model prog w) A (Builtin.SmallTypes.nextOf (.ref j)) Q E s := by
 obtain ⟨oj, ej, cj, dj⟩ := id hj
 obtain ⟨ot, et, _, nt, dt⟩ := ht
 unfold Builtin.SmallTypes.nextOf
 refine wpAny_bind (wpAny_callSpecial?_slot (name := Str.ofString "__next__") hj.typeIs F.slot_tuple_iterator_next (wpAny_call_entry F.slot_tuple_iterator_next hj.typeIs F.entry_tuple_iterator_next ?_ (F.args_tuple_iterator_next_1 _)))
 show wpAny _ _ (field (.ref j) 0 >>= _) _ _ s
 refine wpAny_bind (wpAny_field ej dj (x := .ref t) rfl ?_)
 show wpAny _ _ (if (Value.ref t == Value.none) = true then _ else _) _ _ s; rw [if_neg (show ¬ ((Value.ref t == Value.none) = true) from Bool.false_ne_true)]
 show wpAny _ _ (field (.ref j) 1 >>= _) _ _ s
 refine wpAny_bind (wpAny_field ej dj (x := .int i 0) rfl ?_)
 show wpAny _ _ (seqItems? (.ref t) >>= _) _ _ s; refine wpAny_bind (wpAny_seqItems et dt ?_)
 simp only [Int.toNat_natCast, hx]
 refine wpAny_bind (wpAny_rule (wpAny_bind (wpAny_setField ej dj (by simp) ?_)))
 show wpAny _ _ (newExc (.type "StopIteration") [] >>= _) _ _ _; refine wpAny_bind ?_
 simp only [newExc, newTuple]; refine wpAny_bind (wpAny_newObj_type ?_ (by size_fits))
 refine wpAny_bind (m := firstArgMember _ _) (wpAny_of_eq (a := Value.none) (by first | rfl | (simp only [firstArgMember]; rfl)) ?_); refine wpAny_newObj_type ?_ (by size_fits)
 simp only [raiseNew]
 refine wpAny_bind (wpAny_handled ?_); first | rw [show A.in1.handled = none from hh] | rw [hh]
 refine wpAny_bind (wpAny_pure (wpAny_throw ?_))
 exact q _ _ (((Heap.SameBut.update ..).extBut.push _).push _) ⟨_, Heap.get?_push_size _ rfl, rfl⟩
theorem draws_tup (hh : A.handled = none) (j t : Addr) (hne : t ≠ j) (its : Array Value) : Draws prog w A j [j, t] its.size (fun i v => its[i]? = some v) (fun i h => h.IsTupleIter j t i ∧ h.IsTuple t its) where
 live := fun _ _ st => let ⟨o, ho, _⟩ := st.1; ⟨o, ho⟩
 frame := fun _ _ _ ⟨⟨o, e, r⟩, o2, e2, r2⟩ hk => ⟨⟨o, hk j (by simp) o e, r⟩, o2, hk t (by simp) o2 e2, r2⟩
 item := fun i s Q E hi st q => by
  refine nx_tup st.1 st.2 (x := its[i]) (by simp [hi]) fun h' hj' hs' => q _ h' s.toks (by simp [hi]) ⟨hj', ?_⟩ hs'
  obtain ⟨o2, e2, r2⟩ := st.2
  exact ⟨o2, (hs'.2 t hne).trans e2, r2⟩
 done := fun s Q E st q => nx_tupEnd hh st.1 st.2 (by simp) q
end
set_option maxHeartbeats 8000000 in
theorem enum_newT (l : Addr) (its : Array Value) (n : Nat) (dct : Option Addr) (sl : Array (Option Value)) :
  Meets (Builtin.«enumerate.__new__» ⟨[.type "enumerate", .ref l], []⟩) (fun _ R s => s.heap.get? l = some { cls := .type "tuple", dict := dct, data := .seq its n, slots := sl } ∧
   R (.ok (.ret (.ref (s.heap.push { cls := .type "tuple_iterator", data := .fields #[.ref l, .int 0 0] }).objs.size)))
    { s with heap := (s.heap.push { cls := .type "tuple_iterator", data := .fields #[.ref l, .int 0 0] }).push { cls := .type "enumerate", data := .fields #[.none, .bool false, .ref s.heap.objs.size, rawInt 0, .none, .none] } }) :=
 .of_wp fun prog w A R s h => by
  obtain ⟨hp, g, d, tk, os⟩ := s; obtain ⟨el, h⟩ := h
  have hsub := sub_enumerate
  have hL : Heap.IsTuple (Shared.heap ⟨hp, g, d, tk, os⟩) l its := ⟨_, el, rfl, n, rfl⟩
  wp_walk using AutoSeq1.wpAny_loadPart' el
  refine wpAny_stack_any fun st => wpAny_pure ?_
  split
  ·rename_i c _ _ _ _ _
   cases (c == Value.type "enumerate") <;> (wp_walk using AutoSeq1.wpAny_loadPart' el, wpAny_pyIter_tuple hL; exact ⟨_, rfl, h⟩)
  ·wp_walk using AutoSeq1.wpAny_loadPart' el, wpAny_pyIter_tuple hL; exact ⟨_, rfl, h⟩
section
variable {prog : Program} {w : World} {A : Around} {E : Value → Shared → Prop} {s : Shared}
theorem call_enumT {l : Addr} {its : Array Value} {Q : Value → Shared → Prop} (hL : s.heap.IsTuple l its)
  (q : ∀ h', IsEnum h' (s.heap.objs.size + 1) s.heap.objs.size 0 .none → h'.IsTupleIter s.heap.objs.size l 0 → (∀ b o, s.heap.get? b = some o → h'.get? b = some o) → Q (.ref (s.heap.objs.size + 1)) { s with heap := h' }) :
  wpAny (model prog w) A (call (.type "enumerate") [.ref l]) Q E s := by
 obtain ⟨⟨c, dct, dt, sl⟩, el, hc, n, hd⟩ := hL
 cases (show c = .type "tuple" from hc)
 cases (show dt = .seq its n from hd)
 refine callType_new F.called_enumerate (by decide) (F.typeCall_enumerate_1 _) (F.newCall_enumerate_1 _) (fun obj => F.args_object_init_2 obj _) F.entry_enumerate_new (enum_newT l its n dct sl) ⟨el, ?_⟩
 generalize hO : ({ cls := .type "tuple_iterator", data := .fields #[.ref l, .int 0 0] } : Obj) = oi
 have hz : (s.heap.push oi).objs.size = s.heap.objs.size + 1 := Heap.size_push ..
 have f0 : oi.isFreed = false := by rw [← hO]; rfl
 show _ ∧ _
 rw [hz]
 have he : IsEnum ((s.heap.push oi).push { cls := .type "enumerate", data := .fields #[.none, .bool false, .ref s.heap.objs.size, rawInt 0, .none, .none] }) (s.heap.objs.size + 1) s.heap.objs.size 0 .none := by
  have e := Heap.get?_push_size (s.heap.push oi) (o := { cls := .type "enumerate", data := .fields #[.none, .bool false, .ref s.heap.objs.size, rawInt 0, .none, .none] }) rfl
  rw [hz] at e; exact e
 refine ⟨⟨_, he, rfl⟩, q _ he ⟨oi, Heap.get?_push_of_some _ (Heap.get?_push_size _ f0), by rw [← hO], by rw [← hO]; rfl⟩ fun b o x => Heap.get?_push_of_some _ (Heap.get?_push_of_some _ x)⟩
theorem enumEnd {e j t : Addr} {i : Nat} {k : Int} {its : Array Value} {old : Value} {Q : Option Value → Shared → Prop} (hh : A.handled = none) (he : IsEnum s.heap e j k old) (hj : s.heap.IsTupleIter j t i) (ht : s.heap.IsTuple t its) (hx : its[i]? = none)
  (q : ∀ h', Heap.ExtBut j s.heap h' → Q none { s with heap := h' }) : wpAny (model prog w) A (pyNext (.ref e)) Q E s := by
 have hT : s.TypeIs (.ref e) "enumerate" := ⟨_, he, rfl⟩
 unfold pyNext
 refine wpAny_bind (wpAny_attempt (wpAny_callSpecial?_slot (name := Str.ofString "__next__") hT F.slot_enumerate_next (wpAny_call_entry F.slot_enumerate_next hT F.entry_enumerate_next ?_ (F.args_enumerate_next_1 _))))
 show wpAny _ _ (field (.ref e) 2 >>= _) _ _ _; refine wpAny_bind (wpAny_field he rfl (x := .ref j) rfl ?_)
 refine wpAny_bind (nx_tupEnd hh hj ht hx fun h' x eb ⟨o, ho, hc⟩ => ?_)
 refine wpAny_bind (wpAny_isInstance (T := "StopIteration") (b := true) ⟨o, ho, hc⟩ isSubtype_stop ?_); exact wpAny_pure (q _ eb)
end
def IteT (K : W.Frag) (a : Addr) : It :=
 ⟨fun i H => ∃ xs x, SqT K H a xs ∧ xs[i]? = some x, fun i H v H' => ∃ T x, v = .ref T ∧ H T = none ∧ H' = upd H T (.tup [.int i, x]) ∧ ∀ xs, SqT K H a xs → xs[i]? = some x, fun i H => ∃ xs, SqT K H a xs ∧ xs.length ≤ i⟩
theorem turn_enumT {P : Program} {w : World} {K : W.Frag} {es : List Expr} {k : Nat} {pos : Pos} (a e it : Addr) (hne : e ≠ it) : Turn P w K (.Tuple es k pos) (IteT K a) [e, it] e (fun i h => (∃ old, IsEnum h e it (i : Nat) old) ∧ h.IsTupleIter it a i) where
 mem := by simp
 obj := fun i h st b hb => by
  obtain ⟨⟨old, he⟩, ⟨o, e1, c, d⟩⟩ := st
  rcases List.mem_cons.mp hb with z | z
  ·subst z
   exact ⟨_, he, fun v z => by cases z⟩
  ·rw [List.mem_singleton.mp z]
   exact ⟨o, e1, fun v z => by rw [d] at z; cases z⟩
 keep := fun i h h' st kk => by
  obtain ⟨⟨old, he⟩, ⟨o, e1, r⟩⟩ := st
  exact ⟨⟨old, kk e (by simp) _ he⟩, ⟨o, kk it (by simp) o e1, r⟩⟩
 item := by
  intro X hP hw hK hc i pins s σ H E I hf st hg
  subst hP hw hK
  obtain ⟨xs, x, hq, hx⟩ := hg
  obtain ⟨its, rv, p, hz⟩ := I.tuple hq
  obtain ⟨u, hu, ru⟩ := rv.get hx
  obtain ⟨⟨old, he⟩, hit⟩ := st
  have he' := Heap.lt_size he
  have hi' : it < s.heap.objs.size := by obtain ⟨o, q, _⟩ := hit; exact Heap.lt_size q
  have p' : s.heap.IsTuple a its.toArray := p
  have hai : a ≠ it := fun z => by
   obtain ⟨o, e1, c, d⟩ := hit
   obtain ⟨o2, e2, c2, _⟩ := p'
   rw [z, e1] at e2; cases e2; rw [c] at c2; injection c2 with c2; exact absurd c2 (by decide)
  have hae : e ≠ a := fun z => by
   obtain ⟨o2, e2, c2, _⟩ := p'
   have he2 : s.heap.get? e = _ := he
   rw [z, e2] at he2; cases he2; injection c2 with c2; exact absurd c2 (by decide)
  have hlt : i < its.toArray.size := by simpa using (List.getElem?_eq_some_iff.mp hu).1
  refine wpAny_pyNext_enum_itemD (draws_tup (A := X.A.in1) (I.ok.hd hc) it a hai its.toArray) he ⟨hit, p'⟩ hlt hne (by simp [hne, hae]) fun x2 h' tk px heo st' hT hsz hk => ?_
  have ex : x2 = u := by
   have : its.toArray[i]? = some u := by simpa using hu
   rw [this] at px; cases px; rfl
  subst ex
  refine ⟨_, rfl, wpAny_letOwnedTupleGo_enum (s := { s with heap := h', toks := tk + 1 }) heo fun h2 he2 hs2 => ?_⟩
  have hT2 : h2.get? s.heap.objs.size = some { cls := .type "tuple", data := .seq #[.int i tk, x2] } := (hs2.2 _ (Nat.ne_of_gt he')).trans hT
  have I2 : Inv X pins σ (upd H s.heap.objs.size (.tup [.int i, x])) { s with heap := h2, toks := tk + 1 } := by
   refine I.turnLaid (ch := [e, it]) (fun b o hb q => ?_) (Nat.le_refl _) ⟨by simp [sizeLine_eq], [.int i tk, x2], .cons ⟨_, rfl⟩ (.cons ru .nil), ⟨_, hT2, rfl, _, rfl⟩⟩ (fun b hb => (hf b hb).1) (fun b hb => ?_) fun b hb => ?_
   ·have b1 : b ≠ e := fun z => hb (by simp [z])
    have b2 : b ≠ it := fun z => hb (by simp [z])
    exact (hs2.2 b b1).trans (hk b o b1 b2 q)
   ·rcases List.mem_cons.mp hb with z | z
    ·rw [z]; exact he'
    ·rw [List.mem_singleton.mp z]; exact hi'
   ·obtain ⟨f0, f1, f2, f3, f4, f5⟩ := hf b hb
    exact ⟨f3, f1, f4, f5⟩
  refine ⟨.ref s.heap.objs.size, _, I2, rfl, ⟨_, x, rfl, I.hok.fresh (Nat.le_refl _), rfl, fun ys hy => by rw [I.tuple_inj hy hq]; exact hx⟩, ⟨⟨x2, by simpa using he2⟩, ?_⟩, fun b hb => ?_⟩
  ·obtain ⟨⟨o, e1, r⟩, _⟩ := st'
   exact ⟨o, (hs2.2 it (Ne.symm hne)).trans e1, r⟩
  have hb' : b ≠ s.heap.objs.size := by
   rcases List.mem_cons.mp hb with z | z
   ·rw [z]; exact Nat.ne_of_lt he'
   ·rw [List.mem_singleton.mp z]; exact Nat.ne_of_lt hi'
  rw [upd_ne hb']
  exact (hf b hb).1
 done := by
  intro X hP hw hK hc i pins s σ H E I hf st hg
  subst hP hw hK
  obtain ⟨xs, hq, hx⟩ := hg
  obtain ⟨its, rv, p, hz⟩ := I.tuple hq
  obtain ⟨⟨old, he⟩, hit⟩ := st
  obtain ⟨f0, f1, f2, f3, f4, f5⟩ := hf it (by simp)
  have hl := rv.length
  exact enumEnd (I.ok.hd hc) he hit p (by simp; omega) fun h' eb => ⟨rfl, I.turned (t' := s.toks) (fun b o hb e => eb b o hb e) f0 f1 f3 f4 f5⟩
 self := fun _ _ _ _ _ st h => by
  obtain ⟨⟨old, he⟩, _⟩ := st
  exact wpAny_pyIter_enum he h
section
variable {X : Cx} {es : List Expr} {k : Nat} {tp : Pos}
def iEnumT (K : W.Frag) (ta : TA) : TI := fun σ H R => ta σ H fun vs H1 => ∃ a, vs = [.ref a] ∧ (∃ xs, SqT K H1 a xs) ∧ R (IteT K a) H1
theorem pi_enumT {l : Expr} {ta : TA} {p pos : Pos} (hg : Gl X "enumerate") (hm : X.mg "enumerate" = none) (ha : PA X [l] ta) (hs : starEach [l] X.env = [(false, eval l X.env)] := by rfl) : PI X (.Tuple es k tp) (.Call (.Name "enumerate" p) [l] [] pos) (iEnumT X.K ta) := by
 intro pins s σ H R I h
 refine Call_ (ld_blt I hg hm bt_enumerate (PyProof.Rows.callWith_type1 (thn (ha pos pins s σ H _ I h) fun us s1 ⟨vs, H1, I1, r1, q1⟩ => ?_) hs rfl))
 obtain ⟨a, e, ⟨xs, hq⟩, q⟩ := q1
 subst e
 obtain ⟨u, rfl, ru⟩ := Vals.one r1
 cases ru
 obtain ⟨its, rv, pl, hz⟩ := I1.tuple hq
 refine call_enumT (show s1.heap.IsTuple a its.toArray from pl) fun h' he hi hk => wpAny_pyIter_enum (s := { s1 with heap := h' }) he ?_
 refine ⟨s1.heap.objs.size + 1, [s1.heap.objs.size + 1, s1.heap.objs.size], _, _, H1, rfl, I1.kept (t' := s1.toks) hk, turn_enumT a _ _ (Nat.succ_ne_self _), ⟨⟨.none, by simpa using he⟩, hi⟩, fun b hb => ?_, q⟩
 rcases List.mem_cons.mp hb with z | z
 ·rw [z]; exact I1.fpOk (Nat.le_succ _) (I1.hok.fresh (Nat.le_succ _))
 ·rw [List.mem_singleton.mp z]; exact I1.fpOk (Nat.le_refl _) (I1.hok.fresh (Nat.le_refl _))
theorem forAt_enumT {K : W.Frag} {l : Addr} {xs : List V} {g : TG} {tb : TS} {D : Ends} {σ : St} {H : Hp} (Pv : Nat → St → Hp → Prop) (h0 : Pv 0 σ H) (hl : ∀ i σ H, i ≤ xs.length → Pv i σ H → SqT K H l xs)
  (hs : ∀ i x σ H T, xs[i]? = some x → Pv i σ H → H T = none → g (.ref T) σ (upd H T (.tup [.int i, x])) fun σ2 H2 => tb { D with nx := Pv (i + 1), ct := Pv (i + 1), bk := D.nx } σ2 H2) (hd : ∀ σ H, Pv xs.length σ H → D.nx σ H) : ForAt (IteT K l) g tb D σ H := by
 unfold ForAt
 refine ⟨fun i m σ H => m = xs.length - i ∧ i ≤ xs.length ∧ Pv i σ H, ⟨xs.length, by simp, Nat.zero_le _, h0⟩, ?_⟩
 rintro i m σ H ⟨rfl, hi, p⟩
 have hq := hl i σ H hi p
 by_cases hlt : i < xs.length
 ·have hx : xs[i]? = some xs[i] := List.getElem?_eq_getElem hlt
  refine .inr ⟨⟨xs, xs[i], hq, hx⟩, Pv (i + 1), fun σ' H' p' => ⟨xs.length - (i + 1), by omega, rfl, hlt, p'⟩, fun v H' y => ?_⟩
  obtain ⟨T, x, rfl, hT, rfl, hx'⟩ := y
  have := hx' xs hq
  exact hs i x σ H T this p hT
 ·have e : i = xs.length := by omega
  subst e
  exact .inl ⟨⟨xs, hq, Nat.le_refl _⟩, hd σ H p⟩
theorem forAt_enumL {K : W.Frag} {l : Addr} {xs : List V} {g : TG} {tb : TS} {D : Ends} {σ : St} {H : Hp} (Pv : Nat → St → Hp → Prop) (h0 : Pv 0 σ H) (hl : ∀ i σ H, i ≤ xs.length → Pv i σ H → SqL K H l xs)
  (hs : ∀ i x σ H T, xs[i]? = some x → Pv i σ H → H T = none → g (.ref T) σ (upd H T (.tup [.int i, x])) fun σ2 H2 => tb { D with nx := Pv (i + 1), ct := Pv (i + 1), bk := D.nx } σ2 H2) (hd : ∀ σ H, Pv xs.length σ H → D.nx σ H) : ForAt (Ite K l) g tb D σ H := by
 unfold ForAt
 refine ⟨fun i m σ H => m = xs.length - i ∧ i ≤ xs.length ∧ Pv i σ H, ⟨xs.length, by simp, Nat.zero_le _, h0⟩, ?_⟩
 rintro i m σ H ⟨rfl, hi, p⟩
 have hq := hl i σ H hi p
 by_cases hlt : i < xs.length
 ·have hx : xs[i]? = some xs[i] := List.getElem?_eq_getElem hlt
  refine .inr ⟨⟨xs, xs[i], hq, hx⟩, Pv (i + 1), fun σ' H' p' => ⟨xs.length - (i + 1), by omega, rfl, hlt, p'⟩, fun v H' y => ?_⟩
  obtain ⟨T, x, rfl, hT, rfl, hx'⟩ := y
  have := hx' xs hq
  exact hs i x σ H T this p hT
 ·have e : i = xs.length := by omega
  subst e
  exact .inl ⟨⟨xs, hq, Nat.le_refl _⟩, hd σ H p⟩
end
end L2
namespace PySem.W
open PySem PySem.Calls PyProof.Rows
section
variable {prog : Program} {w : World} {A : Around} {E : Value → Shared → Prop} {s : Shared} {a : Addr} {vs : List Value} {P : PySem.Fin → Shared → Prop}
theorem srt_plain {n : Nat} {κ : SortKind} {lt : Nat → Nat → Bool} (ho : s.heap.get? a = some (seqObj "list" vs.toArray n)) (h64 : vs.length < 64) (S : L2.STO lt vs.length)
  (hkind : 2 ≤ vs.length → ∀ s' : Shared, (∀ b o, b ≠ a → s.heap.get? b = some o → s'.heap.get? b = some o) → wpAny (model prog w) A (keyKind' vs.toArray) (fun κ' s'' => κ' = κ ∧ s' = s'') (fun _ _ => False) s')
  (hcmp : ∀ s' : Shared, (∀ b o, b ≠ a → s.heap.get? b = some o → s'.heap.get? b = some o) → ∀ i j (C : Bool → Shared → Prop), i < vs.length → j < vs.length → C (lt i j) s' → wpAny (model prog w) A (keyLt' κ (vs.getD i Value.none) (vs.getD j Value.none)) C (fun _ _ => False) s')
  (fin : ∀ p : Array Nat, L2.Pm vs.length p → L2.Up lt p vs.length → ∀ h' c, (∀ b o, b ≠ a → s.heap.get? b = some o → h'.get? b = some o) → h'.get? a = some (seqObj "list" (List.toArray (p.toList.map fun i => vs.getD i Value.none)) c) → P (.done (.ret .none)) { s with heap := h' }) :
  wpAny (model prog w) A (Builtin.«list.sort» ⟨[.ref a], []⟩) P E s := by
 have ha : a < s.heap.objs.size := Heap.lt_size ho
 have s1 := Heap.SameBut.update s.heap a (Obj.mapSeq fun _ => (#[] : Array Value))
 obtain ⟨e1, ho1⟩ : ∃ e1, (s.heap.update a (Obj.mapSeq fun _ => (#[] : Array Value))).get? a = some (seqObj "list" #[] e1) := ⟨_, get?_update_seq ho fun _ => #[]⟩
 rw [list_sort_plain]
 refine wpAny_bind (listItems_at ho rfl ?_)
 refine wpAny_bind (listUpdate_at ho rfl ?_ (by rw [List.size_toArray, sizeLine_eq]; omega) (Nat.zero_le _))
 refine wpAny_bind (seqEpoch_at ho1 rfl ?_)
 refine wpAny_bind (wpAny_newTuple ?_ (by show vs.length ≤ _; rw [sizeLine_eq]; omega))
 refine wpAny_bind (wpAny_newList ?_ (Nat.zero_le _))
 refine wpAny_holding ?_
 generalize hh : ((s.heap.update a (Obj.mapSeq fun _ => (#[] : Array Value))).push (seqObj "tuple" vs.toArray 0)).push (seqObj "list" #[] 0) = h1
 have keep : ∀ b o, b ≠ a → s.heap.get? b = some o → h1.get? b = some o := fun b o hb q => by rw [← hh]; exact Heap.get?_push_of_some _ (Heap.get?_push_of_some _ ((s1.2 b hb).trans q))
 have na : h1.get? a = some (seqObj "list" #[] e1) := by rw [← hh]; exact Heap.get?_push_of_some _ (Heap.get?_push_of_some _ ho1)
 have tail : ∀ (out : List Value), out.length < 64 → (∀ h' c, (∀ b o, b ≠ a → s.heap.get? b = some o → h'.get? b = some o) → h'.get? a = some (seqObj "list" (List.toArray out) c) → P (.done (.ret .none)) { s with heap := h' }) →
   ∀ c2, (h1.update a (Obj.mapSeq fun _ => List.toArray out)).get? a = some (seqObj "list" (List.toArray out) c2) → P (.done (.ret .none)) { s with heap := h1.update a (Obj.mapSeq fun _ => List.toArray out) } := fun out hz k c2 hc2 => by
  have s2 := Heap.SameBut.update h1 a (Obj.mapSeq fun _ => List.toArray out)
  exact k _ c2 (fun b o hb q => (s2.2 b hb).trans (keep b o hb q)) hc2
 dsimp only
 by_cases h2 : 2 ≤ vs.length
 ·have hn2 : ¬ vs.toArray.size < 2 := by rw [List.size_toArray]; omega
  rw [if_neg hn2, if_neg hn2]
  refine wpAny_bind (wpAny_mono (hkind h2 { s with heap := h1 } keep) (fun κ' s0 hk => ?_) fun _ _ x => x.elim)
  obtain ⟨rfl, rfl⟩ := hk
  have hw : (kas_sort vs.length).kasWp (kas_ask prog w A κ' vs) (fun p s'' => ({ s with heap := h1 } : Shared) = s'' ∧ L2.Pm vs.length p ∧ L2.Up lt p vs.length) { s with heap := h1 } := by
   refine L2.Wp.kas (lt := lt) (n := vs.length) (fun i j C hi hj hc => hcmp { s with heap := h1 } keep i j C hi hj hc) ?_
   exact L2.wp_mono (L2.wp_sort S h2) fun q hq => ⟨rfl, hq⟩
  refine wpAny_bind (wpAny_mono (kat_run (Q := fun st' s' => ∃ p : Array Nat, arrOf st' = p.map (kas_item (vs.toArray.zip vs.toArray)) ∧ failedOf st' = none ∧ ({ s with heap := h1 } : Shared) = s' ∧ L2.Pm vs.length p ∧ L2.Up lt p vs.length)
   rfl h2 h64 (fun p' st' s' a1 a2 a3 a4 => ⟨p', a2, a3, a4⟩) hw) ?_ fun _ _ x => x)
  rintro ⟨⟨⟩, st'⟩ s' ⟨p, har, hf, rfl, hp, hu⟩
  dsimp only
  have hout := kat_snds rfl har
  have hl : (p.toList.map fun i => vs.getD i Value.none).length = vs.length := by rw [List.length_map, Array.length_toList, hp.size]
  rw [hout]
  obtain ⟨c2, hc2⟩ : ∃ c2, (h1.update a (Obj.mapSeq fun _ => List.toArray (p.toList.map fun i => vs.getD i Value.none))).get? a = some (seqObj "list" (List.toArray (p.toList.map fun i => vs.getD i Value.none)) c2) := ⟨_, get?_update_seq na fun _ => List.toArray (p.toList.map fun i => vs.getD i Value.none)⟩
  refine wpAny_bind (seqEpoch_at na rfl ?_)
  refine wpAny_bind (listUpdate_at na rfl ?_ (Nat.zero_le _) (by rw [List.size_toArray, hl, sizeLine_eq]; omega))
  rw [hf]
  simp only [bne_self_eq_false, Bool.false_eq_true, if_false]
  exact wpAny_pure (tail _ (by rw [hl]; exact h64) (fin p hp hu) c2 hc2)
 ·have hn2 : vs.toArray.size < 2 := by rw [List.size_toArray]; omega
  rw [if_pos hn2, if_pos hn2]
  refine wpAny_bind (wpAny_pure ?_)
  refine wpAny_bind (wpAny_pure ?_)
  dsimp only
  have hsn : (arrOf (SortSt.mk' general' (vs.toArray.zip vs.toArray) #[] 7 none)).map (·.2) = List.toArray vs := by
   show (vs.toArray.zip vs.toArray).map (·.2) = List.toArray vs
   apply Array.toList_inj.mp
   simp [List.map_snd_zip]
  rw [hsn]
  obtain ⟨c2, hc2⟩ : ∃ c2, (h1.update a (Obj.mapSeq fun _ => List.toArray vs)).get? a = some (seqObj "list" (List.toArray vs) c2) := ⟨_, get?_update_seq na fun _ => List.toArray vs⟩
  refine wpAny_bind (seqEpoch_at na rfl ?_)
  refine wpAny_bind (listUpdate_at na rfl ?_ (Nat.zero_le _) (by rw [List.size_toArray, sizeLine_eq]; omega))
  have e : ((List.toArray (List.range vs.length)).toList.map fun i => vs.getD i Value.none) = vs := by
   apply List.ext_getElem?
   intro i
   by_cases hi : i < vs.length
   ·simp [hi]
   ·simp [hi]
  have f2 := fin (List.toArray (List.range vs.length)) ⟨by simp, by simp⟩ (fun i j hij hj => by omega)
  rw [e] at f2
  simp only [bne_self_eq_false, Bool.false_eq_true, if_false]
  exact wpAny_pure (tail _ h64 f2 c2 hc2)
theorem srt_call {l : Addr} {κ : SortKind} {lt : Nat → Nat → Bool} {Q : Value → Shared → Prop} (hl : s.heap.IsList l vs.toArray) (h64 : vs.length < 64) (S : L2.STO lt vs.length)
  (hkind : 2 ≤ vs.length → ∀ s' : Shared, (∀ b o, s.heap.get? b = some o → s'.heap.get? b = some o) → wpAny (model prog w) A.in1.in1 (keyKind' vs.toArray) (fun κ' s'' => κ' = κ ∧ s' = s'') (fun _ _ => False) s')
  (hcmp : ∀ s' : Shared, (∀ b o, s.heap.get? b = some o → s'.heap.get? b = some o) → ∀ i j (C : Bool → Shared → Prop), i < vs.length → j < vs.length → C (lt i j) s' → wpAny (model prog w) A.in1.in1 (keyLt' κ (vs.getD i Value.none) (vs.getD j Value.none)) C (fun _ _ => False) s')
  (fin : ∀ p : Array Nat, L2.Pm vs.length p → L2.Up lt p vs.length → ∀ D h' c, s.heap.objs.size ≤ D → (∀ b o, s.heap.get? b = some o → h'.get? b = some o) → h'.get? D = some (seqObj "list" (List.toArray (p.toList.map fun i => vs.getD i Value.none)) c) → Q (.ref D) { s with heap := h' }) :
  wpAny (model prog w) A (call (.builtin "sorted") [.ref l]) Q E s := by
 refine Calls.call_function_entry kind_sorted plain_sorted entry_sorted (args_sorted1 _) ?_
 unfold Builtin.«sorted»
 refine wpAny_bind (m := checkCount "sorted" 1 1 _) (wpAny_pure ?_)
 refine wpAny_bind (collect_list hl ?_ (by rw [sizeLine_eq]; omega))
 refine wpAny_bind (wpAny_newList ?_ (by rw [sizeLine_eq]; omega))
 have hsz : ((s.heap.push (seqObj "list" #[] 0)).update s.heap.objs.size (Obj.mapSeq (· ++ vs.toArray))).objs.size = s.heap.objs.size + 1 := by
  rw [Heap.size_update, size_push']
 have hoL : (((s.heap.push (seqObj "list" #[] 0)).update s.heap.objs.size (Obj.mapSeq (· ++ vs.toArray))).push (seqObj "list" vs.toArray 0)).get? (s.heap.objs.size + 1) = some (seqObj "list" vs.toArray 0) := by
  rw [← hsz]; exact Heap.get?_push_size _ rfl
 have keep : ∀ b o, s.heap.get? b = some o → (((s.heap.push (seqObj "list" #[] 0)).update s.heap.objs.size (Obj.mapSeq (· ++ vs.toArray))).push (seqObj "list" vs.toArray 0)).get? b = some o := fun b o q => by
  have hlt : b < s.heap.objs.size := Heap.lt_size q
  rw [Heap.get?_push_ne _ _ _ (by rw [hsz]; exact Nat.ne_of_lt (Nat.lt_succ_of_lt hlt)), Heap.get?_update_ne _ _ _ _ (Nat.ne_of_lt hlt), Heap.get?_push_ne _ _ _ (Nat.ne_of_lt hlt)]
  exact q
 have keep2 : ∀ (h' : Heap), (∀ b o, b ≠ s.heap.objs.size + 1 → (((s.heap.push (seqObj "list" #[] 0)).update s.heap.objs.size (Obj.mapSeq (· ++ vs.toArray))).push (seqObj "list" vs.toArray 0)).get? b = some o → h'.get? b = some o) → ∀ b o, s.heap.get? b = some o → h'.get? b = some o := fun h' k b o q =>
  k b o (Nat.ne_of_lt (Nat.lt_succ_of_lt (Heap.lt_size q))) (keep b o q)
 show wpAny _ _ _ _ _ { s with heap := ((s.heap.push (seqObj "list" #[] 0)).update s.heap.objs.size (Obj.mapSeq (· ++ vs.toArray))).push (seqObj "list" vs.toArray 0) }
 rw [hsz]
 refine wpAny_bind (wpAny_holding (wpAny_call_entry slot_list_sort ⟨_, hoL, rfl⟩ entry_list_sort ?body (args_list_sort _)))
 case body =>
  refine srt_plain (s := { s with heap := ((s.heap.push (seqObj "list" #[] 0)).update s.heap.objs.size (Obj.mapSeq (· ++ vs.toArray))).push (seqObj "list" vs.toArray 0) }) (lt := lt) (κ := κ) hoL h64 S (fun h2 s' k => hkind h2 s' (keep2 _ k)) (fun s' k => hcmp s' (keep2 _ k)) fun p hp hu h' c k hc => ?_
  exact ⟨_, rfl, wpAny_pure ⟨_, rfl, fin p hp hu _ h' c (Nat.le_succ _) (keep2 _ k) hc⟩⟩
theorem pair_lt {x y : Addr} {ox oy : Obj} {a1 a2 b1 b2 : Int} {t1 t2 u1 u2 : Tok} {n k : Nat} {Q : Bool → Shared → Prop} (hx : s.heap.get? x = some ox) (dx : ox.data = .seq #[.int a1 t1, .int a2 t2] n) (hy : s.heap.get? y = some oy) (dy : oy.data = .seq #[.int b1 u1, .int b2 u2] k)
  (h : Q (HT.lexLt [a1, a2] [b1, b2]) s) : wpAny (model prog w) A (keyLt' (tuples' true) (.ref x) (.ref y)) Q E s := by
 refine kat_lt hx dx hy dy (kat_cons (wpAny_eqBool_int (kat_go (fun e => kat_yes ?_) fun e => kat_no ?_)))
 ·have e' : a1 = b1 := by simpa using e
  rw [HT.lexLt_cons, if_pos e'] at h
  refine kat_cons (wpAny_eqBool_int (kat_go (fun e => kat_yes ?_) fun e => kat_no ?_))
  ·have e2 : a2 = b2 := by simpa using e
   rw [HT.lexLt_cons, if_pos e2] at h
   exact kat_nil h
  ·have e2 : ¬ a2 = b2 := by simpa using e
   rw [HT.lexLt_cons, if_neg e2] at h
   exact kat_one _ _ (lt_int h)
 ·have e' : ¬ a1 = b1 := by simpa using e
  rw [HT.lexLt_cons, if_neg e'] at h
  have z := kat_lt_int (prog := prog) (w := w) (A := A) (E := fun _ _ => False) (t := t1) (u := u1) h
  rw [keyLt'_oneType] at z
  exact z
end
end PySem.W
namespace L2
open PySem PySem.Spec PyProof.Rows PySem.W
theorem lex_irr : ∀ xs : List Int, HT.lexLt xs xs = false
 | [] => rfl
 | x :: r => by rw [HT.lexLt_cons, if_pos rfl]; exact lex_irr r
theorem pair_sto {ps : List (Int × Int)} (h : ps.Nodup) : STO (fun i j => HT.lexLt [(ps.getD i (0, 0)).1, (ps.getD i (0, 0)).2] [(ps.getD j (0, 0)).1, (ps.getD j (0, 0)).2]) ps.length := by
 have lt_iff : ∀ a b c d : Int, HT.lexLt [a, b] [c, d] = true ↔ a < c ∨ (a = c ∧ b < d) := fun a b c d => by
  rw [HT.lexLt_cons]
  by_cases e : a = c
  ·rw [if_pos e, HT.lexLt_cons]
   by_cases e2 : b = d
   ·rw [if_pos e2, HT.lexLt_nil_nil]; simp; omega
   ·rw [if_neg e2, decide_eq_true_iff]; omega
  ·rw [if_neg e, decide_eq_true_iff]; omega
 refine ⟨fun i _ => lex_irr _, fun i j k _ _ _ h1 h2 => ?_, fun i j hi hj ne => ?_⟩
 ·rw [lt_iff] at h1 h2 ⊢; omega
 ·rw [lt_iff, lt_iff]
  have hne : ps.getD i (0, 0) ≠ ps.getD j (0, 0) := by
   have e1 : ps.getD i (0, 0) = ps[i] := by simp [hi]
   have e2 : ps.getD j (0, 0) = ps[j] := by simp [hj]
   rw [e1, e2]
   intro z
   have hpw := List.pairwise_iff_getElem.mp h
   rcases Nat.lt_or_gt_of_ne ne with y | y
   ·exact hpw i j hi hj y z
   ·exact hpw j i hj hi y z.symm
  have : (ps.getD i (0, 0)).1 ≠ (ps.getD j (0, 0)).1 ∨ (ps.getD i (0, 0)).2 ≠ (ps.getD j (0, 0)).2 := by
   by_cases z : (ps.getD i (0, 0)).1 = (ps.getD j (0, 0)).1
   ·right; exact fun y => hne (Prod.ext z y)
   ·exact .inl z
  omega
def PairAt (H : Hp) (t : Addr) (q : Int × Int) : Prop := H t = some (.tup [.int q.1, .int q.2])
def rSortP (K : W.Frag) : List V → Hp → VK → Prop := fun xs H Q => ∃ (p : Addr) (ts : List Addr) (ps : List (Int × Int)), xs = [.ref p] ∧ SqL K H p (ts.map V.ref) ∧ Paired (PairAt H) ts ps ∧ ps.Nodup ∧ ts.length < 64 ∧
 ∀ (l : Addr) (us : List Addr), us.Perm ts → H l = none → Q (.ref l) (upd H l (.lst (us.map V.ref)))
section
variable {X : Cx}
theorem paired_getD {α β : Type} {F : α → β → Prop} {x : α} {y : β} : ∀ {l₁ : List α} {l₂ : List β} {i : Nat}, Paired F l₁ l₂ → i < l₁.length → F (l₁.getD i x) (l₂.getD i y)
 | _, _, _, .nil, h => by simp at h
 | _, _, 0, .cons r _, _ => by simpa using r
 | _, _, i + 1, .cons _ t, h => by
  have := paired_getD (x := x) (y := y) (i := i) t (by simpa using h)
  simpa using this
theorem katTups_of {h : Heap} : ∀ (ts : List Addr), (∀ t ∈ ts, ∃ o xs n i tk, h.get? t = some o ∧ o.cls = .type "tuple" ∧ o.data = .seq xs n ∧ xs[0]? = some (.int i tk)) → ∃ fs, KatTups h (ts.map Value.ref) fs ∧ fs.length = ts.length ∧ ∀ v ∈ fs, ∃ i tk, v = .int i tk
 | [], _ => ⟨[], .nil, rfl, fun _ z => by cases z⟩
 | t :: r, hh => by
  obtain ⟨fs, k1, k2, k3⟩ := katTups_of r fun u hu => hh u (List.mem_cons_of_mem _ hu)
  obtain ⟨o, xs, n, i, tk, a1, a2, a3, a4⟩ := hh t List.mem_cons_self
  refine ⟨.int i tk :: fs, .cons a1 a2 a3 a4 k1, by simp [k2], fun v hv => ?_⟩
  rcases List.mem_cons.mp hv with z | z
  ·exact ⟨i, tk, z⟩
  ·exact k3 v z
theorem call_sortedP : CallR X (.builtin "sorted") (rSortP X.K) := by
 intro pins s σ H xs us Q I r h
 obtain ⟨p, ts, ps, rfl, hq, hpr, hnd, h64, q⟩ := h
 obtain ⟨u, rfl, rx⟩ := vals1 r
 cases rx
 obtain ⟨its, r', pl, hz⟩ := I.list hq
 have hlen := r'.length
 rw [List.length_map] at hlen
 have hpl : ts.length = ps.length := hpr.length
 have hit : its = ts.map Value.ref := by
  refine List.ext_getElem? fun i => ?_
  by_cases hi : i < ts.length
  ·have hx : (ts.map V.ref)[i]? = some (.ref ts[i]) := by rw [List.getElem?_map, List.getElem?_eq_getElem hi]; rfl
   obtain ⟨u, h1, h2⟩ := Vals.get r' hx
   cases h2
   rw [h1, List.getElem?_map, List.getElem?_eq_getElem hi]; rfl
  ·rw [List.getElem?_eq_none (by omega), List.getElem?_eq_none (by rw [List.length_map]; omega)]
 have obj : ∀ i, i < ts.length → ∃ o t1 t2 n, s.heap.get? (ts.getD i 0) = some o ∧ o.cls = .type "tuple" ∧ o.data = .seq #[.int (ps.getD i (0, 0)).1 t1, .int (ps.getD i (0, 0)).2 t2] n := fun i hi => by
  have hp : PairAt H (ts.getD i 0) (ps.getD i (0, 0)) := paired_getD (x := 0) (y := (0, 0)) hpr hi
  obtain ⟨_, its', r2, o, ho, hc, n, hd⟩ := I.hok _ _ hp
  cases r2 with | cons q1 r2 => cases r2 with | cons q2 r2 =>
  cases r2
  obtain ⟨t1, rfl⟩ := q1
  obtain ⟨t2, rfl⟩ := q2
  exact ⟨o, t1, t2, n, ho, hc, hd⟩
 have S := pair_sto hnd
 have hv : ∀ i, i < ts.length → its.getD i Value.none = .ref (ts.getD i 0) := fun i hi => by
  rw [hit]; simp [hi]
 refine srt_call (vs := its) (κ := tuples' true) pl.isList (by omega) (by rw [← hlen, hpl]; exact S) (fun h2 s' keep => ?_) (fun s' keep i j C hi hj hC => ?_) fun pm hp hu D h' c hD keep hDc => ?_
 ·obtain ⟨fs, k1, k2, k3⟩ := katTups_of (h := s'.heap) ts fun t ht => by
   obtain ⟨i, hi⟩ := List.mem_iff_getElem?.mp ht
   have hlt := (List.getElem?_eq_some_iff.mp hi).1
   obtain ⟨o, t1, t2, n, a1, a2, a3⟩ := obj i hlt
   have e : ts.getD i 0 = t := by simp [hi]
   rw [e] at a1
   exact ⟨o, _, n, _, t1, keep _ _ a1, a2, a3, rfl⟩
  rw [hit]
  refine kat_kind (T := .type "int") k1 (by omega) (fun v hv' => ?_) (by rfl) ⟨by rfl, rfl⟩
  obtain ⟨i, tk, rfl⟩ := k3 v hv'
  exact .now
 ·obtain ⟨o1, t1, t2, n1, a1, a2, a3⟩ := obj i (by omega)
  obtain ⟨o2, u1, u2, n2, b1, b2, b3⟩ := obj j (by omega)
  rw [hv i (by omega), hv j (by omega)]
  exact pair_lt (keep _ _ a1) a3 (keep _ _ b1) b3 hC
 ·have hn : its.length = ts.length := by omega
  rw [hn] at hp
  have hlp : pm.toList.length = ts.length := by rw [Array.length_toList]; exact hp.size
  have hperm : (pm.toList.map fun i => ts.getD i 0).Perm ts := by
   have e : ((List.range ts.length).map fun i => ts.getD i 0) = ts := by
    apply List.ext_getElem?
    intro i
    by_cases hi : i < ts.length
    ·simp [hi]
    ·simp [hi]
   have := hp.perm.map (fun i => ts.getD i 0)
   rwa [e] at this
  have hvals : Vals ((pm.toList.map fun i => ts.getD i 0).map V.ref) (pm.toList.map fun i => its.getD i Value.none) := by
   refine vals_of_get (by simp) fun j x u e1 e2 => ?_
   rw [List.map_map, List.getElem?_map] at e1
   rw [List.getElem?_map] at e2
   cases hq2 : pm.toList[j]? with
   | none => rw [hq2] at e1; cases e1
   | some m =>
    rw [hq2] at e1 e2
    cases e1
    cases e2
    have hm : m < ts.length := List.mem_range.mp (hp.perm.mem_iff.mp (List.mem_of_getElem? hq2))
    show RelV (.ref (ts.getD m 0)) (its.getD m Value.none)
    rw [hv m hm]
    rfl
  exact ⟨.ref D, _, I.laid (a := D) (o := .lst ((pm.toList.map fun i => ts.getD i 0).map V.ref)) (t' := s.toks) (fun b o eo => keep b o eo) hD ⟨by rw [List.length_map, List.length_map, hlp, sizeLine_eq]; omega, _, c, hvals, hDc⟩, rfl, q _ _ hperm (I.hok.fresh hD)⟩
end
end L2
namespace L2
open PySem PySem.Spec PyProof.Rows
theorem comp2_listM {K : W.Frag} {l : Addr} {xs : List V} {te : TE} {caps : L2.St} {Q : VK} {H2 : Hp} (f : V → V) (hl : SqL K H2 l xs) (hn : xs.length < sizeLine)
  (hs : ∀ x ∈ xs, ∃ T v1 v2, x = .ref T ∧ SqT K H2 T [v1, v2] ∧ ∀ H3, Same H2 H3 → ∀ R : VK, (∀ H6, Same H3 H6 → R (f x) H6) → te (some v1 :: some v2 :: caps) H3 R)
  (hd : ∀ D H', H2 D = none → Same H2 H' → H' D = some (.lst (xs.map f)) → Q (.ref D) H') : CompAt2 K (Itl K l) caps tAll te Q H2 := by
 unfold CompAt2
 intro D hD
 refine ⟨fun i m acc H3 => m = xs.length - i ∧ i ≤ xs.length ∧ acc = (xs.take i).map f ∧ H3 D = some (.lst acc) ∧ Same H2 H3, ⟨xs.length, by simp, Nat.zero_le _, rfl, upd_same, Same.new hD⟩, ?_⟩
 rintro i m acc H3 ⟨rfl, hi, rfl, hD3, s3⟩
 refine ⟨hD3, ?_⟩
 have q := s3.seq hl
 by_cases hlt : i < xs.length
 ·have hx : xs[i]? = some xs[i] := List.getElem?_eq_getElem hlt
  have et : xs.take (i + 1) = xs.take i ++ [xs[i]] := by rw [List.take_succ, hx]; rfl
  refine .inr ⟨⟨xs, xs[i], q, hx⟩, by rw [List.length_map, List.length_take]; omega, fun v H4 y => ?_⟩
  obtain ⟨e, y⟩ := y
  have ev := y xs q
  rw [hx] at ev
  cases ev
  subst e
  obtain ⟨T, v1, v2, h1, h2, h3⟩ := hs _ (List.getElem_mem hlt)
  refine ⟨T, v1, v2, h1, s3.seqT h2, fun _ => ?_, fun z => by cases z⟩
  refine h3 _ s3 _ fun H6 s6 => ⟨s6.at hD3, xs.length - (i + 1), by omega, rfl, hlt, ?_, upd_same, (s3.trans s6).put hD⟩
  rw [et, List.map_append]; rfl
 ·have e : i = xs.length := by omega
  subst e
  rw [List.take_length] at hD3 ⊢
  exact .inl ⟨⟨xs, q, Nat.le_refl _⟩, hd D H3 hD s3 hD3⟩
end L2
namespace PySem
open Sem (wp)
open AutoSeq1 (wpAny_loadPart')
abbrev kwS (k : Int) (t : Tok) : List (Str × Value) := [(Str.ofString "start", .int k t)]
theorem en_type (a : Value) (k : Int) (t : Tok) : checkTypeCall "enumerate" ⟨[a], kwS k t⟩ = pure () := by kernel_rfl
theorem en_new (a : Value) (k : Int) (t : Tok) : checkBuiltinCall "enumerate.__new__" ⟨[.type "enumerate", a], kwS k t⟩ = pure () := by kernel_rfl
theorem en_init (x a : Value) (k : Int) (t : Tok) : argsOk "object.__init__" ⟨[x, a], kwS k t⟩ := by
 unfold argsOk
 rw [signature?_of (id := "object.__init__") (n := "__tini__".toList) (o := "tcejbo".toList) (by kernel_rfl) F.owner_object]
 kernel_rfl
theorem en_made (l : Addr) (items : Array Value) (n : Nat) (dct : Option Addr) (sl : Array (Option Value)) (k : Int) (t : Tok) (hf : Builtin.SmallTypes.fitsIndex k = true) :
  Meets (Builtin.«enumerate.__new__» ⟨[.type "enumerate", .ref l], kwS k t⟩) (fun _ R s => s.heap.get? l = some ⟨.type "list", dct, .seq items n, sl⟩ ∧
   R (.ok (.ret (.ref (s.heap.objs.size + 1))))
    { s with heap := (s.heap.push { cls := .type "list_iterator", data := .fields #[.ref l, .int 0 0] }).push { cls := .type "enumerate", data := .fields #[.none, .bool false, .ref s.heap.objs.size, rawInt k, .none, .none] } }) := by
 refine .of_wp fun prog w A R s h => ?_
 obtain ⟨hl, h⟩ := h
 obtain ⟨hp, g, d, tk, os⟩ := s
 have hz : (hp.push { cls := .type "list_iterator", data := .fields #[.ref l, .int 0 0] }).objs.size = hp.objs.size + 1 := Heap.size_push ..
 have hsub := sub_enumerate
 have hL : Heap.IsList (Shared.heap ⟨hp, g, d, tk, os⟩) l items := ⟨_, hl, rfl, n, rfl⟩
 wp_walk using wpAny_loadPart' hl
 refine wpAny_stack_any fun st => wpAny_pure ?_
 split
 ·rename_i c _ _ _ _ _
  cases (c == Value.type "enumerate") <;>
   (wp_walk using wpAny_loadPart' hl, wpAny_pyIter_list hL; exact ⟨_, rfl, by rw [hz]; exact h⟩)
 ·wp_walk using wpAny_loadPart' hl, wpAny_pyIter_list hL
  exact ⟨_, rfl, by rw [hz]; exact h⟩
theorem en_inited {T newId : String} {x y : Value} {kw : List (Str × Value)} (hl : typeLookup (.type T) "__init__" = pure (some (.builtin "object.__init__"))) (hm : Bind.madeBy (.type T) = pure (some newId)) (hne : (some newId != some "object.__new__") = true) :
  Meets (Builtin.«object.__init__» ⟨[x, y], kw⟩) (fun _ R s => s.TypeIs x T ∧ R (.ok (.ret .none)) s) :=
 .of_wp fun prog w A R s h => by
  obtain ⟨hT, h⟩ := h
  repeat (any_goals (first | assumption | wp_step))
  exact ⟨_, rfl, h⟩
section
variable {prog : Program} {w : World} {A : Around} {E : Value → Shared → Prop} {s : Shared}
theorem call_enumS {l : Addr} {items : Array Value} {k : Int} {t : Tok} {Q : Value → Shared → Prop} (hL : s.heap.IsList l items) (hf : Builtin.SmallTypes.fitsIndex k = true)
  (h : ∀ h', IsEnum h' (s.heap.objs.size + 1) s.heap.objs.size k .none → h'.IsListIter s.heap.objs.size l 0 → (∀ b o, s.heap.get? b = some o → h'.get? b = some o) → Q (.ref (s.heap.objs.size + 1)) { s with heap := h' }) :
  wpAny (model prog w) A (call (.type "enumerate") [.ref l] (kwS k t)) Q E s := by
 obtain ⟨⟨c0, dct, dt, sl⟩, hl, hc, n, hd⟩ := hL
 obtain rfl : c0 = .type "list" := hc
 obtain rfl : dt = .seq items n := hd
 have ft := F.called_enumerate
 obtain ⟨c, tl, hmro⟩ := ft.mro
 have hct := en_type (.ref l) k t
 have hmade := ft.made
 have hsub := ft.sub
 have h1 := ft.notType
 have h2 := ft.canCreate
 have hz : (s.heap.push { cls := .type "list_iterator", data := .fields #[.ref l, .int 0 0] }).objs.size = s.heap.objs.size + 1 := Heap.size_push ..
 have he : IsEnum ((s.heap.push { cls := .type "list_iterator", data := .fields #[.ref l, .int 0 0] }).push { cls := .type "enumerate", data := .fields #[.none, .bool false, .ref s.heap.objs.size, rawInt k, .none, .none] }) (s.heap.objs.size + 1) s.heap.objs.size k .none := by
  rw [← hz]; exact Heap.get?_push_size _ rfl
 have fin := h _ he ⟨_, Heap.get?_push_of_some _ (Heap.get?_push_size _ rfl), rfl, rfl⟩ fun b o x => Heap.get?_push_of_some _ (Heap.get?_push_of_some _ x)
 refine wpAny_call (codeAny_of_tree (wpAny_pure ⟨Code.quiet_builtin _ (by decide +kernel), codeAny_builtin F.entry_type_call ?_⟩))
 rw [Around.under_plain (weight_type_call_type "enumerate" [.ref l] (kwS k t)) (units_type_call_type "enumerate" [.ref l] (kwS k t))]
 repeat (any_goals (first | assumption | wp_step))
 refine codeAny_mono (codeAny_call_builtin ft.plain F.entry_enumerate_new (wpAny_of_eq (en_new (.ref l) k t) (en_made l items n dct sl k t hf prog w A.in1 (wants (fun obj s₁ => s₁.TypeIs obj "enumerate" ∧ Q obj s₁) E) s ⟨hl, ⟨_, he, rfl⟩, fin⟩))) fun r s₁ hr => ?_
 rcases r with e | fl
 ·exact hr
 cases fl with
 | ret obj =>
  obtain ⟨hT, hq⟩ := (show s₁.TypeIs obj "enumerate" ∧ Q obj s₁ from hr)
  have hli := ft.init.lookup
  have hbi := ft.init.bind obj
  repeat (any_goals (first | assumption | wp_step))
  refine codeAny_mono (codeAny_call_builtin ft.init.plain F.entry_object_init (ft.init.check _ _ _ _ _ _ _ _ hT (en_init obj (.ref l) k t) (en_inited (T := "enumerate") (kw := kwS k t) ft.init.lookup ft.made (by decide) prog w A.in1 (wants (fun r s₂ => r = .none ∧ Q obj s₂) E) s₁ ⟨hT, rfl, hq⟩))) fun r₂ s₂ h3 => ?_
  rcases r₂ with e | f2
  ·exact h3
  cases f2 with
  | ret r =>
   obtain ⟨rfl, h4⟩ := (show r = .none ∧ Q obj s₂ from h3)
   repeat (any_goals (first | assumption | wp_step))
  | _ => exact h3.elim
 | _ => exact hr.elim
end
end PySem
namespace L2
open PySem PySem.Spec PyProof.Rows
theorem draws_shift {prog : Program} {w : World} {A : Around} {it : Addr} {fp : List Addr} {n : Nat} {Pv : Nat → Value → Prop} {St : Nat → Heap → Prop} (D : Draws prog w A it fp n Pv St) (m : Nat) :
  Draws prog w A it fp (m + n) (fun i v => m ≤ i ∧ Pv (i - m) v) (fun i h => m ≤ i ∧ St (i - m) h) where
 live := fun _ _ st => D.live _ _ st.2
 frame := fun _ _ _ st hk => ⟨st.1, D.frame _ _ _ st.2 hk⟩
 item := fun i s Q E hi st hQ => D.item (i - m) s Q E (by omega) st.2 fun x h' tk hp hs hb => hQ x h' tk ⟨st.1, hp⟩ ⟨by omega, by rw [show i + 1 - m = i - m + 1 by omega]; exact hs⟩ hb
 done := fun s Q E st hE => D.done s Q E (by have := st.2; rwa [show m + n - m = n by omega] at this) hE
section
variable {M : Model} {A : Around} {E : Value → Shared → Prop} {s : Shared}
theorem callW_typeK {pos : Pos} {T : String} {args : List (Bool × Sem Value)} {kws : List (Option Str × Sem Value)} {Q : Value → Shared → Prop} (hp : args.any (·.1) = false) (hk : kws.any (·.1.isNone) = false)
  (h : wpAny M A (evalArgs (.type T) true args kws) (fun a s₁ => wpAny M A (call (.type T) a.pos a.kw) Q E s₁) E s) : wpAny M A (callWith pos (.type T) [] args kws) Q E s := by
 unfold callWith
 refine wpAny_bind (wpAny_holding ?_)
 refine wpAny_mono h (fun a s₁ h₁ => ?_) fun _ _ x => x
 refine wpAny_bind (wpAny_standAt ?_)
 simp only [hp, hk, Bool.or_false]
 refine wpAny_bind (wpAny_pure (wpAny_bind ?_))
 refine wpAny_mono h₁ (fun r s₂ hr => ?_) fun _ _ x => x
 exact wpAny_bind (wpAny_holding (wpAny_point (wpAny_pure hr)))
end
def Ites (K : W.Frag) (a : Addr) (m : Nat) : It :=
 ⟨fun i H => ∃ xs x, SqL K H a xs ∧ xs[i]? = some x, fun i H v H' => ∃ T x, v = .ref T ∧ H T = none ∧ H' = upd H T (.tup [.int ((m + i : Nat) : Int), x]) ∧ ∀ xs, SqL K H a xs → xs[i]? = some x, fun i H => ∃ xs, SqL K H a xs ∧ xs.length ≤ i⟩
theorem turn_enumS {P : Program} {w : World} {K : W.Frag} {es : List Expr} {k : Nat} {pos : Pos} (a e it : Addr) (m : Nat) (hne : e ≠ it) : Turn P w K (.Tuple es k pos) (Ites K a m) [e, it] e (fun i h => (∃ old, IsEnum h e it ((m + i : Nat) : Int) old) ∧ h.IsListIter it a i) where
 mem := by simp
 obj := fun i h st b hb => by
  obtain ⟨⟨old, he⟩, ⟨o, e1, c, d⟩⟩ := st
  rcases List.mem_cons.mp hb with z | z
  ·subst z
   exact ⟨_, he, fun v z => by cases z⟩
  ·rw [List.mem_singleton.mp z]
   exact ⟨o, e1, fun v z => by rw [d] at z; cases z⟩
 keep := fun i h h' st kk => by
  obtain ⟨⟨old, he⟩, hit⟩ := st
  exact ⟨⟨old, kk e (by simp) _ he⟩, hit.at fun o x => kk it (by simp) o x⟩
 item := by
  intro X hP hw hK hc i pins s σ H E I hf st hg
  subst hP hw hK
  obtain ⟨xs, x, hq, hx⟩ := hg
  obtain ⟨its, rv, p, hz⟩ := I.list hq
  obtain ⟨u, hu, ru⟩ := rv.get hx
  obtain ⟨⟨old, he⟩, hit⟩ := st
  have he' := Heap.lt_size he
  have hi' : it < s.heap.objs.size := by obtain ⟨o, q, _⟩ := hit; exact Heap.lt_size q
  have hil : i < its.length := by
   have := (List.getElem?_eq_some_iff.mp hu).1
   exact this
  have pl := p.isList
  have hai : a ≠ it := fun z => by
   obtain ⟨o1, q1, c1, _⟩ := pl
   obtain ⟨o2, q2, c2, _⟩ := hit
   rw [z, q2] at q1; cases q1
   rw [c2] at c1; simp at c1
  have hae : e ≠ a := fun z => by
   obtain ⟨o1, q1, c1, _⟩ := pl
   rw [← z, he] at q1; cases q1; simp at c1
  have D := draws_shift (Draws.list (prog := X.prog) (w := X.w) (A := X.A.in1) (I.ok.hd hc) it a hai its.toArray) m
  refine wpAny_pyNext_enum_itemD D he ⟨by omega, by rw [show m + i - m = i by omega]; exact ⟨hit, pl⟩⟩ (by simp; omega) hne (by simp [hne, hae]) fun y h' tk hy heo hst hT hsz hk => ?_
  have ey : y = u := by
   have h1 := hy.2
   rw [show m + i - m = i by omega] at h1
   have h2 : its.toArray[i]? = some u := by simpa using hu
   rw [h2] at h1
   exact (Option.some.inj h1).symm
  subst ey
  have hit' := hst.2.1
  rw [show m + i + 1 - m = i + 1 by omega] at hit'
  refine ⟨_, rfl, wpAny_letOwnedTupleGo_enum (s := { s with heap := h', toks := tk + 1 }) heo fun h2 he2 hs2 => ?_⟩
  have hT2 : h2.get? s.heap.objs.size = some { cls := .type "tuple", data := .seq #[.int ((m + i : Nat) : Int) tk, y] } := (hs2.2 _ (Nat.ne_of_gt he')).trans hT
  have I2 : Inv X pins σ (upd H s.heap.objs.size (.tup [.int ((m + i : Nat) : Int), x])) { s with heap := h2, toks := tk + 1 } := by
   refine I.turnLaid (ch := [e, it]) (fun b o hb q => ?_) (Nat.le_refl _) ⟨by simp [sizeLine_eq], [.int ((m + i : Nat) : Int) tk, y], .cons ⟨_, rfl⟩ (.cons ru .nil), ⟨_, hT2, rfl, _, rfl⟩⟩ (fun b hb => (hf b hb).1) (fun b hb => ?_) fun b hb => ?_
   ·have b1 : b ≠ e := fun z => hb (by simp [z])
    have b2 : b ≠ it := fun z => hb (by simp [z])
    exact (hs2.2 b b1).trans (hk b o b1 b2 q)
   ·rcases List.mem_cons.mp hb with z | z
    ·rw [z]; exact he'
    ·rw [List.mem_singleton.mp z]; exact hi'
   ·obtain ⟨f0, f1, f2, f3, f4, f5⟩ := hf b hb
    exact ⟨f3, f1, f4, f5⟩
  refine ⟨.ref s.heap.objs.size, _, I2, rfl, ⟨_, x, rfl, I.hok.fresh (Nat.le_refl _), rfl, fun ys hy => by rw [I.list_inj hy hq]; exact hx⟩, ⟨⟨y, by rw [show ((m + (i + 1) : Nat) : Int) = ((m + i : Nat) : Int) + 1 by omega]; exact he2⟩, hit'.extBut hs2.extBut (Ne.symm hne)⟩, fun b hb => ?_⟩
  have hb' : b ≠ s.heap.objs.size := by
   rcases List.mem_cons.mp hb with z | z
   ·rw [z]; exact Nat.ne_of_lt he'
   ·rw [List.mem_singleton.mp z]; exact Nat.ne_of_lt hi'
  rw [upd_ne hb']
  exact (hf b hb).1
 done := by
  intro X hP hw hK hc i pins s σ H E I hf st hg
  subst hP hw hK
  obtain ⟨xs, hq, hx⟩ := hg
  obtain ⟨its, rv, p, hz⟩ := I.list hq
  obtain ⟨⟨old, he⟩, hit⟩ := st
  obtain ⟨f0, f1, f2, f3, f4, f5⟩ := hf it (by simp)
  have hl := rv.length
  have pl := p.isList
  have D : Draws X.prog X.w X.A.in1 it [it, a] 0 (fun _ _ => False) (fun _ h => h.IsListIter it a i ∧ h.IsList a its.toArray) := {
   live := fun _ _ st => let ⟨o, ho, _⟩ := st.1; ⟨o, ho⟩
   frame := fun _ _ _ st hk => ⟨st.1.at fun o e => hk it (by simp) o e, st.2.at fun o e => hk a (by simp) o e⟩
   item := fun j s Q E hj => absurd hj (Nat.not_lt_zero _)
   done := fun s Q E st hE => wpAny_nextOf_list_end (I.ok.hd hc) st.1 st.2 (by simp; omega) hE }
  exact wpAny_pyNext_enum_endD D he ⟨hit, pl⟩ fun h' eb => ⟨rfl, I.turned (t' := s.toks) (fun b o hb e => eb b o hb e) f0 f1 f3 f4 f5⟩
 self := fun _ _ _ _ _ st h => by
  obtain ⟨⟨old, he⟩, _⟩ := st
  exact wpAny_pyIter_enum he h
section
variable {X : Cx} {es : List Expr} {k : Nat} {tp : Pos}
def iEnumS (K : W.Frag) (ta : TA) (tf : TE) : TI := fun σ H R => ta σ H fun vs H1 => tf σ H1 fun y H2 => ∃ (a : Addr) (m : Nat), vs = [.ref a] ∧ y = .int m ∧ (m : Int) < 2 ^ 62 ∧ (∃ xs, SqL K H2 a xs) ∧ R (Ites K a m) H2
theorem pi_enumS {l fe : Expr} {ta : TA} {tf : TE} {p pos kp : Pos} (hg : Gl X "enumerate") (hm : X.mg "enumerate" = none) (ha : PA X [l] ta) (hf : PE X fe tf)
  (he : backTo pos (starEach [l] X.env) = (false, eval l X.env) :: backTo pos (starEach [] X.env) := by rfl) : PI X (.Tuple es k tp) (.Call (.Name "enumerate" p) [l] [⟨some "start", fe, kp⟩] pos) (iEnumS X.K ta tf) := by
 intro pins s σ H R I h
 refine wpAny_Call_Name_kw (ld_blt I hg hm bt_enumerate ?_)
 refine callW_typeK (by rw [he]; rfl) rfl ?_
 rw [he]
 refine evalArgs_kwB rfl ?_
 rw [← he]
 refine thn (ha pos pins s σ H _ I h) fun us s1 h1 => ?_
 obtain ⟨vs, H1, I1, r1, q1⟩ := h1
 refine kws_cons (thn (hf pins s1 σ H1 _ I1 q1) fun fu s2 h2 => kws_nil ?_)
 obtain ⟨y, H2, I2, r2, a, m, rfl, rfl, hm2, ⟨xs, hq⟩, q⟩ := h2
 obtain ⟨u, rfl, ru⟩ := Vals.one r1
 cases ru
 obtain ⟨tz, rfl⟩ := r2
 obtain ⟨its, rv, pl, hz⟩ := I2.list hq
 show wpAny _ _ (call (.type "enumerate") [.ref a] (kwS m tz)) _ _ s2
 refine call_enumS pl.isList (by simp [Builtin.SmallTypes.fitsIndex]; omega) fun h' he hi hk => wpAny_pyIter_enum (s := { s2 with heap := h' }) he ?_
 refine ⟨s2.heap.objs.size + 1, [s2.heap.objs.size + 1, s2.heap.objs.size], _, _, H2, rfl, I2.kept (t' := s2.toks) hk, turn_enumS a _ _ m (Nat.succ_ne_self _), ⟨⟨.none, by simpa using he⟩, hi⟩, fun b hb => ?_, q⟩
 rcases List.mem_cons.mp hb with z | z
 ·rw [z]; exact I2.fpOk (Nat.le_succ _) (I2.hok.fresh (Nat.le_succ _))
 ·rw [List.mem_singleton.mp z]; exact I2.fpOk (Nat.le_refl _) (I2.hok.fresh (Nat.le_refl _))
end
theorem forAt_enumS {K : W.Frag} {l : Addr} {n : Nat} {xs : List V} {g : TG} {tb : TS} {D : Ends} {σ : St} {H : Hp} (Pv : Nat → St → Hp → Prop) (h0 : Pv 0 σ H) (hl : ∀ i σ H, i ≤ xs.length → Pv i σ H → SqL K H l xs)
  (hs : ∀ i x σ H T, xs[i]? = some x → Pv i σ H → H T = none → g (.ref T) σ (upd H T (.tup [.int ((n + i : Nat) : Int), x])) fun σ2 H2 => tb { D with nx := Pv (i + 1), ct := Pv (i + 1), bk := D.nx } σ2 H2) (hd : ∀ σ H, Pv xs.length σ H → D.nx σ H) : ForAt (Ites K l n) g tb D σ H := by
 unfold ForAt
 refine ⟨fun i m σ H => m = xs.length - i ∧ i ≤ xs.length ∧ Pv i σ H, ⟨xs.length, by simp, Nat.zero_le _, h0⟩, ?_⟩
 rintro i m σ H ⟨rfl, hi, p⟩
 have hq := hl i σ H hi p
 by_cases hlt : i < xs.length
 ·have hx : xs[i]? = some xs[i] := List.getElem?_eq_getElem hlt
  refine .inr ⟨⟨xs, xs[i], hq, hx⟩, Pv (i + 1), fun σ' H' p' => ⟨xs.length - (i + 1), by omega, rfl, hlt, p'⟩, fun v H' y => ?_⟩
  obtain ⟨T, x, rfl, hT, rfl, hx'⟩ := y
  exact hs i x σ H T (hx' xs hq) p hT
 ·obtain rfl : i = xs.length := by omega
  exact .inl ⟨⟨xs, hq, Nat.le_refl _⟩, hd σ H p⟩
end L2
namespace L2
open PySem PySem.Spec PyProof.Rows
theorem comp_tupF {K : W.Frag} {l : Addr} {xs : List V} {tt : TT} {te : TE} {caps : L2.St} {Q : VK} {H2 : Hp} (p : V → Bool) (f : V → V) (hl : SqT K H2 l xs) (hn : xs.length < sizeLine)
  (ht : ∀ (x : V) (H3 : Hp), x ∈ xs → Same H2 H3 → ∀ R : Bool → Hp → Prop, (∀ H6, Same H3 H6 → R (p x) H6) → tt (some x :: caps) H3 R)
  (hs : ∀ (x : V) (H3 : Hp), x ∈ xs → p x = true → Same H2 H3 → ∀ R : VK, (∀ H6, Same H3 H6 → R (f x) H6) → te (some x :: caps) H3 R)
  (hd : ∀ D H', H2 D = none → Same H2 H' → H' D = some (.lst ((xs.filter p).map f)) → Q (.ref D) H') : CompAt (Itt K l) caps tt te Q H2 := by
 unfold CompAt
 intro D hD
 refine ⟨fun i m acc H3 => m = xs.length - i ∧ i ≤ xs.length ∧ acc = ((xs.take i).filter p).map f ∧ H3 D = some (.lst acc) ∧ Same H2 H3, ⟨xs.length, by simp, Nat.zero_le _, rfl, upd_same, Same.new hD⟩, ?_⟩
 rintro i m acc H3 ⟨rfl, hi, rfl, hD3, s3⟩
 refine ⟨hD3, ?_⟩
 have q := s3.seqT hl
 by_cases hlt : i < xs.length
 ·have hx : xs[i]? = some xs[i] := List.getElem?_eq_getElem hlt
  have hle : (((xs.take i).filter p).map f).length < sizeLine := by
   rw [List.length_map]
   refine Nat.lt_of_le_of_lt (List.length_filter_le _ _) ?_
   rw [List.length_take]; omega
  have et : xs.take (i + 1) = xs.take i ++ [xs[i]] := by rw [List.take_succ, hx]; rfl
  refine .inr ⟨⟨xs, xs[i], q, hx⟩, hle, fun v H4 y => ?_⟩
  obtain ⟨e, y⟩ := y
  have ev := y xs q
  rw [hx] at ev
  cases ev
  subst e
  refine ht _ _ (List.getElem_mem hlt) s3 _ fun H5 s5 => ⟨fun hp => ?_, fun hp => ?_⟩
  ·refine hs _ _ (List.getElem_mem hlt) hp (s3.trans s5) _ fun H6 s6 => ⟨s6.at (s5.at hD3), xs.length - (i + 1), by omega, rfl, hlt, ?_, upd_same, (s3.trans (s5.trans s6)).put hD⟩
   rw [et, List.filter_append, List.map_append]
   simp [hp]
  ·refine ⟨xs.length - (i + 1), by omega, rfl, hlt, ?_, s5.at hD3, s3.trans s5⟩
   rw [et, List.filter_append, List.map_append]
   simp [hp]
 ·have e : i = xs.length := by omega
  subst e
  rw [List.take_length] at hD3 ⊢
  exact .inl ⟨⟨xs, q, Nat.le_refl _⟩, hd D H3 hD s3 hD3⟩
end L2
namespace K91
open PySem PySem.Spec PyProof.Rows L2
def top (i : Nat) : Stmt := PySem.Challenge.pw_oneroom_k91_whole_judge_is_exact.main.body.getD i (.Pass ⟨0, 0, 0, 0⟩)
abbrev s_Row_init : Stmt := inClass (top 7) 0
abbrev s_Row_covers : Stmt := inClass (top 7) 1
abbrev s_Row_covered : Stmt := inClass (top 7) 2
abbrev s_Take_init : Stmt := inClass (top 8) 0
abbrev s_Take_stays : Stmt := inClass (top 8) 1
abbrev s_Take_reads : Stmt := inClass (top 8) 2
abbrev s_Take_writes : Stmt := inClass (top 8) 3
abbrev s_Take_pieces : Stmt := inClass (top 8) 4
abbrev s_Take_source_for : Stmt := inClass (top 8) 5
abbrev s_Take_sign_for : Stmt := inClass (top 8) 6
abbrev s_Take_told : Stmt := inClass (top 8) 8
abbrev s_Put_init : Stmt := inClass (top 9) 0
abbrev s_Put_reads : Stmt := inClass (top 9) 1
abbrev s_Put_writes : Stmt := inClass (top 9) 2
abbrev s_Put_pieces : Stmt := inClass (top 9) 3
abbrev s_Put_sign_for : Stmt := inClass (top 9) 4
abbrev s_Put_told : Stmt := inClass (top 9) 6
abbrev s_row_of : Stmt := top 10
abbrev s_tells_take : Stmt := top 11
abbrev s_tells_put : Stmt := top 12
abbrev s_are_signs : Stmt := top 13
abbrev s_is_sign : Stmt := top 14
abbrev s_is_whole_from : Stmt := top 15
abbrev s_is_whole : Stmt := top 16
abbrev s_judge : Stmt := top 19
abbrev s_fits_in_size : Stmt := top 20
abbrev s_is_length : Stmt := top 21
abbrev s_first_wrong_row : Stmt := top 22
abbrev s_is_fitting_row : Stmt := top 23
abbrev s_covered_twice : Stmt := top 24
abbrev s_lacking : Stmt := top 25
abbrev s_read_late : Stmt := top 26
abbrev s_pieces_of : Stmt := top 28
abbrev s_go_on : Stmt := top 29
abbrev s_refuse_lengths : Stmt := top 30
abbrev s_refuse_beyond : Stmt := top 31
abbrev s_places_needed : Stmt := top 32
abbrev s_do_piece : Stmt := top 33
abbrev s_Pen_init : Stmt := inClass (top 35) 0
abbrev s_Pen_write_into : Stmt := inClass (top 35) 1
abbrev s_Pen_answer_of_fall : Stmt := inClass (top 35) 2
abbrev s_Store_init : Stmt := inClass (top 36) 0
abbrev s_Store_read : Stmt := inClass (top 36) 1
abbrev s_Store_write : Stmt := inClass (top 36) 2
abbrev s_Store_mark : Stmt := inClass (top 36) 3
abbrev s_Store_noted : Stmt := inClass (top 36) 4
abbrev s_Store_told : Stmt := inClass (top 36) 6
abbrev s_Store_refuse_lacking : Stmt := inClass (top 36) 8
abbrev s_Store_note_down : Stmt := inClass (top 36) 9
abbrev s_cell_at : Stmt := top 38
abbrev s_mixed : Stmt := top 39
abbrev s_cuts : Stmt := top 40
abbrev s_tiles : Stmt := top 41
abbrev s_ordered : Stmt := top 42
abbrev s_paper : Stmt := top 43
abbrev s_meant : Stmt := top 44
abbrev s_covers : Stmt := top 45
abbrev s_first : Stmt := top 46
abbrev s_law : Stmt := top 47
abbrev c_do_piece : Addr := 393
abbrev P_do_piece : Addr := 389
def qs_do_piece : List (Pos × Str) := [(⟨210, 45, 210, 70⟩, "do_piece.<locals>.<lambda>")]
abbrev c_Store_write : Addr := 457
abbrev P_Store_write : Addr := 453
def qs_Store_write : List (Pos × Str) := [(⟨247, 50, 247, 69⟩, "Store.write.<locals>.<lambda>")]
abbrev c_Store_note_down : Addr := 504
abbrev P_Store_note_down : Addr := 500
def qs_Store_note_down : List (Pos × Str) := [(⟨269, 52, 269, 70⟩, "Store.note_down.<locals>.<lambda>")]
set_option genInjectivity false in
set_option genSizeOf false in
set_option genSizeOfSpec false in
structure Adr where
 f_Row_init : Addr
 d_Row_init : FuncData
 f_Row_covers : Addr
 d_Row_covers : FuncData
 f_Row_covered : Addr
 d_Row_covered : FuncData
 f_Take_init : Addr
 d_Take_init : FuncData
 f_Take_stays : Addr
 d_Take_stays : FuncData
 f_Take_reads : Addr
 d_Take_reads : FuncData
 f_Take_writes : Addr
 d_Take_writes : FuncData
 f_Take_pieces : Addr
 d_Take_pieces : FuncData
 f_Take_source_for : Addr
 d_Take_source_for : FuncData
 f_Take_sign_for : Addr
 d_Take_sign_for : FuncData
 f_Take_told : Addr
 d_Take_told : FuncData
 f_Put_init : Addr
 d_Put_init : FuncData
 f_Put_reads : Addr
 d_Put_reads : FuncData
 f_Put_writes : Addr
 d_Put_writes : FuncData
 f_Put_pieces : Addr
 d_Put_pieces : FuncData
 f_Put_sign_for : Addr
 d_Put_sign_for : FuncData
 f_Put_told : Addr
 d_Put_told : FuncData
 f_row_of : Addr
 d_row_of : FuncData
 f_tells_take : Addr
 d_tells_take : FuncData
 f_tells_put : Addr
 d_tells_put : FuncData
 f_are_signs : Addr
 d_are_signs : FuncData
 f_is_sign : Addr
 d_is_sign : FuncData
 f_is_whole_from : Addr
 d_is_whole_from : FuncData
 f_is_whole : Addr
 d_is_whole : FuncData
 f_judge : Addr
 d_judge : FuncData
 f_fits_in_size : Addr
 d_fits_in_size : FuncData
 f_is_length : Addr
 d_is_length : FuncData
 f_first_wrong_row : Addr
 d_first_wrong_row : FuncData
 f_is_fitting_row : Addr
 d_is_fitting_row : FuncData
 f_covered_twice : Addr
 d_covered_twice : FuncData
 f_lacking : Addr
 d_lacking : FuncData
 f_read_late : Addr
 d_read_late : FuncData
 f_pieces_of : Addr
 d_pieces_of : FuncData
 f_go_on : Addr
 d_go_on : FuncData
 f_refuse_lengths : Addr
 d_refuse_lengths : FuncData
 f_refuse_beyond : Addr
 d_refuse_beyond : FuncData
 f_places_needed : Addr
 d_places_needed : FuncData
 f_do_piece : Addr
 d_do_piece : FuncData
 f_Pen_init : Addr
 d_Pen_init : FuncData
 f_Pen_write_into : Addr
 d_Pen_write_into : FuncData
 f_Pen_answer_of_fall : Addr
 d_Pen_answer_of_fall : FuncData
 f_Store_init : Addr
 d_Store_init : FuncData
 f_Store_read : Addr
 d_Store_read : FuncData
 f_Store_write : Addr
 d_Store_write : FuncData
 f_Store_mark : Addr
 d_Store_mark : FuncData
 f_Store_noted : Addr
 d_Store_noted : FuncData
 f_Store_told : Addr
 d_Store_told : FuncData
 f_Store_refuse_lacking : Addr
 d_Store_refuse_lacking : FuncData
 f_Store_note_down : Addr
 d_Store_note_down : FuncData
 f_cell_at : Addr
 d_cell_at : FuncData
 f_mixed : Addr
 d_mixed : FuncData
 f_cuts : Addr
 d_cuts : FuncData
 f_tiles : Addr
 d_tiles : FuncData
 f_ordered : Addr
 d_ordered : FuncData
 f_paper : Addr
 d_paper : FuncData
 f_meant : Addr
 d_meant : FuncData
 f_covers : Addr
 d_covers : FuncData
 f_first : Addr
 d_first : FuncData
 f_law : Addr
 d_law : FuncData
 C_Row : Addr
 C_Take : Addr
 C_Put : Addr
 C_Pen : Addr
 C_Store : Addr
 t_MOST : Tok
structure Txt (K : W.Frag) (mg : Str → Option Value) (a : Adr) : Prop where
 F_Row_init : Fun K "__init__" "Row.__init__" s_Row_init a.f_Row_init a.d_Row_init
 b_Row_init : Binds K a.d_Row_init ["self", "to"] []
 F_Row_covers : Fun K "covers" "Row.covers" s_Row_covers a.f_Row_covers a.d_Row_covers
 b_Row_covers : Binds K a.d_Row_covers ["self"] []
 F_Row_covered : Fun K "covered" "Row.covered" s_Row_covered a.f_Row_covered a.d_Row_covered
 b_Row_covered : Binds K a.d_Row_covered ["self"] []
 F_Take_init : Fun K "__init__" "Take.__init__" s_Take_init a.f_Take_init a.d_Take_init
 b_Take_init : Binds K a.d_Take_init ["self", "to", "start", "count"] []
 F_Take_stays : Fun K "stays" "Take.stays" s_Take_stays a.f_Take_stays a.d_Take_stays
 b_Take_stays : Binds K a.d_Take_stays ["self"] []
 F_Take_reads : Fun K "reads" "Take.reads" s_Take_reads a.f_Take_reads a.d_Take_reads
 b_Take_reads : Binds K a.d_Take_reads ["self"] []
 F_Take_writes : Fun K "writes" "Take.writes" s_Take_writes a.f_Take_writes a.d_Take_writes
 b_Take_writes : Binds K a.d_Take_writes ["self"] []
 F_Take_pieces : Fun K "pieces" "Take.pieces" s_Take_pieces a.f_Take_pieces a.d_Take_pieces
 b_Take_pieces : Binds K a.d_Take_pieces ["self"] []
 F_Take_source_for : Fun K "source_for" "Take.source_for" s_Take_source_for a.f_Take_source_for a.d_Take_source_for
 b_Take_source_for : Binds K a.d_Take_source_for ["self", "cell"] []
 F_Take_sign_for : Fun K "sign_for" "Take.sign_for" s_Take_sign_for a.f_Take_sign_for a.d_Take_sign_for
 b_Take_sign_for : Binds K a.d_Take_sign_for ["self", "cell", "read"] []
 F_Take_told : Fun K "told" "Take.told" s_Take_told a.f_Take_told a.d_Take_told
 b_Take_told : Binds K a.d_Take_told ["self"] []
 F_Put_init : Fun K "__init__" "Put.__init__" s_Put_init a.f_Put_init a.d_Put_init
 b_Put_init : Binds K a.d_Put_init ["self", "to", "signs"] []
 F_Put_reads : Fun K "reads" "Put.reads" s_Put_reads a.f_Put_reads a.d_Put_reads
 b_Put_reads : Binds K a.d_Put_reads ["self"] []
 F_Put_writes : Fun K "writes" "Put.writes" s_Put_writes a.f_Put_writes a.d_Put_writes
 b_Put_writes : Binds K a.d_Put_writes ["self"] []
 F_Put_pieces : Fun K "pieces" "Put.pieces" s_Put_pieces a.f_Put_pieces a.d_Put_pieces
 b_Put_pieces : Binds K a.d_Put_pieces ["self"] []
 F_Put_sign_for : Fun K "sign_for" "Put.sign_for" s_Put_sign_for a.f_Put_sign_for a.d_Put_sign_for
 b_Put_sign_for : Binds K a.d_Put_sign_for ["self", "cell", "read"] []
 F_Put_told : Fun K "told" "Put.told" s_Put_told a.f_Put_told a.d_Put_told
 b_Put_told : Binds K a.d_Put_told ["self"] []
 F_row_of : Fun K "row_of" "row_of" s_row_of a.f_row_of a.d_row_of
 b_row_of : Binds K a.d_row_of ["told"] []
 m_row_of : mg "row_of" = some (.ref a.f_row_of)
 F_tells_take : Fun K "tells_take" "tells_take" s_tells_take a.f_tells_take a.d_tells_take
 b_tells_take : Binds K a.d_tells_take ["told"] []
 m_tells_take : mg "tells_take" = some (.ref a.f_tells_take)
 F_tells_put : Fun K "tells_put" "tells_put" s_tells_put a.f_tells_put a.d_tells_put
 b_tells_put : Binds K a.d_tells_put ["told"] []
 m_tells_put : mg "tells_put" = some (.ref a.f_tells_put)
 F_are_signs : Fun K "are_signs" "are_signs" s_are_signs a.f_are_signs a.d_are_signs
 b_are_signs : Binds K a.d_are_signs ["signs"] []
 m_are_signs : mg "are_signs" = some (.ref a.f_are_signs)
 F_is_sign : Fun K "is_sign" "is_sign" s_is_sign a.f_is_sign a.d_is_sign
 b_is_sign : Binds K a.d_is_sign ["value"] []
 m_is_sign : mg "is_sign" = some (.ref a.f_is_sign)
 F_is_whole_from : Fun K "is_whole_from" "is_whole_from" s_is_whole_from a.f_is_whole_from a.d_is_whole_from
 b_is_whole_from : Binds K a.d_is_whole_from ["least", "value"] []
 m_is_whole_from : mg "is_whole_from" = some (.ref a.f_is_whole_from)
 F_is_whole : Fun K "is_whole" "is_whole" s_is_whole a.f_is_whole a.d_is_whole
 b_is_whole : Binds K a.d_is_whole ["value"] []
 m_is_whole : mg "is_whole" = some (.ref a.f_is_whole)
 F_judge : Fun K "judge" "judge" s_judge a.f_judge a.d_judge
 b_judge : Binds K a.d_judge ["paper"] []
 m_judge : mg "judge" = some (.ref a.f_judge)
 F_fits_in_size : Fun K "fits_in_size" "fits_in_size" s_fits_in_size a.f_fits_in_size a.d_fits_in_size
 b_fits_in_size : Binds K a.d_fits_in_size ["paper"] []
 m_fits_in_size : mg "fits_in_size" = some (.ref a.f_fits_in_size)
 F_is_length : Fun K "is_length" "is_length" s_is_length a.f_is_length a.d_is_length
 b_is_length : Binds K a.d_is_length ["value"] []
 m_is_length : mg "is_length" = some (.ref a.f_is_length)
 F_first_wrong_row : Fun K "first_wrong_row" "first_wrong_row" s_first_wrong_row a.f_first_wrong_row a.d_first_wrong_row
 b_first_wrong_row : Binds K a.d_first_wrong_row ["paper"] []
 m_first_wrong_row : mg "first_wrong_row" = some (.ref a.f_first_wrong_row)
 F_is_fitting_row : Fun K "is_fitting_row" "is_fitting_row" s_is_fitting_row a.f_is_fitting_row a.d_is_fitting_row
 b_is_fitting_row : Binds K a.d_is_fitting_row ["told", "old", "new"] []
 m_is_fitting_row : mg "is_fitting_row" = some (.ref a.f_is_fitting_row)
 F_covered_twice : Fun K "covered_twice" "covered_twice" s_covered_twice a.f_covered_twice a.d_covered_twice
 b_covered_twice : Binds K a.d_covered_twice ["rows"] []
 m_covered_twice : mg "covered_twice" = some (.ref a.f_covered_twice)
 F_lacking : Fun K "lacking" "lacking" s_lacking a.f_lacking a.d_lacking
 b_lacking : Binds K a.d_lacking ["rows", "new"] []
 m_lacking : mg "lacking" = some (.ref a.f_lacking)
 F_read_late : Fun K "read_late" "read_late" s_read_late a.f_read_late a.d_read_late
 b_read_late : Binds K a.d_read_late ["rows"] []
 m_read_late : mg "read_late" = some (.ref a.f_read_late)
 F_pieces_of : Fun K "pieces_of" "pieces_of" s_pieces_of a.f_pieces_of a.d_pieces_of
 b_pieces_of : Binds K a.d_pieces_of ["paper"] []
 m_pieces_of : mg "pieces_of" = some (.ref a.f_pieces_of)
 F_go_on : Fun K "go_on" "go_on" s_go_on a.f_go_on a.d_go_on
 b_go_on : Binds K a.d_go_on ["store", "paper"] []
 m_go_on : mg "go_on" = some (.ref a.f_go_on)
 F_refuse_lengths : Fun K "refuse_lengths" "refuse_lengths" s_refuse_lengths a.f_refuse_lengths a.d_refuse_lengths
 b_refuse_lengths : Binds K a.d_refuse_lengths ["size", "paper"] []
 m_refuse_lengths : mg "refuse_lengths" = some (.ref a.f_refuse_lengths)
 F_refuse_beyond : Fun K "refuse_beyond" "refuse_beyond" s_refuse_beyond a.f_refuse_beyond a.d_refuse_beyond
 b_refuse_beyond : Binds K a.d_refuse_beyond ["size", "pieces"] []
 m_refuse_beyond : mg "refuse_beyond" = some (.ref a.f_refuse_beyond)
 F_places_needed : Fun K "places_needed" "places_needed" s_places_needed a.f_places_needed a.d_places_needed
 b_places_needed : Binds K a.d_places_needed ["row", "cells"] []
 m_places_needed : mg "places_needed" = some (.ref a.f_places_needed)
 F_do_piece : Fun K "do_piece" "do_piece" s_do_piece a.f_do_piece a.d_do_piece
 b_do_piece : Binds K a.d_do_piece ["store", "row", "cells"] []
 m_do_piece : mg "do_piece" = some (.ref a.f_do_piece)
 tk_do_piece : TabK K c_do_piece P_do_piece
 cd_do_piece : a.d_do_piece.code = .ref c_do_piece
 F_Pen_init : Fun K "__init__" "Pen.__init__" s_Pen_init a.f_Pen_init a.d_Pen_init
 b_Pen_init : Binds K a.d_Pen_init ["self", "fall"] []
 F_Pen_write_into : Fun K "write_into" "Pen.write_into" s_Pen_write_into a.f_Pen_write_into a.d_Pen_write_into
 b_Pen_write_into : Binds K a.d_Pen_write_into ["self", "kept", "at", "value", "torn"] []
 F_Pen_answer_of_fall : Fun K "answer_of_fall" "Pen.answer_of_fall" s_Pen_answer_of_fall a.f_Pen_answer_of_fall a.d_Pen_answer_of_fall
 b_Pen_answer_of_fall : Binds K a.d_Pen_answer_of_fall ["self", "count"] []
 F_Store_init : FunD K "__init__" "Store.__init__" s_Store_init a.f_Store_init a.d_Store_init [.none]
 bd_Store_init : Binds K a.d_Store_init ["self", "cells", "fall"] [.none]
 b_Store_init : Binds K a.d_Store_init ["self", "cells", "fall"] []
 F_Store_read : Fun K "read" "Store.read" s_Store_read a.f_Store_read a.d_Store_read
 b_Store_read : Binds K a.d_Store_read ["self", "at"] []
 F_Store_write : Fun K "write" "Store.write" s_Store_write a.f_Store_write a.d_Store_write
 b_Store_write : Binds K a.d_Store_write ["self", "at", "sign"] []
 tk_Store_write : TabK K c_Store_write P_Store_write
 cd_Store_write : a.d_Store_write.code = .ref c_Store_write
 F_Store_mark : Fun K "mark" "Store.mark" s_Store_mark a.f_Store_mark a.d_Store_mark
 b_Store_mark : Binds K a.d_Store_mark ["self", "number"] []
 F_Store_noted : Fun K "noted" "Store.noted" s_Store_noted a.f_Store_noted a.d_Store_noted
 b_Store_noted : Binds K a.d_Store_noted ["self"] []
 F_Store_told : Fun K "told" "Store.told" s_Store_told a.f_Store_told a.d_Store_told
 b_Store_told : Binds K a.d_Store_told ["self"] []
 F_Store_refuse_lacking : Fun K "refuse_lacking" "Store.refuse_lacking" s_Store_refuse_lacking a.f_Store_refuse_lacking a.d_Store_refuse_lacking
 b_Store_refuse_lacking : Binds K a.d_Store_refuse_lacking ["self", "at"] []
 F_Store_note_down : Fun K "note_down" "Store.note_down" s_Store_note_down a.f_Store_note_down a.d_Store_note_down
 b_Store_note_down : Binds K a.d_Store_note_down ["self", "at", "number"] []
 tk_Store_note_down : TabK K c_Store_note_down P_Store_note_down
 cd_Store_note_down : a.d_Store_note_down.code = .ref c_Store_note_down
 F_cell_at : Fun K "_law_cell_at" "_law_cell_at" s_cell_at a.f_cell_at a.d_cell_at
 b_cell_at : Binds K a.d_cell_at ["_law_script", "_law_k"] []
 m_cell_at : mg "_law_cell_at" = some (.ref a.f_cell_at)
 F_mixed : Fun K "_law_mixed" "_law_mixed" s_mixed a.f_mixed a.d_mixed
 b_mixed : Binds K a.d_mixed ["_law_cell", "_law_k"] []
 m_mixed : mg "_law_mixed" = some (.ref a.f_mixed)
 F_cuts : Fun K "_law_cuts" "_law_cuts" s_cuts a.f_cuts a.d_cuts
 b_cuts : Binds K a.d_cuts ["_law_size", "_law_cell"] []
 m_cuts : mg "_law_cuts" = some (.ref a.f_cuts)
 F_tiles : Fun K "_law_tiles" "_law_tiles" s_tiles a.f_tiles a.d_tiles
 b_tiles : Binds K a.d_tiles ["_law_old", "_law_new", "_law_cell"] []
 m_tiles : mg "_law_tiles" = some (.ref a.f_tiles)
 F_ordered : Fun K "_law_ordered" "_law_ordered" s_ordered a.f_ordered a.d_ordered
 b_ordered : Binds K a.d_ordered ["_law_rows", "_law_cell"] []
 m_ordered : mg "_law_ordered" = some (.ref a.f_ordered)
 F_paper : Fun K "_law_paper" "_law_paper" s_paper a.f_paper a.d_paper
 b_paper : Binds K a.d_paper ["_law_script"] []
 m_paper : mg "_law_paper" = some (.ref a.f_paper)
 F_meant : Fun K "_law_meant" "_law_meant" s_meant a.f_meant a.d_meant
 b_meant : Binds K a.d_meant ["_law_paper_here", "_law_elder"] []
 m_meant : mg "_law_meant" = some (.ref a.f_meant)
 F_covers : Fun K "_law_covers" "_law_covers" s_covers a.f_covers a.d_covers
 b_covers : Binds K a.d_covers ["_law_row", "_law_cell"] []
 m_covers : mg "_law_covers" = some (.ref a.f_covers)
 F_first : Fun K "_law_first" "_law_first" s_first a.f_first a.d_first
 b_first : Binds K a.d_first ["_law_rows"] []
 m_first : mg "_law_first" = some (.ref a.f_first)
 F_law : Fun K "law" "law" s_law a.f_law a.d_law
 b_law : Binds K a.d_law ["_law_script"] []
 m_Row : mg "Row" = some (.ref a.C_Row)
 c_Row : Cls K a.C_Row
 na_Row_count : NoAttr K a.C_Row "count"
 na_Row_to : NoAttr K a.C_Row "to"
 m_Take : mg "Take" = some (.ref a.C_Take)
 c_Take : Cls K a.C_Take
 na_Take_count : NoAttr K a.C_Take "count"
 na_Take_source : NoAttr K a.C_Take "source"
 na_Take_to : NoAttr K a.C_Take "to"
 mk_Take : Mk K a.C_Take a.f_Take_init
 m_Put : mg "Put" = some (.ref a.C_Put)
 c_Put : Cls K a.C_Put
 na_Put_count : NoAttr K a.C_Put "count"
 na_Put_signs : NoAttr K a.C_Put "signs"
 na_Put_to : NoAttr K a.C_Put "to"
 mk_Put : Mk K a.C_Put a.f_Put_init
 m_Pen : mg "Pen" = some (.ref a.C_Pen)
 c_Pen : Cls K a.C_Pen
 na_Pen_asked : NoAttr K a.C_Pen "asked"
 na_Pen_fall : NoAttr K a.C_Pen "fall"
 mk_Pen : Mk K a.C_Pen a.f_Pen_init
 m_Store : mg "Store" = some (.ref a.C_Store)
 c_Store : Cls K a.C_Store
 na_Store_cells : NoAttr K a.C_Store "cells"
 na_Store_notes : NoAttr K a.C_Store "notes"
 na_Store_pen : NoAttr K a.C_Store "pen"
 mk_Store : Mk K a.C_Store a.f_Store_init
 ic_Put : ∀ {H : Hp} {o dx : Addr} {fs : List (Str × V)}, H o = some (.ins a.C_Put dx fs) → TyOf K H (.ref o) (.ref a.C_Put)
 ic_Take : ∀ {H : Hp} {o dx : Addr} {fs : List (Str × V)}, H o = some (.ins a.C_Take dx fs) → TyOf K H (.ref o) (.ref a.C_Take)
 ik_Put_Take : W.kitOne K (.ref a.C_Put) (.ref a.C_Take) = some false
 ik_Take_Take : W.kitOne K (.ref a.C_Take) (.ref a.C_Take) = some true
 m_MOST : mg "MOST" = some (.int 300 a.t_MOST)
 me_Pen_answer_of_fall : Meth K a.C_Pen "answer_of_fall" a.f_Pen_answer_of_fall
 me_Pen_write_into : Meth K a.C_Pen "write_into" a.f_Pen_write_into
 me_Put_covered : Meth K a.C_Put "covered" a.f_Row_covered
 me_Put_covers : Meth K a.C_Put "covers" a.f_Row_covers
 me_Put_pieces : Meth K a.C_Put "pieces" a.f_Put_pieces
 me_Put_reads : Meth K a.C_Put "reads" a.f_Put_reads
 me_Put_sign_for : Meth K a.C_Put "sign_for" a.f_Put_sign_for
 me_Put_writes : Meth K a.C_Put "writes" a.f_Put_writes
 me_Store_mark : Meth K a.C_Store "mark" a.f_Store_mark
 me_Store_note_down : Meth K a.C_Store "note_down" a.f_Store_note_down
 me_Store_noted : Meth K a.C_Store "noted" a.f_Store_noted
 me_Store_read : Meth K a.C_Store "read" a.f_Store_read
 me_Store_refuse_lacking : Meth K a.C_Store "refuse_lacking" a.f_Store_refuse_lacking
 me_Store_told : Meth K a.C_Store "told" a.f_Store_told
 me_Store_write : Meth K a.C_Store "write" a.f_Store_write
 me_Take_covered : Meth K a.C_Take "covered" a.f_Row_covered
 me_Take_covers : Meth K a.C_Take "covers" a.f_Row_covers
 me_Take_pieces : Meth K a.C_Take "pieces" a.f_Take_pieces
 me_Take_reads : Meth K a.C_Take "reads" a.f_Take_reads
 me_Take_sign_for : Meth K a.C_Take "sign_for" a.f_Take_sign_for
 me_Take_source_for : Meth K a.C_Take "source_for" a.f_Take_source_for
 me_Take_stays : Meth K a.C_Take "stays" a.f_Take_stays
 me_Take_writes : Meth K a.C_Take "writes" a.f_Take_writes
 cm_Row_init : ClsM K a.C_Row "__init__" a.f_Row_init
 n_abs : mg "abs" = none
 n_all : mg "all" = none
 n_bool : mg "bool" = none
 n_enumerate : mg "enumerate" = none
 n_int : mg "int" = none
 n_isinstance : mg "isinstance" = none
 n_len : mg "len" = none
 n_list : mg "list" = none
 n_max : mg "max" = none
 n_min : mg "min" = none
 n_range : mg "range" = none
 n_sorted : mg "sorted" = none
 n_tuple : mg "tuple" = none
theorem sc_Row_init : FnScope ["self", "to"] ["self", "to"] (defScope s_Row_init) := ⟨rfl, rfl, rfl, by decide +kernel, rfl, by decide +kernel, by decide +kernel⟩
theorem sc_Row_covers : FnScope ["self"] ["self"] (defScope s_Row_covers) := ⟨rfl, rfl, rfl, by decide +kernel, rfl, by decide +kernel, by decide +kernel⟩
theorem sc_Row_covered : FnScope ["self"] ["self"] (defScope s_Row_covered) := ⟨rfl, rfl, rfl, by decide +kernel, rfl, by decide +kernel, by decide +kernel⟩
theorem sc_Take_init : FnScope ["self", "to", "start", "count"] ["self", "to", "start", "count"] (defScope s_Take_init) := ⟨rfl, rfl, rfl, by decide +kernel, rfl, by decide +kernel, by decide +kernel⟩
theorem sc_Take_stays : FnScope ["self"] ["self"] (defScope s_Take_stays) := ⟨rfl, rfl, rfl, by decide +kernel, rfl, by decide +kernel, by decide +kernel⟩
theorem sc_Take_reads : FnScope ["self"] ["self"] (defScope s_Take_reads) := ⟨rfl, rfl, rfl, by decide +kernel, rfl, by decide +kernel, by decide +kernel⟩
theorem sc_Take_writes : FnScope ["self"] ["self"] (defScope s_Take_writes) := ⟨rfl, rfl, rfl, by decide +kernel, rfl, by decide +kernel, by decide +kernel⟩
theorem sc_Take_pieces : FnScope ["self", "first", "end", "step"] ["self"] (defScope s_Take_pieces) := ⟨rfl, rfl, rfl, by decide +kernel, rfl, by decide +kernel, by decide +kernel⟩
theorem sc_Take_source_for : FnScope ["self", "cell"] ["self", "cell"] (defScope s_Take_source_for) := ⟨rfl, rfl, rfl, by decide +kernel, rfl, by decide +kernel, by decide +kernel⟩
theorem sc_Take_sign_for : FnScope ["self", "cell", "read"] ["self", "cell", "read"] (defScope s_Take_sign_for) := ⟨rfl, rfl, rfl, by decide +kernel, rfl, by decide +kernel, by decide +kernel⟩
theorem sc_Put_init : FnScope ["self", "to", "signs"] ["self", "to", "signs"] (defScope s_Put_init) := ⟨rfl, rfl, rfl, by decide +kernel, rfl, by decide +kernel, by decide +kernel⟩
theorem sc_Put_reads : FnScope ["self"] ["self"] (defScope s_Put_reads) := ⟨rfl, rfl, rfl, by decide +kernel, rfl, by decide +kernel, by decide +kernel⟩
theorem sc_Put_writes : FnScope ["self"] ["self"] (defScope s_Put_writes) := ⟨rfl, rfl, rfl, by decide +kernel, rfl, by decide +kernel, by decide +kernel⟩
theorem sc_Put_pieces : FnScope ["self"] ["self"] (defScope s_Put_pieces) := ⟨rfl, rfl, rfl, by decide +kernel, rfl, by decide +kernel, by decide +kernel⟩
theorem sc_Put_sign_for : FnScope ["self", "cell", "read"] ["self", "cell", "read"] (defScope s_Put_sign_for) := ⟨rfl, rfl, rfl, by decide +kernel, rfl, by decide +kernel, by decide +kernel⟩
theorem sc_row_of : FnScope ["told"] ["told"] (defScope s_row_of) := ⟨rfl, rfl, rfl, by decide +kernel, rfl, by decide +kernel, by decide +kernel⟩
theorem sc_tells_take : FnScope ["told"] ["told"] (defScope s_tells_take) := ⟨rfl, rfl, rfl, by decide +kernel, rfl, by decide +kernel, by decide +kernel⟩
theorem sc_tells_put : FnScope ["told"] ["told"] (defScope s_tells_put) := ⟨rfl, rfl, rfl, by decide +kernel, rfl, by decide +kernel, by decide +kernel⟩
theorem sc_are_signs : FnScope ["signs"] ["signs"] (defScope s_are_signs) := ⟨rfl, rfl, rfl, by decide +kernel, rfl, by decide +kernel, by decide +kernel⟩
theorem sc_is_sign : FnScope ["value"] ["value"] (defScope s_is_sign) := ⟨rfl, rfl, rfl, by decide +kernel, rfl, by decide +kernel, by decide +kernel⟩
theorem sc_is_whole_from : FnScope ["least", "value"] ["least", "value"] (defScope s_is_whole_from) := ⟨rfl, rfl, rfl, by decide +kernel, rfl, by decide +kernel, by decide +kernel⟩
theorem sc_is_whole : FnScope ["value"] ["value"] (defScope s_is_whole) := ⟨rfl, rfl, rfl, by decide +kernel, rfl, by decide +kernel, by decide +kernel⟩
theorem sc_judge : FnScope ["paper", "wrong", "rows", "fault"] ["paper"] (defScope s_judge) := ⟨rfl, rfl, rfl, by decide +kernel, rfl, by decide +kernel, by decide +kernel⟩
theorem sc_fits_in_size : FnScope ["paper"] ["paper"] (defScope s_fits_in_size) := ⟨rfl, rfl, rfl, by decide +kernel, rfl, by decide +kernel, by decide +kernel⟩
theorem sc_is_length : FnScope ["value"] ["value"] (defScope s_is_length) := ⟨rfl, rfl, rfl, by decide +kernel, rfl, by decide +kernel, by decide +kernel⟩
theorem sc_first_wrong_row : FnScope ["paper", "number", "told"] ["paper"] (defScope s_first_wrong_row) := ⟨rfl, rfl, rfl, by decide +kernel, rfl, by decide +kernel, by decide +kernel⟩
theorem sc_is_fitting_row : FnScope ["told", "old", "new", "row"] ["told", "old", "new"] (defScope s_is_fitting_row) := ⟨rfl, rfl, rfl, by decide +kernel, rfl, by decide +kernel, by decide +kernel⟩
theorem sc_covered_twice : FnScope ["rows", "covered", "number", "row", "cell"] ["rows"] (defScope s_covered_twice) := ⟨rfl, rfl, rfl, by decide +kernel, rfl, by decide +kernel, by decide +kernel⟩
theorem sc_lacking : FnScope ["rows", "new", "covered", "row", "cell"] ["rows", "new"] (defScope s_lacking) := ⟨rfl, rfl, rfl, by decide +kernel, rfl, by decide +kernel, by decide +kernel⟩
theorem sc_read_late : FnScope ["rows", "written", "number", "row", "cell"] ["rows"] (defScope s_read_late) := ⟨rfl, rfl, rfl, by decide +kernel, rfl, by decide +kernel, by decide +kernel⟩
theorem sc_pieces_of : FnScope ["paper", "pieces", "told"] ["paper"] (defScope s_pieces_of) := ⟨rfl, rfl, rfl, by decide +kernel, rfl, by decide +kernel, by decide +kernel⟩
theorem sc_go_on : FnScope ["store", "paper", "size", "pieces", "first", "left", "number", "piece"] ["store", "paper"] (defScope s_go_on) := ⟨rfl, rfl, rfl, by decide +kernel, rfl, by decide +kernel, by decide +kernel⟩
theorem sc_refuse_lengths : FnScope ["size", "paper", "greater"] ["size", "paper"] (defScope s_refuse_lengths) := ⟨rfl, rfl, rfl, by decide +kernel, rfl, by decide +kernel, by decide +kernel⟩
theorem sc_refuse_beyond : FnScope ["size", "pieces", "told", "cells", "at"] ["size", "pieces"] (defScope s_refuse_beyond) := ⟨rfl, rfl, rfl, by decide +kernel, rfl, by decide +kernel, by decide +kernel⟩
theorem sc_places_needed : FnScope ["row", "cells", "places", "cell"] ["row", "cells"] (defScope s_places_needed) := ⟨rfl, rfl, rfl, by decide +kernel, rfl, by decide +kernel, by decide +kernel⟩
theorem sc_do_piece : FnScope ["store", "row", "cells", "cell"] ["store", "row", "cells"] (defScope s_do_piece) := ⟨rfl, rfl, rfl, by decide +kernel, rfl, by decide +kernel, by decide +kernel⟩
theorem sc_Pen_init : FnScope ["self", "fall"] ["self", "fall"] (defScope s_Pen_init) := ⟨rfl, rfl, rfl, by decide +kernel, rfl, by decide +kernel, by decide +kernel⟩
theorem sc_Pen_write_into : FnScope ["self", "kept", "at", "value", "torn", "count", "answer"] ["self", "kept", "at", "value", "torn"] (defScope s_Pen_write_into) := ⟨rfl, rfl, rfl, by decide +kernel, rfl, by decide +kernel, by decide +kernel⟩
theorem sc_Pen_answer_of_fall : FnScope ["self", "count", "fall"] ["self", "count"] (defScope s_Pen_answer_of_fall) := ⟨rfl, rfl, rfl, by decide +kernel, rfl, by decide +kernel, by decide +kernel⟩
theorem sc_Store_init : FnScope ["self", "cells", "fall"] ["self", "cells", "fall"] (defScope s_Store_init) := ⟨rfl, rfl, rfl, by decide +kernel, rfl, by decide +kernel, by decide +kernel⟩
theorem sc_Store_read : FnScope ["self", "at"] ["self", "at"] (defScope s_Store_read) := ⟨rfl, rfl, rfl, by decide +kernel, rfl, by decide +kernel, by decide +kernel⟩
theorem sc_Store_write : FnScope ["self", "at", "sign"] ["self", "at", "sign"] (defScope s_Store_write) := ⟨rfl, rfl, rfl, by decide +kernel, rfl, by decide +kernel, by decide +kernel⟩
theorem sc_Store_mark : FnScope ["self", "number"] ["self", "number"] (defScope s_Store_mark) := ⟨rfl, rfl, rfl, by decide +kernel, rfl, by decide +kernel, by decide +kernel⟩
theorem sc_Store_noted : FnScope ["self"] ["self"] (defScope s_Store_noted) := ⟨rfl, rfl, rfl, by decide +kernel, rfl, by decide +kernel, by decide +kernel⟩
theorem sc_Store_told : FnScope ["self"] ["self"] (defScope s_Store_told) := ⟨rfl, rfl, rfl, by decide +kernel, rfl, by decide +kernel, by decide +kernel⟩
theorem sc_Store_refuse_lacking : FnScope ["self", "at"] ["self", "at"] (defScope s_Store_refuse_lacking) := ⟨rfl, rfl, rfl, by decide +kernel, rfl, by decide +kernel, by decide +kernel⟩
theorem sc_Store_note_down : FnScope ["self", "at", "number"] ["self", "at", "number"] (defScope s_Store_note_down) := ⟨rfl, rfl, rfl, by decide +kernel, rfl, by decide +kernel, by decide +kernel⟩
theorem sc_cell_at : FnScope ["_law_script", "_law_k"] ["_law_script", "_law_k"] (defScope s_cell_at) := ⟨rfl, rfl, rfl, by decide +kernel, rfl, by decide +kernel, by decide +kernel⟩
theorem sc_mixed : FnScope ["_law_cell", "_law_k", "_law_number"] ["_law_cell", "_law_k"] (defScope s_mixed) := ⟨rfl, rfl, rfl, by decide +kernel, rfl, by decide +kernel, by decide +kernel⟩
theorem sc_cuts : FnScope ["_law_size", "_law_cell", "_law_cuts_here"] ["_law_size", "_law_cell"] (defScope s_cuts) := ⟨rfl, rfl, rfl, by decide +kernel, rfl, by decide +kernel, by decide +kernel⟩
theorem sc_tiles : FnScope ["_law_old", "_law_new", "_law_cell", "_law_cuts_here", "_law_shift", "_law_rows", "_law_k", "_law_draw", "_law_to", "_law_count", "_law_start"] ["_law_old", "_law_new", "_law_cell"] (defScope s_tiles) := ⟨rfl, rfl, rfl, by decide +kernel, rfl, by decide +kernel, by decide +kernel⟩
theorem sc_ordered : FnScope ["_law_rows", "_law_cell", "_law_takes", "_law_puts", "_law_way", "_law_keyed"] ["_law_rows", "_law_cell"] (defScope s_ordered) := ⟨rfl, rfl, rfl, by decide +kernel, rfl, by decide +kernel, by decide +kernel⟩
theorem sc_paper : FnScope ["_law_script", "_law_old", "_law_new", "_law_rows"] ["_law_script"] (defScope s_paper) := ⟨rfl, rfl, rfl, by decide +kernel, rfl, by decide +kernel, by decide +kernel⟩
theorem sc_meant : FnScope ["_law_paper_here", "_law_elder", "_law_cells", "_law_row", "_law_j"] ["_law_paper_here", "_law_elder"] (defScope s_meant) := ⟨rfl, rfl, rfl, by decide +kernel, rfl, by decide +kernel, by decide +kernel⟩
theorem sc_covers : FnScope ["_law_row", "_law_cell"] ["_law_row", "_law_cell"] (defScope s_covers) := ⟨rfl, rfl, rfl, by decide +kernel, rfl, by decide +kernel, by decide +kernel⟩
theorem sc_first : FnScope ["_law_rows", "_law_k", "_law_cell"] ["_law_rows"] (defScope s_first) := ⟨rfl, rfl, rfl, by decide +kernel, rfl, by decide +kernel, by decide +kernel⟩
theorem sc_law : FnScope ["_law_script", "_law_paper_here", "_law_fault", "_law_elder", "_law_due", "_law_store", "_law_cells", "_law_row", "_law_at"] ["_law_script"] (defScope s_law) := ⟨rfl, rfl, rfl, by decide +kernel, rfl, by decide +kernel, by decide +kernel⟩
def takeF (to st c : Int) : List (Str × V) := [("to", .int to), ("count", .int c), ("source", .int st)]
def putFs (to : Int) (t : Addr) (n : Int) : List (Str × V) := [("to", .int to), ("count", .int n), ("signs", .ref t)]
def rngI (lo : Int) (n : Nat) : List Int := (List.range n).map fun (i : Nat) => lo + (i : Int)
theorem rngV_eq (lo : Int) (n : Nat) : rngV lo n = (rngI lo n).map V.int := by simp [rngV, rngI, Function.comp_def]
theorem rngI_length (lo : Int) (n : Nat) : (rngI lo n).length = n := by simp [rngI]
theorem mem_rngI {x lo : Int} {n : Nat} : x ∈ rngI lo n ↔ lo ≤ x ∧ x < lo + n := by
 unfold rngI
 rw [List.mem_map]
 constructor
 ·rintro ⟨i, hi, rfl⟩
  have := List.mem_range.mp hi
  omega
 ·rintro ⟨h1, h2⟩
  exact ⟨(x - lo).toNat, List.mem_range.mpr (by omega), by omega⟩
inductive RowD where
 | take (to st c : Int)
 | put (to : Int) (sg : List Int)
def RowD.isTake : RowD → Bool
 | .take .. => true
 | .put .. => false
def TupAt (K : W.Frag) (H : Hp) (t : Addr) : RowD → Prop
 | .take to st c => H t = some (.tup [.str "take", .int to, .int st, .int c])
 | .put to sg => ∃ u, H t = some (.tup [.str "put", .int to, .ref u]) ∧ H u = some (.tup (sg.map V.int))
theorem TupAt.same {K : W.Frag} {H H' : Hp} {t : Addr} {r : RowD} (h : TupAt K H t r) (s : Same H H') : TupAt K H' t r := by
 cases r with
 | take to st c => exact s.at h
 | put to sg => obtain ⟨u, h1, h2⟩ := h; exact ⟨u, s.at h1, s.at h2⟩
def ObjAt (K : W.Frag) (a : Adr) (H : Hp) (o : Addr) : RowD → Prop
 | .take to st c => ∃ dx, H o = some (.ins a.C_Take dx (takeF to st c))
 | .put to sg => ∃ dx u, H o = some (.ins a.C_Put dx (putFs to u sg.length)) ∧ H u = some (.tup (sg.map V.int))
theorem ObjAt.same {K : W.Frag} {a : Adr} {H H' : Hp} {o : Addr} {r : RowD} (h : ObjAt K a H o r) (s : Same H H') : ObjAt K a H' o r := by
 cases r with
 | take to st c => obtain ⟨dx, h⟩ := h; exact ⟨dx, s.at h⟩
 | put to sg => obtain ⟨dx, u, h1, h2⟩ := h; exact ⟨dx, u, s.at h1, s.at h2⟩
theorem ObjAt.mv {K : W.Frag} {a : Adr} {H H' H6 : Hp} {o : Addr} {r : RowD} (h : ObjAt K a H' o r) (k : ∀ p o, (H p = none ∨ ∀ ys, o ≠ HO.lst ys) → H' p = some o → H6 p = some o) : ObjAt K a H6 o r := by
 cases r with
 | take to st c => obtain ⟨dx, h⟩ := h; exact ⟨dx, k _ _ (.inr fun ys z => by cases z) h⟩
 | put to sg => obtain ⟨dx, u, h1, h2⟩ := h; exact ⟨dx, u, k _ _ (.inr fun ys z => by cases z) h1, k _ _ (.inr fun ys z => by cases z) h2⟩
def RowD.ok : RowD → Prop
 | .take to st c => 0 ≤ to ∧ 0 ≤ st ∧ 1 ≤ c
 | .put to sg => 0 ≤ to ∧ sg ≠ [] ∧ sg.length ≤ 100000 ∧ ∀ x ∈ sg, (x.natAbs : Int) < 10 ^ 60
def RowD.dat : RowD → PyData
 | .take to st c => .tuple [.str "take", .int to, .int st, .int c]
 | .put to sg => .tuple [.str "put", .int to, .tuple (sg.map PyData.int)]
theorem rps_ints {K : W.Frag} {H : Hp} : ∀ xs : List Int, Rps K H (xs.map V.int) (xs.map PyData.int)
 | [] => .nil
 | x :: xs => .cons (.int x) (rps_ints xs)
theorem TupAt.rp {K : W.Frag} {H : Hp} {t : Addr} {r : RowD} (h : TupAt K H t r) : Rp K H (.ref t) r.dat := by
 cases r with
 | take to st c => exact .tup (SqT.of h) (.cons (.str _) (.cons (.int _) (.cons (.int _) (.cons (.int _) .nil))))
 | put to sg => obtain ⟨u, h1, h2⟩ := h; exact .tup (SqT.of h1) (.cons (.str _) (.cons (.int _) (.cons (.tup (SqT.of h2) (rps_ints sg)) .nil)))
theorem dat_can (r : RowD) : PyData.canLay0 r.dat = true := by
 cases r with
 | take to st c => simp [RowD.dat, PyData.canLay0, PyData.canLayAll0]; decide +kernel
 | put to sg => simp [RowD.dat, PyData.canLay0, PyData.canLayAll0, W.ke_canLayAll0 sg]; decide +kernel
theorem dat_depth (r : RowD) : PyData.depth r.dat ≤ 2 := by
 cases r with
 | take to st c => simp [RowD.dat, PyData.depth, PyData.depthAll]
 | put to sg => simp [RowD.dat, PyData.depth, PyData.depthAll, W.ke_depthAll sg]
theorem dats_can : ∀ rs : List RowD, PyData.canLayAll0 (rs.map RowD.dat) = true
 | [] => by simp [PyData.canLayAll0]
 | x :: r => by simp only [List.map_cons, PyData.canLayAll0, dat_can, dats_can r, Bool.and_true]
theorem dats_depth : ∀ rs : List RowD, PyData.depthAll (rs.map RowD.dat) ≤ 2
 | [] => by simp [PyData.depthAll]
 | x :: r => by
  simp only [List.map_cons, PyData.depthAll]
  have := dat_depth x
  have := dats_depth r
  omega
theorem dats_shaped (rs : List RowD) : SeqAt.shaped (.list (rs.map RowD.dat)) = true := by
 unfold SeqAt.shaped
 have h1 : PyData.canLay0 (.list (rs.map RowD.dat)) = true := by unfold PyData.canLay0; exact dats_can rs
 have h2 : PyData.depth (.list (rs.map RowD.dat)) ≤ 64 := by unfold PyData.depth; have := dats_depth rs; omega
 rw [h1, decide_eq_true h2]; rfl
def ObjsAt (K : W.Frag) (a : Adr) (H : Hp) (l : Addr) (rs : List RowD) : Prop := ∃ ts : List Addr, SqL K H l (ts.map V.ref) ∧ Paired (ObjAt K a H) ts rs
theorem tups_rp {K : W.Frag} {H : Hp} : ∀ {ts : List Addr} {rs : List RowD}, Paired (TupAt K H) ts rs → Rps K H (ts.map V.ref) (rs.map RowD.dat)
 | _, _, .nil => .nil
 | _, _, .cons x xs => .cons x.rp (tups_rp xs)
theorem sqT_wr {K : W.Frag} {H : Hp} {t p C dx : Addr} {xs : List V} {fs : List (Str × V)} {o : HO} (h : SqT K H t xs) (hp : H p = some (.ins C dx fs)) : SqT K (upd H p o) t xs := by
 rcases h with (h | ⟨ob, h⟩) | h
 ·exact .inl (.inl (by rw [upd_ne (ne_of h hp (by intro z; cases z))]; exact h))
 ·exact .inl (.inr ⟨ob, by rw [upd_ne (ne_of h hp (by intro z; cases z))]; exact h⟩)
 ·exact .inr h
def sp_Row_init (K : W.Frag) : Sp := fun vs H Q _ => ∃ (p C dx : Addr) (to : Int), vs = [.ref p, .int to] ∧ H p = some (.ins C dx []) ∧ Cls K C ∧ NoAttr K C "to" ∧ NoAttr K C "count" ∧ Q .non (upd H p (.ins C dx [("to", .int to), ("count", .int 0)]))
def sp_Take_init (a : Adr) : Sp := fun vs H Q _ => ∃ (p dx : Addr) (to st c : Int), vs = [.ref p, .int to, .int st, .int c] ∧ H p = some (.ins a.C_Take dx []) ∧ Q .non (upd H p (.ins a.C_Take dx (takeF to st c)))
def sp_Put_init (K : W.Frag) (a : Adr) : Sp := fun vs H Q _ => ∃ (p dx t : Addr) (to : Int) (xs : List V), vs = [.ref p, .int to, .ref t] ∧ H p = some (.ins a.C_Put dx []) ∧ SqT K H t xs ∧ Q .non (upd H p (.ins a.C_Put dx (putFs to t xs.length)))
def newL (H : Hp) (Q : VK) (ns : List Int) : Prop := ∀ (l : Addr) (H' : Hp), Same H H' → H l = none → H' l = some (.lst (ns.map V.int)) → Q (.ref l) H'
def sp_stays (a : Adr) : Sp := fun vs H Q _ => ∃ (p dx : Addr) (to st c : Int), vs = [.ref p] ∧ H p = some (.ins a.C_Take dx (takeF to st c)) ∧ Q (.bl (decide (st = to))) H
def sp_is_whole : Sp := fun vs H Q _ => ∃ i : Int, vs = [.int i] ∧ Q (.bl true) H
def sp_is_whole_from : Sp := fun vs H Q _ => ∃ l i : Int, vs = [.int l, .int i] ∧ Q (.bl (decide (l ≤ i))) H
def sp_is_sign : Sp := fun vs H Q _ => ∃ i : Int, vs = [.int i] ∧ (i.natAbs : Int) < 10 ^ 60 ∧ Q (.bl true) H
def sp_are_signs (K : W.Frag) : Sp := fun vs H Q _ => ∃ (u : Addr) (sg : List Int), vs = [.ref u] ∧ H u = some (.tup (sg.map V.int)) ∧ sg ≠ [] ∧ sg.length ≤ 100000 ∧ (∀ x ∈ sg, (x.natAbs : Int) < 10 ^ 60) ∧ ∀ H', Same H H' → Q (.bl true) H'
def sp_tells_take (K : W.Frag) : Sp := fun vs H Q _ => ∃ (t : Addr) (r : RowD), vs = [.ref t] ∧ TupAt K H t r ∧ r.ok ∧ Q (.bl r.isTake) H
def sp_tells_put (K : W.Frag) : Sp := fun vs H Q _ => ∃ (t : Addr) (to : Int) (sg : List Int), vs = [.ref t] ∧ TupAt K H t (.put to sg) ∧ RowD.ok (.put to sg) ∧ ∀ H', Same H H' → Q (.bl true) H'
def sp_row_of (K : W.Frag) (a : Adr) : Sp := fun vs H Q _ => ∃ (t : Addr) (r : RowD), vs = [.ref t] ∧ TupAt K H t r ∧ r.ok ∧ ∀ (o : Addr) (H' : Hp), Same H H' → H o = none → ObjAt K a H' o r → Q (.ref o) H'
def mixed (c k : Int) : Int := if c % 2 = 1 then c / 2 ^ (1 + 20 * (k % 120)).toNat % 2 ^ (20 : Int).toNat else
 let n := (c / 2 % 2147483647 + 7919 * k + 1) * 48271 % 2147483647
 n * (n / 1009 + 69621) % 2147483647
def cellAt (ns : List Int) (k : Int) : Int := if k < ns.length then ns.getD k.toNat 0 else 0
def sp_covered (K : W.Frag) : Sp := fun vs H Q _ => ∃ (p C dx : Addr) (fs : List (Str × V)) (to c : Int), vs = [.ref p] ∧ H p = some (.ins C dx fs) ∧ Cls K C ∧ NoAttr K C "to" ∧ NoAttr K C "count" ∧ fs.lookup ("to" : Str) = some (.int to) ∧ fs.lookup ("count" : Str) = some (.int c) ∧ c.toNat ≤ 2 ^ 24 ∧ newL H Q (rngI to c.toNat)
def sp_cell_at (K : W.Frag) : Sp := fun vs H Q _ => ∃ (l : Addr) (ns : List Int) (k : Int), vs = [.ref l, .int k] ∧ SqL K H l (ns.map V.int) ∧ 0 ≤ k ∧ Q (.int (cellAt ns k)) H
def sp_mixed : Sp := fun vs H Q _ => ∃ c k : Int, vs = [.int c, .int k] ∧ Q (.int (mixed c k)) H
def cN (d k : Nat) : Nat := (k + d - 1) / d
def chs (u : Nat → Nat → List Int) (d k : Nat) : List (List Int) := (List.range (cN d k)).map (u k)
theorem cN_zero {d : Nat} (hd : 0 < d) : cN d 0 = 0 := by unfold cN; exact Nat.div_eq_of_lt (by omega)
theorem cN_succ {d : Nat} (hd : 0 < d) (k : Nat) : cN d (k + 1) = k / d + 1 := by
 unfold cN
 rw [show k + 1 + d - 1 = k + d by omega, Nat.add_div_right _ hd]
def uch (to : Int) (d k j : Nat) : List Int := rngI (to + ((j * d : Nat) : Int)) (min d (k - j * d))
def dch (e : Int) (d k j : Nat) : List Int := rngI (e - ((min ((j + 1) * d) k : Nat) : Int)) (min d (k - j * d))
def piecesT (to st c : Int) : List (List Int) :=
 if st = to then [] else if to < st then chs (uch to (st - to).toNat) (st - to).toNat c.toNat else chs (dch (to + c) (to - st).toNat) (to - st).toNat c.toNat
theorem chs_len (u : Nat → Nat → List Int) (d k : Nat) (hd : 0 < d) : (chs u d k).length ≤ k := by
 unfold chs
 rw [List.length_map, List.length_range]
 cases k with
 | zero => rw [cN_zero hd]; exact Nat.le_refl _
 | succ k => rw [cN_succ hd]; have := Nat.div_le_self k d; omega
theorem log_ok {x : Int} (h0 : x ≠ 0) (h : x.natAbs < 2 ^ 200) : StepOk x := by
 refine ⟨h0, ?_⟩
 have : x.natAbs.log2 < 200 := (Nat.log2_lt (by omega)).mpr h
 omega
theorem rngN_up (to c : Int) (d : Nat) (hc : 1 ≤ c) (hd : 0 < d) : rngN to (to + c) (d : Int) = cN d c.toNat := by
 unfold rngN Builtin.Range.rangeSize
 rw [if_pos (by omega), if_pos (by omega)]
 obtain ⟨n, rfl⟩ : ∃ n : Nat, c = (n : Int) + 1 := ⟨(c - 1).toNat, by omega⟩
 rw [show ((n : Int) + 1).toNat = n + 1 by omega, cN_succ hd, show to + ((n : Int) + 1) - to - 1 = (n : Int) by omega, ← Int.natCast_ediv]
 generalize n / d = q
 omega
theorem rngN_down (to c : Int) (d : Nat) (hc : 1 ≤ c) (hd : 0 < d) : rngN (to + c) to (-(d : Int)) = cN d c.toNat := by
 unfold rngN Builtin.Range.rangeSize
 rw [if_neg (by omega), if_pos (by omega)]
 obtain ⟨n, rfl⟩ : ∃ n : Nat, c = (n : Int) + 1 := ⟨(c - 1).toNat, by omega⟩
 rw [show ((n : Int) + 1).toNat = n + 1 by omega, cN_succ hd, show to + ((n : Int) + 1) - to - 1 = (n : Int) by omega, Int.neg_neg, ← Int.natCast_ediv]
 generalize n / d = q
 omega
theorem cN_below {d i k : Nat} (hd : 0 < d) (h : i < cN d k) : i * d ≤ k := by
 cases k with
 | zero => rw [cN_zero hd] at h; omega
 | succ k =>
  rw [cN_succ hd] at h
  have h1 : i ≤ k / d := by omega
  have := Nat.le_trans (Nat.mul_le_mul_right d h1) (Nat.div_mul_le_self k d)
  omega
def exprVal : Stmt → Expr
 | .Expr v _ => v
 | _ => .Constant .none 0 ⟨0, 0, 0, 0⟩
def Kp (S : List Addr) (H H' : Hp) : Prop := ∀ b u, H b = some u → b ∉ S → H' b = some u
theorem Kp.of {S : List Addr} {H H' : Hp} (s : Same H H') : Kp S H H' := fun b u e _ => s b u e
theorem Kp.trans {S : List Addr} {H H1 H2 : Hp} (h : Kp S H H1) (g : Kp S H1 H2) : Kp S H H2 := fun b u e n => g b u (h b u e n) n
theorem Kp.mono {S S' : List Addr} {H H1 : Hp} (h : Kp S H H1) (m : ∀ x ∈ S, x ∈ S') : Kp S' H H1 := fun b u e n => h b u e fun z => n (m b z)
theorem Kp.wr {S : List Addr} {H H1 : Hp} {p : Addr} {o : HO} (h : Kp S H H1) (m : p ∈ S) : Kp S H (upd H1 p o) := fun b u e n => by
 rw [upd_ne (fun z => n (by rw [z]; exact m))]; exact h b u e n
theorem Kp.mk {S : List Addr} {H H1 : Hp} {p : Addr} {o : HO} (h : Kp S H H1) (m : H p = none) : Kp S H (upd H1 p o) := fun b u e n => by
 rw [upd_ne (ne_of_none e m)]; exact h b u e n
theorem Kp.same {S : List Addr} {H H1 H2 : Hp} (h : Kp S H H1) (s : Same H1 H2) : Kp S H H2 := h.trans (.of s)
def isMu : HO → Prop
 | .ins _ _ _ => True
 | .lst _ => True
 | _ => False
abbrev penF (n : Int) (fl : V) : List (Str × V) := [("asked", .int n), ("fall", fl)]
def sp_Pen_init (a : Adr) : Sp := fun vs H Q _ => ∃ (p dp : Addr) (fl : V), vs = [.ref p, fl] ∧ H p = some (.ins a.C_Pen dp []) ∧ Q .non (upd H p (.ins a.C_Pen dp (penF 0 fl)))
def sp_Pen_answer (a : Adr) : Sp := fun vs H Q _ => ∃ (p dp : Addr) (n m : Int), vs = [.ref p, .int n] ∧ H p = some (.ins a.C_Pen dp (penF m .non)) ∧ Q .non H
def sp_Pen_write (a : Adr) : Sp := fun vs H Q _ => ∃ (p dp l g : Addr) (i n : Int) (val : V) (xs : List V), vs = [.ref p, .ref l, .int i, val, .ref g] ∧ H p = some (.ins a.C_Pen dp (penF n .non)) ∧ H l = some (.lst xs) ∧ 0 ≤ i ∧ i < xs.length ∧
 ∀ H', Kp [p, l] H H' → H' p = some (.ins a.C_Pen dp (penF (n + 1) .non)) → H' l = some (.lst (xs.set i.toNat val)) → Q .non H'
structure SA where
 st : Addr
 dx : Addr
 ca : Addr
 na : Addr
 p : Addr
 dp : Addr
def nV : Option Int → V
 | none => .non
 | some i => .int i
abbrev SS (S : SA) : List Addr := [S.ca, S.na, S.p]
abbrev stF (S : SA) : List (Str × V) := [("cells", .ref S.ca), ("notes", .ref S.na), ("pen", .ref S.p)]
structure StAt (a : Adr) (H : Hp) (S : SA) (cells : List Int) (notes : List (Option Int)) (n : Int) (fl : V) : Prop where
 st : H S.st = some (.ins a.C_Store S.dx (stF S))
 ca : H S.ca = some (.lst (cells.map V.int))
 na : H S.na = some (.lst (notes.map nV))
 p : H S.p = some (.ins a.C_Pen S.dp (penF n fl))
 ne : S.ca ≠ S.na
 np : S.p ≠ S.st
theorem StAt.mu {a : Adr} {H : Hp} {S : SA} {cells : List Int} {notes : List (Option Int)} {n : Int} {fl : V} (h : StAt a H S cells notes n fl) : ∀ x ∈ SS S, ∃ u, H x = some u ∧ isMu u := by
 intro x hx
 simp only [List.mem_cons, List.not_mem_nil, or_false] at hx
 rcases hx with rfl | rfl | rfl
 ·exact ⟨_, h.ca, trivial⟩
 ·exact ⟨_, h.na, trivial⟩
 ·exact ⟨_, h.p, trivial⟩
theorem StAt.kp0 {a : Adr} {H H' : Hp} {S : SA} {L : List Addr} {cells : List Int} {notes : List (Option Int)} {n : Int} {fl : V} (h : StAt a H S cells notes n fl) (k : Kp L H H') (d : ∀ x ∈ L, x ≠ S.st ∧ x ≠ S.ca ∧ x ≠ S.na ∧ x ≠ S.p) : StAt a H' S cells notes n fl :=
 ⟨k _ _ h.st (fun z => (d _ z).1 rfl), k _ _ h.ca (fun z => (d _ z).2.1 rfl), k _ _ h.na (fun z => (d _ z).2.2.1 rfl), k _ _ h.p (fun z => (d _ z).2.2.2 rfl), h.ne, h.np⟩
theorem StAt.same {a : Adr} {H H' : Hp} {S : SA} {cells : List Int} {notes : List (Option Int)} {n : Int} {fl : V} (h : StAt a H S cells notes n fl) (s : Same H H') : StAt a H' S cells notes n fl :=
 h.kp0 (L := []) (Kp.of s) (fun _ z => nomatch z)
theorem StAt.nst {a : Adr} {H : Hp} {S : SA} {cells : List Int} {notes : List (Option Int)} {n : Int} {fl : V} (h : StAt a H S cells notes n fl) : S.st ∉ SS S := by
 simp only [List.mem_cons, List.not_mem_nil, or_false]
 rintro (z | z | z)
 ·have := h.st; rw [z, h.ca] at this; cases this
 ·have := h.st; rw [z, h.na] at this; cases this
 ·exact h.np z.symm
theorem StAt.npc {a : Adr} {H : Hp} {S : SA} {cells : List Int} {notes : List (Option Int)} {n : Int} {fl : V} (h : StAt a H S cells notes n fl) : S.p ≠ S.ca := ne_of h.p h.ca (by intro z; cases z)
theorem StAt.npn {a : Adr} {H : Hp} {S : SA} {cells : List Int} {notes : List (Option Int)} {n : Int} {fl : V} (h : StAt a H S cells notes n fl) : S.p ≠ S.na := ne_of h.p h.na (by intro z; cases z)
def RetS (a : Adr) (H : Hp) (S : SA) (cells : List Int) (notes : List (Option Int)) (n : Int) (fl : V) (q : Hp → Prop) : Prop := ∀ H', Kp (SS S) H H' → StAt a H' S cells notes n fl → q H'
abbrev inR (cells : List Int) (i : Int) : Prop := 0 ≤ i ∧ i < cells.length
def sp_Store_init (K : W.Frag) (a : Adr) : Sp := fun vs H Q _ => ∃ (st dx l : Addr) (cells : List Int) (fl : V), vs = [.ref st, .ref l, fl] ∧ H st = some (.ins a.C_Store dx []) ∧ H l = some (.lst (cells.map V.int)) ∧
 ∀ (S : SA) (H' : Hp), S.st = st → Kp [st] H H' → StAt a H' S cells [some 0, some 0] 0 fl → H S.ca = none → H S.na = none → H S.p = none → Q .non H'
def sp_Store_refuse (a : Adr) : Sp := fun vs H Q _ => ∃ (S : SA) (cells : List Int) (notes : List (Option Int)) (n i : Int) (fl : V), vs = [.ref S.st, .int i] ∧ StAt a H S cells notes n fl ∧ inR cells i ∧ Q .non H
def sp_Store_read (a : Adr) : Sp := fun vs H Q _ => ∃ (S : SA) (cells : List Int) (notes : List (Option Int)) (n i v : Int) (fl : V), vs = [.ref S.st, .int i] ∧ StAt a H S cells notes n fl ∧ inR cells i ∧ cells[i.toNat]? = some v ∧ Q (.int v) H
def sp_Store_write (a : Adr) : Sp := fun vs H Q _ => ∃ (S : SA) (cells : List Int) (notes : List (Option Int)) (n i s : Int), vs = [.ref S.st, .int i, .int s] ∧ StAt a H S cells notes n .non ∧ H P_Store_write = some (.tbl qs_Store_write) ∧ inR cells i ∧ RetS a H S (cells.set i.toNat s) notes (n + 1) .non (Q .non)
def sp_Store_note (a : Adr) : Sp := fun vs H Q _ => ∃ (S : SA) (cells : List Int) (notes : List (Option Int)) (n i m : Int), vs = [.ref S.st, .int i, .int m] ∧ StAt a H S cells notes n .non ∧ H P_Store_note_down = some (.tbl qs_Store_note_down) ∧ 0 ≤ i ∧ i < notes.length ∧ RetS a H S cells (notes.set i.toNat (some m)) (n + 1) .non (Q .non)
def sp_Store_mark (a : Adr) : Sp := fun vs H Q _ => ∃ (S : SA) (cells : List Int) (notes : List (Option Int)) (n m : Int), vs = [.ref S.st, .int m] ∧ StAt a H S cells notes n .non ∧ H P_Store_note_down = some (.tbl qs_Store_note_down) ∧ notes.length = 2 ∧ RetS a H S cells (notes.set (m % 2).toNat (some m)) (n + 1) .non (Q .non)
def sp_told (a : Adr) : Sp := fun vs H Q _ => ∃ (S : SA) (cells : List Int) (notes : List (Option Int)) (n : Int) (fl : V), vs = [.ref S.st] ∧ StAt a H S cells notes n fl ∧ ∀ t c m H', Same H H' → H c = none → H m = none → c ≠ m → H' t = some (.tup [.ref c, .ref m, .int n]) → H' c = some (.lst (cells.map V.int)) → H' m = some (.lst (notes.map nV)) → Q (.ref t) H'
def IsMax (notes : List (Option Int)) (m : Int) : Prop := (notes.filterMap id = [] → m = 0) ∧ (notes.filterMap id ≠ [] → m ∈ notes.filterMap id ∧ ∀ x ∈ notes.filterMap id, x ≤ m)
theorem IsMax.uniq {notes : List (Option Int)} {m m' : Int} (h : IsMax notes m) (h' : IsMax notes m') : m = m' := by
 by_cases e : notes.filterMap id = []
 ·rw [h.1 e, h'.1 e]
 ·have a := h.2 e
  have b := h'.2 e
  have := a.2 _ b.1
  have := b.2 _ a.1
  omega
def sp_Snoted (a : Adr) : Sp := fun vs H Q _ => ∃ (S : SA) (cells : List Int) (notes : List (Option Int)) (n : Int) (fl : V), vs = [.ref S.st] ∧ StAt a H S cells notes n fl ∧ notes.length = 2 ∧ ∀ m H', Same H H' → IsMax notes m → Q (.int m) H'
def newLL (H : Hp) (Q : VK) (xss : List (List Int)) : Prop := ∀ (l : Addr) (as : List Addr) (H' : Hp), Same H H' → LLat H H' l as xss → Q (.ref l) H'
def sp_Tpieces (a : Adr) : Sp := fun vs H Q _ => ∃ (p dx : Addr) (to st c : Int), vs = [.ref p] ∧ H p = some (.ins a.C_Take dx (takeF to st c)) ∧ 1 ≤ c ∧ c ≤ 1000 ∧ (st - to).natAbs < 2 ^ 200 ∧ newLL H Q (piecesT to st c)
def sp_Ppieces (a : Adr) : Sp := fun vs H Q _ => ∃ (p dx t : Addr) (to n : Int), vs = [.ref p] ∧ H p = some (.ins a.C_Put dx (putFs to t n)) ∧ n ≤ 1000 ∧ newLL H Q [rngI to n.toNat]
def sp_covers (K : W.Frag) : Sp := fun vs H Q _ => ∃ (p C dx : Addr) (fs : List (Str × V)) (to c : Int), vs = [.ref p] ∧ H p = some (.ins C dx fs) ∧ Cls K C ∧ NoAttr K C "to" ∧ NoAttr K C "count" ∧ fs.lookup ("to" : Str) = some (.int to) ∧ fs.lookup ("count" : Str) = some (.int c) ∧ ∀ t, H t = none → Q (.ref t) (upd H t (.tup [.int to, .int (to + c)]))
def RowD.cv : RowD → List Int
 | .take to _ c => rngI to c.toNat
 | .put to sg => rngI to sg.length
def RowD.rds : RowD → List Int
 | .take to st c => if st = to then [] else rngI st c.toNat
 | .put _ _ => []
def RowD.wrs : RowD → List Int
 | .take to st c => if st = to then [] else rngI to c.toNat
 | .put to sg => rngI to sg.length
def num : Nat → List (List Int) → List (Nat × Int)
 | _, [] => []
 | k, cs :: r => cs.map (fun c => (k, c)) ++ num (k + 1) r
def tw : List (Nat × Int) → List Int → Option (Nat × Int)
 | [], _ => none
 | (k, c) :: r, seen => if c ∈ seen then some (k, c) else tw r (c :: seen)
def twiceF (rs : List RowD) : Option (Nat × Int) := tw (num 0 (rs.map RowD.cv)) []
def lacksF (rs : List RowD) (new : Nat) : Option Int := ((List.range new).map fun (i : Nat) => (i : Int)).find? fun c => !decide (c ∈ (rs.map RowD.cv).flatten)
def lateS : Nat → List RowD → List Int → Option (Nat × Int)
 | _, [], _ => none
 | k, r :: rest, wr => match r.rds.find? fun c => decide (c ∈ wr) with
  | some c => some (k, c)
  | none => lateS (k + 1) rest (wr ++ r.wrs)
def lateF (rs : List RowD) : Option (Nat × Int) := lateS 0 rs []
def resKC (H : Hp) (Q : VK) (w : Str) : Option (Nat × Int) → Prop
 | none => ∀ H', Same H H' → Q .non H'
 | some (k, c) => ∀ t H', Same H H' → H' t = some (.tup [.str w, .int k, .int c]) → Q (.ref t) H'
def resC (H : Hp) (Q : VK) (w : Str) : Option Int → Prop
 | none => ∀ H', Same H H' → Q .non H'
 | some c => ∀ t H', Same H H' → H' t = some (.tup [.str w, .int c]) → Q (.ref t) H'
def RowsOk (rs : List RowD) : Prop := rs.length ≤ 300 ∧ ∀ r ∈ rs, r.cv.length ≤ 300 ∧ r.rds.length ≤ 300 ∧ r.wrs.length ≤ 300
def sp_twice (K : W.Frag) (a : Adr) : Sp := fun vs H Q _ => ∃ (l : Addr) (rs : List RowD), vs = [.ref l] ∧ ObjsAt K a H l rs ∧ RowsOk rs ∧ twiceF rs = none ∧ resKC H Q "twice" (twiceF rs)
inductive Sp_lacking (K : W.Frag) (a : Adr) (vs : List V) (H : Hp) (Q : VK) : Prop
 | mk (l : Addr) (rs : List RowD) (new : Nat) : (vs = [.ref l, .int new]) → (ObjsAt K a H l rs) → (RowsOk rs) → (new ≤ 300) → (lacksF rs new = none) → (resC H Q "lacks" (lacksF rs new)) → Sp_lacking K a vs H Q
def sp_lacking (K : W.Frag) (a : Adr) : Sp := fun vs H Q _ => Sp_lacking K a vs H Q
def sp_late (K : W.Frag) (a : Adr) : Sp := fun vs H Q _ => ∃ (l : Addr) (rs : List RowD), vs = [.ref l] ∧ ObjsAt K a H l rs ∧ RowsOk rs ∧ resKC H Q "late" (lateF rs)
def RowD.to : RowD → Int
 | .take t _ _ => t
 | .put t _ => t
def RowD.cnt : RowD → Nat
 | .take _ _ c => c.toNat
 | .put _ sg => sg.length
def RowD.sg (es : List Int) : RowD → List Int
 | .take _ st c => (es.drop st.toNat).take c.toNat
 | .put _ sg => sg
def RowD.fits (es : List Int) : RowD → Prop
 | .take _ st c => st + c ≤ es.length
 | .put _ _ => True
theorem RowD.sg_len {es : List Int} {r : RowD} (ok : r.ok) (f : r.fits es) : (r.sg es).length = r.cnt := by
 cases r with
 | take to st c =>
  obtain ⟨k1, k2, k3⟩ := ok
  have f' : st + c ≤ es.length := f
  simp only [RowD.sg, RowD.cnt, List.length_take, List.length_drop]
  omega
 | put to sg => rfl
theorem RowD.ok.to {r : RowD} (ok : r.ok) : 0 ≤ r.to := by
 cases r with
 | take to st c => exact ok.1
 | put to sg => exact ok.1
def Tells (es nw : List Int) (r : RowD) : Prop := r.ok ∧ r.fits es ∧ r.to + r.cnt ≤ nw.length ∧ ∀ i : Nat, i < r.cnt → nw[(r.to + i).toNat]? = (r.sg es)[i]?
def Covers (r : RowD) (j : Nat) : Prop := r.to ≤ j ∧ (j : Int) < r.to + r.cnt
def PapAt (K : W.Frag) (H : Hp) (p : Addr) (o n : Int) (rs : List RowD) : Prop := ∃ t ts, H p = some (.tup [.int o, .int n, .ref t]) ∧ H t = some (.tup (ts.map V.ref)) ∧ Paired (TupAt K H) ts rs
theorem PapAt.same {K : W.Frag} {H H' : Hp} {p : Addr} {o n : Int} {rs : List RowD} (h : PapAt K H p o n rs) (s : Same H H') : PapAt K H' p o n rs := by
 obtain ⟨t, ts, h1, h2, h3⟩ := h
 exact ⟨t, ts, s.at h1, s.at h2, L2.Paired.imp' (fun _ _ z => z.same s) h3⟩
def Fit (old new : Int) : RowD → Prop
 | .take to st c => st + c ≤ old ∧ to + c ≤ new
 | .put to sg => to + sg.length ≤ new
def sp_is_length : Sp := fun vs H Q _ => ∃ i : Int, vs = [.int i] ∧ 0 ≤ i ∧ i ≤ 300 ∧ Q (.bl true) H
inductive Sp_fits (K : W.Frag) (vs : List V) (H : Hp) (Q : VK) : Prop
 | mk (p : Addr) (o n : Int) (rs : List RowD) : (vs = [.ref p]) → (PapAt K H p o n rs) → (0 ≤ o) → (o ≤ 300) → (0 ≤ n) → (n ≤ 300) → (rs.length ≤ 300) → (Q (.bl true) H) → Sp_fits K vs H Q
def sp_fits (K : W.Frag) : Sp := fun vs H Q _ => Sp_fits K vs H Q
def sp_fitting (K : W.Frag) : Sp := fun vs H Q _ => ∃ (t : Addr) (r : RowD) (old new : Int), vs = [.ref t, .int old, .int new] ∧ TupAt K H t r ∧ r.ok ∧ Fit old new r ∧ ∀ H', Same H H' → Q (.bl true) H'
def sp_wrong (K : W.Frag) : Sp := fun vs H Q _ => ∃ (p : Addr) (o n : Int) (rs : List RowD), vs = [.ref p] ∧ PapAt K H p o n rs ∧ (∀ r ∈ rs, r.ok ∧ Fit o n r) ∧ rs.length ≤ 300 ∧ ∀ H', Same H H' → Q .non H'
inductive Sp_judge (K : W.Frag) (vs : List V) (H : Hp) (Q : VK) : Prop
 | mk (p : Addr) (o n : Int) (rs : List RowD) : (vs = [.ref p]) → (PapAt K H p o n rs) → ((0 ≤ o ∧ o ≤ 300)) → ((0 ≤ n ∧ n ≤ 300)) → (rs.length ≤ 300) → ((∀ r ∈ rs, r.ok ∧ Fit o n r)) → (twiceF rs = none) → (lacksF rs n.toNat = none) → (resKC H Q "late" (lateF rs)) → Sp_judge K vs H Q
def sp_judge (K : W.Frag) : Sp := fun vs H Q _ => Sp_judge K vs H Q
def RowD.neg : RowD → Prop
 | .put _ sg => ∀ x ∈ sg, x < 0
 | .take .. => True
def RowD.inO (old : Int) : RowD → Prop
 | .take _ st c => st + c ≤ old
 | .put .. => True
def Good (old : Int) (r : RowD) : Prop := r.ok ∧ r.neg ∧ r.inO old
inductive Tl (old : Int) : List RowD → Int → Prop
 | nil : Tl old [] 0
 | snoc {rs : List RowD} {at' n : Int} {r : RowD} : Tl old rs at' → Good old r → r.to = at' → (r.cnt : Int) = n → Tl old (rs ++ [r]) (at' + n)
def pcs : RowD → List (List Int)
 | .take to st c => piecesT to st c
 | .put to sg => [rngI to sg.length]
def newV (C : List Int) : RowD → Int → Option Int
 | .take to st _, j => C[(st + j - to).toNat]?
 | .put to sg, j => sg[(j - to).toNat]?
def Part (C : List Int) (r : RowD) (D cur : List Int) : Prop := cur.length = C.length ∧ ∀ j : Nat, j < C.length → cur[j]? = if (j : Int) ∈ D then newV C r j else C[j]?
def RunTo (rs : List RowD) (C0 : List Int) (Cs : Nat → List Int) (k : Nat) : Prop := Cs 0 = C0 ∧ (∀ j, (Cs j).length = C0.length) ∧ ∀ j r, j < k → rs[j]? = some r → Part (Cs j) r (pcs r).flatten (Cs (j + 1))
local macro_rules | `(tactic| walk_at "w") => `(tactic| (conv => whnf))
local macro_rules | `(tactic| walk_at "few") => `(tactic| first | exact Nat.lt_of_lt_of_le (few_put (n := 998) (by simp)) (by decide) | (simp; done))
local macro_rules | `(tactic| walk_at "pos") => `(tactic| first | (show (0 : Int) < _; decide) | (show (0 : Int) < _; omega) | assumption)
local macro_rules | `(tactic| walk_at "same") => `(tactic| first | exact Same.refl _ | assumption | (refine' Same.trans ?sa ?sb; (case sb => assumption); (case sa => walk_at "same")))
local macro_rules | `(tactic| walk_at "get") => `(tactic| first | assumption | exact upd_same | (refine' Same.at ?ga ?gb; (case gb => assumption); (case ga => walk_at "same")))
local macro_rules | `(tactic| walk_at "sq") => `(tactic| first | assumption | (refine' SqL.of ?g; (case g => walk_at "get")) | (refine' SqT.of ?g; (case g => walk_at "get")) | (refine' Same.seq ?sa ?sb; (case sb => assumption); (case sa => walk_at "same")) | (refine' Same.seqT ?sa ?sb; (case sb => assumption); (case sa => walk_at "same")) | (refine' Or.inl ?g; (case g => walk_at "sq")) | (refine' Or.inr ?g; (case g => walk_at "sq")))
local macro_rules | `(tactic| walk_at "no") => `(tactic| (intro z; first | cases z | (simp at z; done)))
local macro_rules | `(tactic| walk_at "mul") => `(tactic| first | exact Or.inl ⟨by decide, by decide⟩ | exact Or.inr ⟨by decide, by decide⟩ | exact Or.inl ⟨by omega, by omega⟩ | exact Or.inr ⟨by omega, by omega⟩)
local macro_rules | `(tactic| walk_at "side") => `(tactic| first | exact ⟨by decide, by decide⟩ | exact ⟨by decide, by decide, by decide⟩ | walk_at "pos" | walk_at "mul" | (show (_ : Nat) ≤ sizeLine; first | decide | (simp only [List.length_cons, List.length_nil]; decide)))
local macro_rules | `(tactic| walk_at "s") => `(tactic| (refine And.intro (by walk_at "side") ?_; walk_at "w"))
local macro_rules | `(tactic| walk_at "ss") => `(tactic| (repeat (walk_at "s")))
section
variable {P : Program} {w : World} {K : W.Frag} {mg : Str → Option Value} {base : Heap} {a : Adr}
theorem ok_Pen_init (T : Txt K mg a) : FnOk P w K mg base CX0 1 a.f_Pen_init a.d_Pen_init ["self", "fall"] (sp_Pen_init a) := by
 refine T.F_Pen_init.ok sc_Pen_init (fun vs H Q E h => ?_) (fun cdv A outer s H vs Q E hr h => ?_)
 ·obtain ⟨p, dp, fl, rfl, _⟩ := h; rfl
 ·obtain ⟨p, dp, fl, rfl, hp, k⟩ := h
  have nd := sc_Pen_init.nd
  refine ⟨_, (pss_cons (ps_fld (cv 0) pe_int rfl)
  (pss_one (ps_fld (cv 0) (cv 1) rfl))), ?_⟩
  walk_at "w"
  refine ⟨p, _, dp, _, rfl, hp, T.c_Pen, T.na_Pen_asked, by walk_at "few", ?_⟩
  walk_at "w"
  refine ⟨p, _, dp, _, rfl, upd_same, T.c_Pen, T.na_Pen_fall, by walk_at "few", ?_⟩
  walk_at "w"
  rw [upd_upd]
  exact k
theorem ok_Pen_answer_of_fall (T : Txt K mg a) : FnOk P w K mg base CX0 1 a.f_Pen_answer_of_fall a.d_Pen_answer_of_fall ["self", "count"] (sp_Pen_answer a) := by
 refine T.F_Pen_answer_of_fall.ok sc_Pen_answer_of_fall (fun vs H Q E h => ?_) (fun cdv A outer s H vs Q E hr h => ?_)
 ·obtain ⟨p, dp, n, m, rfl, _⟩ := h; rfl
 ·obtain ⟨p, dp, n, m, rfl, hp, k⟩ := h
  have nd := sc_Pen_answer_of_fall.nd
  refine ⟨_, (pss_cons (ps_set (i := 2) nd rfl (Or.inl rfl) (pe_fld (cv 0) rfl))
  (pss_cons (cs_if (ct_isN (cv 2)) (pss_one (ps_ret pe_non)) pss_nil)
  (pss_one ps_dead))), ?_⟩
  walk_at "w"
  refine ⟨p, _, dp, _, .non, rfl, hp, T.c_Pen, T.na_Pen_fall, rfl, ?_⟩
  walk_at "w"
  refine ⟨fun _ => ?_, by walk_at "no"⟩
  exact k
theorem ok_Pen_write_into (T : Txt K mg a) : FnOk P w K mg base CX0 2 a.f_Pen_write_into a.d_Pen_write_into ["self", "kept", "at", "value", "torn"] (sp_Pen_write a) := by
 refine T.F_Pen_write_into.ok sc_Pen_write_into (fun vs H Q E h => ?_) (fun cdv A outer s H vs Q E hr h => ?_)
 ·obtain ⟨p, dp, l, g, i, n, val, xs, rfl, _⟩ := h; rfl
 ·obtain ⟨p, dp, l, g, i, n, val, xs, rfl, hp, hl, h0, hi, k⟩ := h
  have nd := sc_Pen_write_into.nd
  refine ⟨_, (pss_cons (ps_set (i := 5) nd rfl (Or.inl rfl) (pe_fld (cv 0) rfl))
  (pss_cons (ps_fld (cv 0) (pe_op o_add (cv 5) pe_int) rfl)
  (pss_cons (ps_set (i := 6) nd rfl (Or.inl rfl) (pe_meth (cv 0) T.c_Pen T.me_Pen_answer_of_fall (ok_Pen_answer_of_fall T) (hr.mono (by decide)) T.b_Pen_answer_of_fall .nil pass0 (pa_cons (cv 5) pa_nil)))
  (pss_cons (cs_if (ct_isN (cv 6)) (pss_cons (ps_asg (cv 3) (pg_sub (cv 1) (cv 2) set_list))
  (pss_one ps_retN)) pss_nil)
  (pss_cons (cs_cut (cs_if (ct_cmp o_eqI (pe_callB call_len_str (by rfl) T.n_len bt_len (pa_cons (cv 6) pa_nil)) pe_int) pss_dead pss_nil))
  (pss_one ps_dead)))))), ?_⟩
  have nlp : l ≠ p := ne_of hl hp (by intro z; cases z)
  walk_at "w"
  refine ⟨p, _, dp, _, .int n, rfl, hp, T.c_Pen, T.na_Pen_asked, rfl, ?_⟩
  walk_at "w"
  refine ⟨p, _, dp, _, rfl, hp, T.c_Pen, T.na_Pen_asked, by walk_at "few", ?_⟩
  generalize hU : upd H p _ = H1
  have c1 : Kp [p, l] H H1 := by rw [← hU]; exact (Kp.of (Same.refl _)).wr (by simp)
  have hp1 : H1 p = some (.ins a.C_Pen dp (penF (n + 1) .non)) := by rw [← hU, upd_same]; rfl
  have hl1 : H1 l = some (.lst xs) := by rw [← hU, upd_ne nlp]; exact hl
  clear hU
  walk_at "w"
  refine ⟨p, dp, _, rfl, hp1, rfl, ?_⟩
  walk_at "w"
  refine ⟨p, dp, n, _, rfl, hp1, ?_⟩
  walk_at "w"
  refine ⟨fun _ => ?_, by walk_at "no"⟩
  walk_at "w"
  refine ⟨l, xs, i, _, rfl, rfl, hl1, ixN_in h0 hi, ?_⟩
  exact k _ (c1.wr (by simp)) (by rw [upd_ne (Ne.symm nlp)]; exact hp1) upd_same
theorem ok_Store_init (T : Txt K mg a) : FnOk P w K mg base CX0 3 a.f_Store_init a.d_Store_init ["self", "cells", "fall"] (sp_Store_init K a) := by
 refine T.F_Store_init.ok sc_Store_init (fun vs H Q E h => ?_) (fun cdv A outer s H vs Q E hr h => ?_)
 ·obtain ⟨st, dx, l, cells, fl, rfl, _⟩ := h; rfl
 ·obtain ⟨st, dx, l, cells, fl, rfl, hst, hl, k⟩ := h
  have nd := sc_Store_init.nd
  refine ⟨_, (pss_cons (ps_fld (cv 0) (pe_callTy call_list_of (by rfl) T.n_list bt_list (pa_cons (cv 1) pa_nil)) rfl)
  (pss_cons (ps_fld (cv 0) (pe_lst (pa_cons pe_int (pa_cons pe_int pa_nil))) rfl)
  (pss_one (ps_fld (cv 0) (pe_make T.mk_Pen (ok_Pen_init T) (hr.mono (by decide)) (by rfl) T.m_Pen T.b_Pen_init .nil pass0 (pa_cons (cv 2) pa_nil)) rfl)))), ?_⟩
  walk_at "w"
  refine ⟨l, _, rfl, .inl (SqL.of hl), ?_⟩
  intro ca hca
  walk_at "w"
  refine ⟨st, _, dx, _, rfl, by rw [upd_ne (ne_of_none hst hca)]; exact hst, T.c_Store, T.na_Store_cells, by walk_at "few", ?_⟩
  generalize hU1 : upd (upd H ca _) st _ = H1
  have k1 : Kp [st] H H1 := by rw [← hU1]; exact ((Kp.of (Same.refl _)).mk hca).wr (by simp)
  have f1 : H1 st = some (.ins a.C_Store dx [("cells", .ref ca)]) := by rw [← hU1, upd_same]; rfl
  have g1 : H1 ca = some (.lst (cells.map V.int)) := by rw [← hU1, upd_ne (Ne.symm (ne_of_none hst hca)), upd_same]
  have b1 : ∀ b, H1 b = none → H b = none ∧ b ≠ st ∧ b ≠ ca := fun b hb => by
   have n1 : b ≠ st := fun z => by rw [z, f1] at hb; cases hb
   have n2 : b ≠ ca := fun z => by rw [z, g1] at hb; cases hb
   rw [← hU1, upd_ne n1, upd_ne n2] at hb
   exact ⟨hb, n1, n2⟩
  clear hU1
  walk_at "w"
  walk_at "ss"
  intro na hna
  obtain ⟨na0, na1, na2⟩ := b1 na hna
  walk_at "w"
  refine ⟨st, _, dx, _, rfl, by rw [upd_ne (ne_of_none f1 hna)]; exact f1, T.c_Store, T.na_Store_notes, by walk_at "few", ?_⟩
  generalize hU2 : upd (upd H1 na _) st _ = H2
  have k2 : Kp [st] H H2 := by rw [← hU2]; exact (k1.mk na0).wr (by simp)
  have f2 : H2 st = some (.ins a.C_Store dx [("cells", .ref ca), ("notes", .ref na)]) := by rw [← hU2, upd_same]; rfl
  have g2 : H2 ca = some (.lst (cells.map V.int)) := by rw [← hU2, upd_ne (ne_of g1 f1 (by intro z; cases z)), upd_ne (Ne.symm na2)]; exact g1
  have m2 : H2 na = some (.lst ([some 0, some 0].map nV)) := by rw [← hU2, upd_ne na1, upd_same]; rfl
  have b2 : ∀ b, H2 b = none → H b = none ∧ b ≠ st ∧ b ≠ ca ∧ b ≠ na := fun b hb => by
   have n1 : b ≠ st := fun z => by rw [z, f2] at hb; cases hb
   have n3 : b ≠ na := fun z => by rw [z, m2] at hb; cases hb
   rw [← hU2, upd_ne n1, upd_ne n3] at hb
   exact ⟨(b1 b hb).1, n1, (b1 b hb).2.2, n3⟩
  clear hU2 b1
  walk_at "w"
  intro p dp hp hdp nep
  obtain ⟨p0, p1, p2, p3⟩ := b2 p hp
  obtain ⟨q0, q1, q2, q3⟩ := b2 dp hdp
  refine ⟨p, dp, fl, rfl, upd_same, ?_⟩
  refine ⟨rfl, ?_⟩
  walk_at "w"
  rw [upd_upd]
  have e3 : ∀ b, b ≠ p → b ≠ dp → ∀ o o', upd (upd H2 dp o) p o' b = H2 b := fun b n1 n2 o o' => by rw [upd_ne n1, upd_ne n2]
  refine ⟨st, _, dx, _, rfl, by rw [e3 _ (Ne.symm p1) (Ne.symm q1)]; exact f2, T.c_Store, T.na_Store_pen, by walk_at "few", ?_⟩
  refine k ⟨st, dx, ca, na, p, dp⟩ _ rfl (((k2.mk q0).mk p0).wr (by simp)) ⟨?_, ?_, ?_, ?_, Ne.symm na2, p1⟩ hca na0 p0
  ·rw [upd_same]; rfl
  ·rw [upd_ne (ne_of g2 f2 (by intro z; cases z)), e3 _ (Ne.symm p2) (Ne.symm q2)]; exact g2
  ·rw [upd_ne na1, e3 _ (Ne.symm p3) (Ne.symm q3)]; exact m2
  ·rw [upd_ne p1, upd_same]
theorem ok_Store_refuse_lacking (T : Txt K mg a) : FnOk P w K mg base CX0 1 a.f_Store_refuse_lacking a.d_Store_refuse_lacking ["self", "at"] (sp_Store_refuse a) := by
 refine T.F_Store_refuse_lacking.ok sc_Store_refuse_lacking (fun vs H Q E h => ?_) (fun cdv A outer s H vs Q E hr h => ?_)
 ·obtain ⟨S, cells, notes, n, i, fl, rfl, _⟩ := h; rfl
 ·obtain ⟨S, cells, notes, n, i, fl, rfl, hS, hi, k⟩ := h
  have nd := sc_Store_refuse_lacking.nd
  refine ⟨_, (pss_one (cs_if (PW.pt (cw_or (ct_cmp o_lt (cv 1) pe_int) (pw_or1 (ct_cmp o_ge (cv 1) (pe_callB call_len_seq (by rfl) T.n_len bt_len (pa_cons (pe_fld (cv 0) rfl) pa_nil)))))) (pss_one ps_dead) pss_nil)), ?_⟩
  walk_at "w"
  refine ⟨fun e => absurd (of_decide_eq_true e) (by have := hi.1; omega), fun e => ?_⟩
  walk_at "w"
  refine ⟨S.st, _, S.dx, _, .ref S.ca, rfl, hS.st, T.c_Store, T.na_Store_cells, rfl, ?_⟩
  walk_at "w"
  refine ⟨S.ca, _, rfl, .inl (SqL.of hS.ca), ?_⟩
  walk_at "w"
  rw [List.length_map]
  refine ⟨fun e1 => absurd (of_decide_eq_true e1) (by have := hi.2; omega), fun e1 => ?_⟩
  exact k
theorem ok_Store_read (T : Txt K mg a) : FnOk P w K mg base CX0 2 a.f_Store_read a.d_Store_read ["self", "at"] (sp_Store_read a) := by
 refine T.F_Store_read.ok sc_Store_read (fun vs H Q E h => ?_) (fun cdv A outer s H vs Q E hr h => ?_)
 ·obtain ⟨S, cells, notes, n, i, v, fl, rfl, _⟩ := h; rfl
 ·obtain ⟨S, cells, notes, n, i, v, fl, rfl, hS, hi, hv, k⟩ := h
  have nd := sc_Store_read.nd
  refine ⟨_, (pss_cons (ps_expr (pe_meth (cv 0) T.c_Store T.me_Store_refuse_lacking (ok_Store_refuse_lacking T) (hr.mono (by decide)) T.b_Store_refuse_lacking .nil pass0 (pa_cons (cv 1) pa_nil)))
  (pss_one (ps_ret (pe_ix ix_list (pe_fld (cv 0) rfl) (cv 1) (fun _ _ => rfl))))), ?_⟩
  walk_at "w"
  refine ⟨S.st, S.dx, _, rfl, hS.st, rfl, ?_⟩
  walk_at "w"
  refine ⟨S, cells, notes, n, i, fl, rfl, hS, hi, ?_⟩
  walk_at "w"
  refine ⟨S.st, _, S.dx, _, .ref S.ca, rfl, hS.st, T.c_Store, T.na_Store_cells, rfl, ?_⟩
  walk_at "w"
  refine ⟨S.ca, _, i, .int v, rfl, rfl, SqL.of hS.ca, atI_in hi.1 hv, ?_⟩
  exact k
theorem ok_Store_write (T : Txt K mg a) : FnOk P w K mg base CX0 3 a.f_Store_write a.d_Store_write ["self", "at", "sign"] (sp_Store_write a) := by
 refine T.F_Store_write.okC [] T.cd_Store_write sc_Store_write (fun vs H Q E h => ?_) (fun A outer s H vs Q E hr h => ?_)
 ·obtain ⟨S, cells, notes, n, i, s, rfl, _⟩ := h; rfl
 ·obtain ⟨S, cells, notes, n, i, sg, rfl, hS, hP, hi, k⟩ := h
  have nd := sc_Store_write.nd
  refine ⟨_, (pss_cons (ps_expr (pe_meth (cv 0) T.c_Store T.me_Store_refuse_lacking (ok_Store_refuse_lacking T) (hr.mono (by decide)) T.b_Store_refuse_lacking .nil pass0 (pa_cons (cv 1) pa_nil)))
  (pss_one (ps_expr (pe_meth (pe_fld (cv 0) rfl) T.c_Pen T.me_Pen_write_into (ok_Pen_write_into T) (hr.mono (by decide)) T.b_Pen_write_into .nil pass0 (pa_cons (pe_fld (cv 0) rfl) (pa_cons (cv 1) (pa_cons (cv 2) (pa_cons (ce_lambda (c := c_Store_write) (P := P_Store_write) (qs := qs_Store_write) (fns := []) rfl T.tk_Store_write (q := "Store.write.<locals>.<lambda>") (by kernel_rfl) (.head _) (by kernel_rfl) (by kernel_rfl)) pa_nil)))))))), ?_⟩
  walk_at "w"
  refine ⟨S.st, S.dx, _, rfl, hS.st, rfl, ?_⟩
  walk_at "w"
  refine ⟨S, cells, notes, n, i, .non, rfl, hS, hi, ?_⟩
  walk_at "w"
  refine ⟨S.st, _, S.dx, _, .ref S.p, rfl, hS.st, T.c_Store, T.na_Store_pen, rfl, ?_⟩
  walk_at "w"
  refine ⟨S.p, S.dp, _, rfl, hS.p, rfl, ?_⟩
  walk_at "w"
  refine ⟨S.st, _, S.dx, _, .ref S.ca, rfl, hS.st, T.c_Store, T.na_Store_cells, rfl, ?_⟩
  walk_at "w"
  refine ⟨hP, [], rfl, (fun x v m => nomatch m), fun g H1 hg s1 hc => ?_⟩
  walk_at "w"
  have c1 : Kp (SS S) H H1 := Kp.of s1
  have hS1 := hS.same s1
  refine ⟨S.p, S.dp, S.ca, g, i, n, .int sg, _, rfl, hS1.p, hS1.ca, hi.1, by rw [List.length_map]; exact hi.2, fun H2 q1 q2 q3 => ?_⟩
  have q : Kp (SS S) H H2 := c1.trans (q1.mono (by simp))
  exact k H2 q ⟨q _ _ hS.st hS.nst, by rw [q3, List.map_set], q1 _ _ hS1.na (by simp [Ne.symm hS.npn, Ne.symm hS.ne]), q2, hS.ne, hS.np⟩
theorem ok_Store_note_down (T : Txt K mg a) : FnOk P w K mg base CX0 3 a.f_Store_note_down a.d_Store_note_down ["self", "at", "number"] (sp_Store_note a) := by
 refine T.F_Store_note_down.okC [] T.cd_Store_note_down sc_Store_note_down (fun vs H Q E h => ?_) (fun A outer s H vs Q E hr h => ?_)
 ·obtain ⟨S, cells, notes, n, i, m, rfl, _⟩ := h; rfl
 ·obtain ⟨S, cells, notes, n, i, m, rfl, hS, hP, h0, hi, k⟩ := h
  have nd := sc_Store_note_down.nd
  refine ⟨_, (pss_one (ps_expr (pe_meth (pe_fld (cv 0) rfl) T.c_Pen T.me_Pen_write_into (ok_Pen_write_into T) (hr.mono (by decide)) T.b_Pen_write_into .nil pass0 (pa_cons (pe_fld (cv 0) rfl) (pa_cons (cv 1) (pa_cons (cv 2) (pa_cons (ce_lambda (c := c_Store_note_down) (P := P_Store_note_down) (qs := qs_Store_note_down) (fns := []) rfl T.tk_Store_note_down (q := "Store.note_down.<locals>.<lambda>") (by kernel_rfl) (.head _) (by kernel_rfl) (by kernel_rfl)) pa_nil))))))), ?_⟩
  walk_at "w"
  refine ⟨S.st, _, S.dx, _, .ref S.p, rfl, hS.st, T.c_Store, T.na_Store_pen, rfl, ?_⟩
  walk_at "w"
  refine ⟨S.p, S.dp, _, rfl, hS.p, rfl, ?_⟩
  walk_at "w"
  refine ⟨S.st, _, S.dx, _, .ref S.na, rfl, hS.st, T.c_Store, T.na_Store_notes, rfl, ?_⟩
  walk_at "w"
  refine ⟨hP, [], rfl, (fun x v m => nomatch m), fun g H1 hg s1 hc => ?_⟩
  walk_at "w"
  have c1 : Kp (SS S) H H1 := Kp.of s1
  have hS1 := hS.same s1
  refine ⟨S.p, S.dp, S.na, g, i, n, .int m, _, rfl, hS1.p, hS1.na, h0, by rw [List.length_map]; exact hi, fun H2 q1 q2 q3 => ?_⟩
  have q : Kp (SS S) H H2 := c1.trans (q1.mono (by simp))
  exact k H2 q ⟨q _ _ hS.st hS.nst, q1 _ _ hS1.ca (by simp [Ne.symm hS.npc, hS.ne]), by rw [q3, List.map_set]; rfl, q2, hS.ne, hS.np⟩
theorem ok_Store_mark (T : Txt K mg a) : FnOk P w K mg base CX0 4 a.f_Store_mark a.d_Store_mark ["self", "number"] (sp_Store_mark a) := by
 refine T.F_Store_mark.ok sc_Store_mark (fun vs H Q E h => ?_) (fun cdv A outer s H vs Q E hr h => ?_)
 ·obtain ⟨S, cells, notes, n, m, rfl, _⟩ := h; rfl
 ·obtain ⟨S, cells, notes, n, m, rfl, hS, hP, h2, k⟩ := h
  have nd := sc_Store_mark.nd
  refine ⟨_, (pss_one (ps_expr (pe_meth (cv 0) T.c_Store T.me_Store_note_down (ok_Store_note_down T) (hr.mono (by decide)) T.b_Store_note_down .nil pass0 (pa_cons (pe_op o_mod (cv 1) pe_int) (pa_cons (cv 1) pa_nil))))), ?_⟩
  walk_at "w"
  refine ⟨S.st, S.dx, _, rfl, hS.st, rfl, ?_⟩
  walk_at "w"
  walk_at "ss"
  exact ⟨S, cells, notes, n, m % 2, m, rfl, hS, hP, by omega, by rw [h2]; omega, k⟩
theorem ok_Store_told (T : Txt K mg a) : FnOk P w K mg base CX0 1 a.f_Store_told a.d_Store_told ["self"] (sp_told a) := by
 refine T.F_Store_told.ok sc_Store_told (fun vs H Q E h => ?_) (fun cdv A outer s H vs Q E hr h => ?_)
 ·obtain ⟨S, cells, notes, n, fl, rfl, _⟩ := h; rfl
 ·obtain ⟨S, cells, notes, n, fl, rfl, hS, k⟩ := h
  have nd := sc_Store_told.nd
  refine ⟨_, (pss_one (ps_ret (pe_tup (pa_cons (pe_callTy call_list_of (by rfl) T.n_list bt_list (pa_cons (pe_fld (cv 0) rfl) pa_nil)) (pa_cons (pe_callTy call_list_of (by rfl) T.n_list bt_list (pa_cons (pe_fld (cv 0) rfl) pa_nil)) (pa_cons (pe_fld (pe_fld (cv 0) rfl) rfl) pa_nil)))))), ?_⟩
  walk_at "w"
  refine ⟨S.st, _, S.dx, _, .ref S.ca, rfl, hS.st, T.c_Store, T.na_Store_cells, rfl, ?_⟩
  walk_at "w"
  refine ⟨S.ca, _, rfl, .inl (SqL.of hS.ca), ?_⟩
  intro c hc
  generalize hUc : upd H c _ = H1
  have sH1 := Same.of_eq hc hUc
  have ec := at_of_eq hUc
  clear hUc
  walk_at "w"
  have hS1 := hS.same sH1
  refine ⟨S.st, _, S.dx, _, .ref S.na, rfl, hS1.st, T.c_Store, T.na_Store_notes, rfl, ?_⟩
  walk_at "w"
  refine ⟨S.na, _, rfl, .inl (SqL.of hS1.na), ?_⟩
  intro m hm
  generalize hUm : upd H1 m _ = H2
  have sH2 := Same.of_eq hm hUm
  have em := at_of_eq hUm
  clear hUm
  walk_at "w"
  have hS2 := hS1.same sH2
  refine ⟨S.st, _, S.dx, _, .ref S.p, rfl, hS2.st, T.c_Store, T.na_Store_pen, rfl, ?_⟩
  walk_at "w"
  refine ⟨S.p, _, S.dp, _, .int n, rfl, hS2.p, T.c_Pen, T.na_Pen_asked, rfl, ?_⟩
  walk_at "w"
  walk_at "ss"
  intro t ht
  generalize hUt : upd H2 t _ = H3
  have sH3 := Same.of_eq ht hUt
  have et := at_of_eq hUt
  clear hUt
  walk_at "w"
  exact k t c m H3 (sH1.trans (sH2.trans sH3)) hc (sH1.back hm) (ne_of_none ec hm) et (sH3.at (sH2.at ec)) (sH3.at em)
theorem filt_notes : ∀ notes : List (Option Int), ((notes.map nV).filter fun v => !(isN v)).map (fun v => v) = (notes.filterMap id).map V.int
 | [] => rfl
 | none :: r => by
  have := filt_notes r
  simpa [nV, isN] using this
 | some i :: r => by
  have := filt_notes r
  simpa [nV, isN] using this
theorem ok_Store_noted (T : Txt K mg a) : FnOk P w K mg base CX0 1 a.f_Store_noted a.d_Store_noted ["self"] (sp_Snoted a) := by
 refine T.F_Store_noted.ok sc_Store_noted (fun vs H Q E h => ?_) (fun cdv A outer s H vs Q E hr h => ?_)
 ·obtain ⟨S, cells, notes, n, fl, rfl, _⟩ := h; rfl
 ·obtain ⟨S, cells, notes, n, fl, rfl, hS, h2, k⟩ := h
  have nd := sc_Store_noted.nd
  refine ⟨_, (pss_one (ps_ret (pe_maxD rfl (by rfl) T.n_max (pa_cons (pe_comp (blk_mk (cap := []) (ys := []) rfl rfl rfl rfl rfl trivial (by decide +kernel)) rfl (pi_list (pe_fld (cv 0) rfl)) (fun _ _ _ _ => (cv 0)) (fun _ _ _ _ => (cts_one (ct_notN (cv 0))))) pa_nil) pe_int))), ?_⟩
  walk_at "w"
  refine ⟨S.st, _, S.dx, _, .ref S.na, rfl, hS.st, T.c_Store, T.na_Store_notes, rfl, ?_⟩
  walk_at "w"
  refine ⟨S.na, rfl, ⟨_, SqL.of hS.na⟩, ?_⟩
  refine comp_listF (fun v => !(isN v)) (fun v => v) (SqL.of hS.na) (by rw [List.length_map, h2]; decide) (fun x H3 hx s3 R hR => ?_) (fun x H3 hx hp s3 R hR => ?_) (fun D H' hD s' e' => ?_)
  ·exact hR H3 (Same.refl _)
  ·exact hR H3 (Same.refl _)
  ·rw [filt_notes] at e'
   exact ⟨D, _, 0, rfl, rfl, SqL.of e', fun m h1 h2 => k m H' s' ⟨h1, h2⟩⟩
theorem ok_Row_init (T : Txt K mg a) : FnOk P w K mg base CX0 1 a.f_Row_init a.d_Row_init ["self", "to"] (sp_Row_init K) := by
 refine T.F_Row_init.ok sc_Row_init (fun vs H Q E h => ?_) (fun cdv A outer s H vs Q E hr h => ?_)
 ·obtain ⟨p, C, dx, to, rfl, _⟩ := h; rfl
 ·obtain ⟨p, C, dx, to, rfl, hp, c, n1, n2, k⟩ := h
  have nd := sc_Row_init.nd
  refine ⟨_, (pss_cons (ps_fld (cv 0) (cv 1) rfl)
  (pss_one (ps_fld (cv 0) pe_int rfl))), ?_⟩
  walk_at "w"
  refine ⟨p, C, dx, _, rfl, hp, c, n1, by walk_at "few", ?_⟩
  walk_at "w"
  refine ⟨p, C, dx, _, rfl, upd_same, c, n2, by walk_at "few", ?_⟩
  walk_at "w"
  rw [upd_upd]
  exact k
theorem ok_Take_init (T : Txt K mg a) : FnOk P w K mg base CX0 2 a.f_Take_init a.d_Take_init ["self", "to", "start", "count"] (sp_Take_init a) := by
 refine T.F_Take_init.ok sc_Take_init (fun vs H Q E h => ?_) (fun cdv A outer s H vs Q E hr h => ?_)
 ·obtain ⟨p, dx, to, st, c, rfl, _⟩ := h; rfl
 ·obtain ⟨p, dx, to, st, c, rfl, hp, k⟩ := h
  have nd := sc_Take_init.nd
  refine ⟨_, (pss_cons (ps_expr (pe_base (by rfl) T.m_Row T.cm_Row_init (ok_Row_init T) (hr.mono (by decide)) T.b_Row_init .nil pass0 (pa_cons (cv 0) (pa_cons (cv 1) pa_nil))))
  (pss_cons (ps_fld (cv 0) (cv 2) rfl)
  (pss_one (ps_fld (cv 0) (cv 3) rfl)))), ?_⟩
  walk_at "w"
  refine ⟨p, _, dx, to, rfl, hp, T.c_Take, T.na_Take_to, T.na_Take_count, ?_⟩
  walk_at "w"
  refine ⟨p, _, dx, _, rfl, upd_same, T.c_Take, T.na_Take_source, by walk_at "few", ?_⟩
  walk_at "w"
  refine ⟨p, _, dx, _, rfl, upd_same, T.c_Take, T.na_Take_count, by walk_at "few", ?_⟩
  walk_at "w"
  rw [upd_upd, upd_upd]
  exact k
theorem ok_Put_init (T : Txt K mg a) : FnOk P w K mg base CX0 2 a.f_Put_init a.d_Put_init ["self", "to", "signs"] (sp_Put_init K a) := by
 refine T.F_Put_init.ok sc_Put_init (fun vs H Q E h => ?_) (fun cdv A outer s H vs Q E hr h => ?_)
 ·obtain ⟨p, dx, t, to, xs, rfl, _⟩ := h; rfl
 ·obtain ⟨p, dx, t, to, xs, rfl, hp, ht, k⟩ := h
  have nd := sc_Put_init.nd
  have ht1 : ∀ o, SqT K (upd H p o) t xs := fun o => sqT_wr ht hp
  refine ⟨_, (pss_cons (ps_expr (pe_base (by rfl) T.m_Row T.cm_Row_init (ok_Row_init T) (hr.mono (by decide)) T.b_Row_init .nil pass0 (pa_cons (cv 0) (pa_cons (cv 1) pa_nil))))
  (pss_cons (ps_fld (cv 0) (pe_callTy call_tuple_of (by rfl) T.n_tuple bt_tuple (pa_cons (cv 2) pa_nil)) rfl)
  (pss_one (ps_fld (cv 0) (pe_callB call_len_seq (by rfl) T.n_len bt_len (pa_cons (pe_fld (cv 0) rfl) pa_nil)) rfl)))), ?_⟩
  walk_at "w"
  refine ⟨p, _, dx, to, rfl, hp, T.c_Put, T.na_Put_to, T.na_Put_count, ?_⟩
  walk_at "w"
  refine ⟨t, xs, rfl, .inr ⟨ht1 _, ?_⟩⟩
  walk_at "w"
  refine ⟨p, _, dx, _, rfl, upd_same, T.c_Put, T.na_Put_signs, by walk_at "few", ?_⟩
  walk_at "w"
  refine ⟨p, _, dx, _, .ref t, rfl, upd_same, T.c_Put, T.na_Put_signs, rfl, ?_⟩
  walk_at "w"
  refine ⟨t, xs, rfl, .inr (sqT_wr (ht1 _) upd_same), ?_⟩
  walk_at "w"
  refine ⟨p, _, dx, _, rfl, upd_same, T.c_Put, T.na_Put_count, by walk_at "few", ?_⟩
  walk_at "w"
  rw [upd_upd, upd_upd]
  exact k
theorem ok_Row_covered (T : Txt K mg a) : FnOk P w K mg base CX0 1 a.f_Row_covered a.d_Row_covered ["self"] (sp_covered K) := by
 refine T.F_Row_covered.ok sc_Row_covered (fun vs H Q E h => ?_) (fun cdv A outer s H vs Q E hr h => ?_)
 ·obtain ⟨p, C, dx, fs, to, c, rfl, _⟩ := h; rfl
 ·obtain ⟨p, C, dx, fs, to, c, rfl, hp, cl, n1, n2, l1, l2, hc, k⟩ := h
  have nd := sc_Row_covered.nd
  refine ⟨_, (pss_one (ps_ret (pe_callTy (call_list_rng rfl) (by rfl) T.n_list bt_list (pa_cons (ce_range2 (by rfl) T.n_range (pa_cons (pe_fld (cv 0) rfl) (pa_cons (pe_op o_add (pe_fld (cv 0) rfl) (pe_fld (cv 0) rfl)) pa_nil))) pa_nil)))), ?_⟩
  walk_at "w"
  refine ⟨p, C, dx, fs, _, rfl, hp, cl, n1, l1, ?_⟩
  walk_at "w"
  refine ⟨p, C, dx, fs, _, rfl, hp, cl, n1, l1, ?_⟩
  walk_at "w"
  refine ⟨p, C, dx, fs, _, rfl, hp, cl, n2, l2, ?_⟩
  walk_at "w"
  intro r hr1
  walk_at "w"
  have e : rngN to (to + c) 1 = c.toNat := by rw [rngN_one]; congr 1; omega
  refine ⟨r, to, to + c, rfl, upd_same, by rw [e]; exact hc, fun l hl => ?_⟩
  rw [e, rngV_eq]
  have hl0 : H l = none := Same.free (Same.new hr1) hl
  exact k l _ ((Same.new hr1).put hl0) hl0 upd_same
theorem ok_Take_stays (T : Txt K mg a) : FnOk P w K mg base CX0 1 a.f_Take_stays a.d_Take_stays ["self"] (sp_stays a) := by
 refine T.F_Take_stays.ok sc_Take_stays (fun vs H Q E h => ?_) (fun cdv A outer s H vs Q E hr h => ?_)
 ·obtain ⟨p, dx, to, st, c, rfl, _⟩ := h; rfl
 ·obtain ⟨p, dx, to, st, c, rfl, hp, k⟩ := h
  have nd := sc_Take_stays.nd
  refine ⟨_, (pss_one (ps_ret (ce_cmp o_eqI (pe_fld (cv 0) rfl) (pe_fld (cv 0) rfl)))), ?_⟩
  walk_at "w"
  refine ⟨p, _, dx, _, .int st, rfl, hp, T.c_Take, T.na_Take_source, rfl, ?_⟩
  walk_at "w"
  refine ⟨p, _, dx, _, .int to, rfl, hp, T.c_Take, T.na_Take_to, rfl, ?_⟩
  exact k
theorem ok_cell_at (T : Txt K mg a) : FnOk P w K mg base CX0 1 a.f_cell_at a.d_cell_at ["_law_script", "_law_k"] (sp_cell_at K) := by
 refine T.F_cell_at.ok sc_cell_at (fun vs H Q E h => ?_) (fun cdv A outer s H vs Q E hr h => ?_)
 ·obtain ⟨l, ns, k, rfl, _⟩ := h; rfl
 ·obtain ⟨l, ns, k, rfl, hl, hk, q⟩ := h
  have nd := sc_cell_at.nd
  refine ⟨_, (pss_cons (cs_if (ct_cmp o_lt (cv 1) (pe_callB call_len_seq (by rfl) T.n_len bt_len (pa_cons (cv 0) pa_nil))) (pss_one (ps_ret (pe_ix ix_list (cv 0) (cv 1) (fun _ _ => rfl)))) pss_nil)
  (pss_one (ps_ret pe_int))), ?_⟩
  walk_at "w"
  refine ⟨l, _, rfl, .inl hl, ?_⟩
  walk_at "w"
  refine ⟨fun e => ?_, fun e => ?_⟩
  ·have e' := of_decide_eq_true e
   rw [List.length_map] at e'
   walk_at "w"
   refine ⟨l, _, k, .int (ns.getD k.toNat 0), rfl, rfl, hl, ?_, ?_⟩
   ·have hk' : k.toNat < ns.length := by omega
    have := atI_nat (xs := ns.map V.int) (j := k.toNat) (v := .int (ns.getD k.toNat 0)) (by simp [hk'])
    rwa [Int.toNat_of_nonneg hk] at this
   ·walk_at "w"
    rw [cellAt, if_pos e'] at q
    exact q
  ·have e' := of_decide_eq_false e
   rw [List.length_map] at e'
   rw [cellAt, if_neg e'] at q
   exact q
theorem mod_bounds (x : Int) : 0 ≤ x % 2147483647 ∧ x % 2147483647 < 2147483647 := ⟨Int.emod_nonneg _ (by decide), Int.emod_lt_of_pos _ (by decide)⟩
theorem ok_mixed (T : Txt K mg a) : FnOk P w K mg base CX0 1 a.f_mixed a.d_mixed ["_law_cell", "_law_k"] sp_mixed := by
 refine T.F_mixed.ok sc_mixed (fun vs H Q E h => ?_) (fun cdv A outer s H vs Q E hr h => ?_)
 ·obtain ⟨c, k, rfl, _⟩ := h; rfl
 ·obtain ⟨c, k, rfl, q⟩ := h
  have nd := sc_mixed.nd
  refine ⟨_, (pss_cons (cs_if (ct_cmp o_eqI (pe_op o_mod (cv 0) pe_int) pe_int) (pss_one (ps_ret (pe_op o_mod (pe_op o_shr (cv 0) (pe_op o_add pe_int (pe_op o_mul pe_int (pe_op o_mod (cv 1) pe_int)))) (pe_op o_pow pe_int pe_int)))) pss_nil)
  (pss_cons (ps_set (i := 2) nd rfl (Or.inl rfl) (pe_op o_mod (pe_op o_mul (pe_op o_add (pe_op o_add (pe_op o_mod (pe_op o_fdiv (cv 0) pe_int) pe_int) (pe_op o_mul pe_int (cv 1))) pe_int) pe_int) pe_int))
  (pss_one (ps_ret (pe_op o_mod (pe_op o_mul (cv 2) (pe_op o_add (pe_op o_fdiv (cv 2) pe_int) pe_int)) pe_int))))), ?_⟩
  walk_at "w"
  walk_at "ss"
  refine ⟨fun e => ?_, fun e => ?_⟩
  ·have e : c % 2 = 1 := of_decide_eq_true e
   rw [mixed, if_pos e] at q
   have := Int.emod_nonneg k (show (120 : Int) ≠ 0 by decide)
   walk_at "w"
   walk_at "ss"
   refine And.intro (show (0 : Int) ≤ _ by omega) ?_
   walk_at "w"
   walk_at "ss"
   exact q
  ·have e : ¬ c % 2 = 1 := of_decide_eq_false e
   rw [mixed, if_neg e] at q
   have b := mod_bounds ((c / 2 % 2147483647 + 7919 * k + 1) * 48271)
   walk_at "w"
   walk_at "ss"
   exact q
theorem ok_is_whole (T : Txt K mg a) : FnOk P w K mg base CX0 1 a.f_is_whole a.d_is_whole ["value"] sp_is_whole := by
 refine T.F_is_whole.ok sc_is_whole (fun vs H Q E h => ?_) (fun cdv A outer s H vs Q E hr h => ?_)
 ·obtain ⟨i, rfl, _⟩ := h; rfl
 ·obtain ⟨i, rfl, q⟩ := h
  have nd := sc_is_whole.nd
  refine ⟨_, (pss_one (ps_ret (ce_and (pe_callB call_isi (by rfl) T.n_isinstance bt_isinstance (pa_cons (cv 0) (pa_cons (pe_bltn (v := .ty "int") (by rfl) T.n_int bt_int rfl) pa_nil))) (pe_one (ce_not (pe_callB call_isi (by rfl) T.n_isinstance bt_isinstance (pa_cons (cv 0) (pa_cons (pe_bltn (v := .ty "bool") (by rfl) T.n_bool bt_bool rfl) pa_nil)))))))), ?_⟩
  walk_at "w"
  refine ⟨_, _, _, _, true, rfl, rfl, TyOf.int _, rfl, ?_⟩
  walk_at "w"
  refine ⟨fun _ => ?_, by walk_at "no"⟩
  walk_at "w"
  refine ⟨_, _, _, _, false, rfl, rfl, TyOf.int _, rfl, ?_⟩
  exact q
theorem ok_is_whole_from (T : Txt K mg a) : FnOk P w K mg base CX0 2 a.f_is_whole_from a.d_is_whole_from ["least", "value"] sp_is_whole_from := by
 refine T.F_is_whole_from.ok sc_is_whole_from (fun vs H Q E h => ?_) (fun cdv A outer s H vs Q E hr h => ?_)
 ·obtain ⟨l, i, rfl, _⟩ := h; rfl
 ·obtain ⟨l, i, rfl, q⟩ := h
  have nd := sc_is_whole_from.nd
  refine ⟨_, (pss_one (ps_ret (ce_and (pe_call (ok_is_whole T) (hr.mono (by decide)) (by rfl) T.m_is_whole T.F_is_whole.kp T.b_is_whole .nil pass0 (pa_cons (cv 1) pa_nil)) (pe_one (ce_cmp o_ge (cv 1) (cv 0)))))), ?_⟩
  walk_at "w"
  refine ⟨i, rfl, ?_⟩
  walk_at "w"
  exact ⟨fun _ => q, by walk_at "no"⟩
theorem ok_is_sign (T : Txt K mg a) : FnOk P w K mg base CX0 2 a.f_is_sign a.d_is_sign ["value"] sp_is_sign := by
 refine T.F_is_sign.ok sc_is_sign (fun vs H Q E h => ?_) (fun cdv A outer s H vs Q E hr h => ?_)
 ·obtain ⟨i, rfl, _⟩ := h; rfl
 ·obtain ⟨i, rfl, hi, q⟩ := h
  have nd := sc_is_sign.nd
  refine ⟨_, (pss_one (ps_ret (ce_and (pe_call (ok_is_whole T) (hr.mono (by decide)) (by rfl) T.m_is_whole T.F_is_whole.kp T.b_is_whole .nil pass0 (pa_cons (cv 0) pa_nil)) (pe_one (ce_cmp o_lt (pe_callB c_abs (by rfl) T.n_abs bt_abs (pa_cons (cv 0) pa_nil)) (pe_op o_pow pe_int pe_int)))))), ?_⟩
  walk_at "w"
  refine ⟨i, rfl, ?_⟩
  walk_at "w"
  refine ⟨fun _ => ?_, by walk_at "no"⟩
  walk_at "w"
  refine ⟨⟨by decide, by decide, by decide⟩, ?_⟩
  walk_at "w"
  show Q (.bl (decide ((i.natAbs : Int) < 10 ^ (60 : Int).toNat))) H
  have e : decide ((i.natAbs : Int) < 10 ^ (60 : Int).toNat) = true := decide_eq_true hi
  rw [e]
  exact q
theorem ok_are_signs (T : Txt K mg a) : FnOk P w K mg base CX0 3 a.f_are_signs a.d_are_signs ["signs"] (sp_are_signs K) := by
 refine T.F_are_signs.ok sc_are_signs (fun vs H Q E h => ?_) (fun cdv A outer s H vs Q E hr h => ?_)
 ·obtain ⟨u, sg, rfl, _⟩ := h; rfl
 ·obtain ⟨u, sg, rfl, hu, hne, hlen, hs, q⟩ := h
  have nd := sc_are_signs.nd
  refine ⟨_, (pss_one (ps_ret (ce_and (pe_callB call_isi (by rfl) T.n_isinstance bt_isinstance (pa_cons (cv 0) (pa_cons (pe_bltn (v := .ty "tuple") (by rfl) T.n_tuple bt_tuple rfl) pa_nil))) (ce_and (ce_cmp o_gt (pe_callB call_len_seq (by rfl) T.n_len bt_len (pa_cons (cv 0) pa_nil)) pe_int) (pe_one (pe_callB (call_allB rfl) (by rfl) T.n_all bt_all (pa_cons (pe_comp (blk_mk (cap := []) (ys := []) rfl rfl rfl rfl rfl trivial (by decide +kernel)) rfl (pi_tup (cv 0)) (fun _ _ _ _ => (pe_call (ok_is_sign T) (hr.mono (by decide)) (by rfl) T.m_is_sign T.F_is_sign.kp T.b_is_sign .nil pass0 (pa_cons (cv 0) pa_nil))) (fun _ _ _ _ => cts_nil)) pa_nil))))))), ?_⟩
  walk_at "w"
  refine ⟨_, _, _, _, true, rfl, rfl, TyOf.tup hu, rfl, ?_⟩
  walk_at "w"
  refine ⟨fun _ => ?_, by walk_at "no"⟩
  walk_at "w"
  refine ⟨u, _, rfl, .inr (SqT.of hu), ?_⟩
  walk_at "w"
  have hpos : 0 < sg.length := List.length_pos_iff.mpr hne
  refine ⟨fun _ => ?_, fun z => by have := of_decide_eq_false z; rw [List.length_map] at this; omega⟩
  walk_at "w"
  refine ⟨u, rfl, ⟨_, SqT.of hu⟩, ?_⟩
  refine comp_tupP (fun i acc _ => acc = List.replicate i (V.bl true)) (SqT.of hu) (by rw [List.length_map, sizeLine_eq]; omega) rfl (fun i x acc H3 H3' hx s3 s3' hp R hR => ?_) (fun D acc H3 H3' hD hD3 s3 s3' hp hl hv => ?_)
  ·rw [List.getElem?_map] at hx
   cases hy : sg[i]? with
   | none => rw [hy] at hx; cases hx
   | some y =>
    rw [hy] at hx
    cases hx
    walk_at "w"
    refine ⟨y, rfl, hs y (List.mem_of_getElem? hy), hR _ _ (Same.refl _) fun H6 _ _ => ?_⟩
    rw [hp, List.replicate_succ']
  ·walk_at "w"
   refine ⟨D, List.replicate sg.length true, rfl, SqL.of ?_, ?_⟩
   ·rw [hv, hp, List.length_map, List.map_replicate]
   ·walk_at "w"
    show Q (.bl ((List.replicate sg.length true).all id)) H3'
    have e : (List.replicate sg.length true).all id = true := by simp
    rw [e]
    exact q _ (s3.trans s3')
theorem ok_tells_take (T : Txt K mg a) : FnOk P w K mg base CX0 3 a.f_tells_take a.d_tells_take ["told"] (sp_tells_take K) := by
 refine T.F_tells_take.ok sc_tells_take (fun vs H Q E h => ?_) (fun cdv A outer s H vs Q E hr h => ?_)
 ·obtain ⟨t, r, rfl, _⟩ := h; rfl
 ·obtain ⟨t, r, rfl, ht, hk, q⟩ := h
  have nd := sc_tells_take.nd
  refine ⟨_, (pss_cons (cs_if (PW.pt (cw_or (pt_not (ct_val (pe_callB call_isi (by rfl) T.n_isinstance bt_isinstance (pa_cons (cv 0) (pa_cons (pe_bltn (v := .ty "tuple") (by rfl) T.n_tuple bt_tuple rfl) pa_nil))))) (cw_or (ct_cmp o_neI (pe_callB call_len_seq (by rfl) T.n_len bt_len (pa_cons (cv 0) pa_nil)) pe_int) (pw_or1 (ct_cmp o_neS (pe_ix ix_tup (cv 0) pe_int (fun _ _ => rfl)) pe_str))))) (pss_one (ps_ret pe_bl)) pss_nil)
  (pss_one (ps_ret (ce_and (pe_call (ok_is_whole_from T) (hr.mono (by decide)) (by rfl) T.m_is_whole_from T.F_is_whole_from.kp T.b_is_whole_from .nil pass0 (pa_cons pe_int (pa_cons (pe_ix ix_tup (cv 0) pe_int (fun _ _ => rfl)) pa_nil))) (ce_and (pe_call (ok_is_whole_from T) (hr.mono (by decide)) (by rfl) T.m_is_whole_from T.F_is_whole_from.kp T.b_is_whole_from .nil pass0 (pa_cons pe_int (pa_cons (pe_ix ix_tup (cv 0) pe_int (fun _ _ => rfl)) pa_nil))) (pe_one (pe_call (ok_is_whole_from T) (hr.mono (by decide)) (by rfl) T.m_is_whole_from T.F_is_whole_from.kp T.b_is_whole_from .nil pass0 (pa_cons pe_int (pa_cons (pe_ix ix_tup (cv 0) pe_int (fun _ _ => rfl)) pa_nil))))))))), ?_⟩
  cases r with
  | put to sg =>
   obtain ⟨u, h1, h2⟩ := ht
   walk_at "w"
   refine ⟨_, _, _, _, true, rfl, rfl, TyOf.tup h1, rfl, ?_⟩
   walk_at "w"
   refine ⟨by walk_at "no", fun _ => ?_⟩
   walk_at "w"
   refine ⟨t, _, rfl, .inr (SqT.of h1), ?_⟩
   walk_at "w"
   refine ⟨fun _ => ?_, by walk_at "no"⟩
   walk_at "w"
   exact ⟨fun _ => q, by walk_at "no"⟩
  | take to st c =>
   walk_at "w"
   refine ⟨_, _, _, _, true, rfl, rfl, TyOf.tup ht, rfl, ?_⟩
   walk_at "w"
   refine ⟨by walk_at "no", fun _ => ?_⟩
   walk_at "w"
   refine ⟨t, _, rfl, .inr (SqT.of ht), ?_⟩
   walk_at "w"
   refine ⟨by walk_at "no", fun _ => ?_⟩
   walk_at "w"
   refine ⟨t, _, _, .str "take", rfl, rfl, SqT.of ht, rfl, ?_⟩
   walk_at "w"
   refine ⟨by walk_at "no", fun _ => ?_⟩
   walk_at "w"
   obtain ⟨k1, k2, k3⟩ := hk
   refine ⟨t, _, _, .int to, rfl, rfl, SqT.of ht, rfl, ?_⟩
   walk_at "w"
   refine ⟨_, _, rfl, ?_⟩
   walk_at "w"
   refine ⟨fun _ => ?_, fun z => absurd k1 (of_decide_eq_false z)⟩
   walk_at "w"
   refine ⟨t, _, _, .int st, rfl, rfl, SqT.of ht, rfl, ?_⟩
   walk_at "w"
   refine ⟨_, _, rfl, ?_⟩
   walk_at "w"
   refine ⟨fun _ => ?_, fun z => absurd k2 (of_decide_eq_false z)⟩
   walk_at "w"
   refine ⟨t, _, _, .int c, rfl, rfl, SqT.of ht, rfl, ?_⟩
   walk_at "w"
   refine ⟨_, _, rfl, ?_⟩
   walk_at "w"
   rw [decide_eq_true k3]
   exact q
theorem ok_tells_put (T : Txt K mg a) : FnOk P w K mg base CX0 4 a.f_tells_put a.d_tells_put ["told"] (sp_tells_put K) := by
 refine T.F_tells_put.ok sc_tells_put (fun vs H Q E h => ?_) (fun cdv A outer s H vs Q E hr h => ?_)
 ·obtain ⟨t, to, sg, rfl, _⟩ := h; rfl
 ·obtain ⟨t, to, sg, rfl, ⟨u, h1, h2⟩, ⟨k1, k2, k3, k4⟩, q⟩ := h
  have nd := sc_tells_put.nd
  refine ⟨_, (pss_cons (cs_if (PW.pt (cw_or (pt_not (ct_val (pe_callB call_isi (by rfl) T.n_isinstance bt_isinstance (pa_cons (cv 0) (pa_cons (pe_bltn (v := .ty "tuple") (by rfl) T.n_tuple bt_tuple rfl) pa_nil))))) (cw_or (ct_cmp o_neI (pe_callB call_len_seq (by rfl) T.n_len bt_len (pa_cons (cv 0) pa_nil)) pe_int) (pw_or1 (ct_cmp o_neS (pe_ix ix_tup (cv 0) pe_int (fun _ _ => rfl)) pe_str))))) (pss_one (ps_ret pe_bl)) pss_nil)
  (pss_one (ps_ret (ce_and (pe_call (ok_is_whole_from T) (hr.mono (by decide)) (by rfl) T.m_is_whole_from T.F_is_whole_from.kp T.b_is_whole_from .nil pass0 (pa_cons pe_int (pa_cons (pe_ix ix_tup (cv 0) pe_int (fun _ _ => rfl)) pa_nil))) (pe_one (pe_call (ok_are_signs T) (hr.mono (by decide)) (by rfl) T.m_are_signs T.F_are_signs.kp T.b_are_signs .nil pass0 (pa_cons (pe_ix ix_tup (cv 0) pe_int (fun _ _ => rfl)) pa_nil))))))), ?_⟩
  walk_at "w"
  refine ⟨_, _, _, _, true, rfl, rfl, TyOf.tup h1, rfl, ?_⟩
  walk_at "w"
  refine ⟨by walk_at "no", fun _ => ?_⟩
  walk_at "w"
  refine ⟨t, _, rfl, .inr (SqT.of h1), ?_⟩
  walk_at "w"
  refine ⟨by walk_at "no", fun _ => ?_⟩
  walk_at "w"
  refine ⟨t, _, _, .str "put", rfl, rfl, SqT.of h1, rfl, ?_⟩
  walk_at "w"
  refine ⟨by walk_at "no", fun _ => ?_⟩
  walk_at "w"
  refine ⟨t, _, _, .int to, rfl, rfl, SqT.of h1, rfl, ?_⟩
  walk_at "w"
  refine ⟨_, _, rfl, ?_⟩
  walk_at "w"
  refine ⟨fun _ => ?_, fun z => absurd k1 (of_decide_eq_false z)⟩
  walk_at "w"
  refine ⟨t, _, _, .ref u, rfl, rfl, SqT.of h1, rfl, ?_⟩
  walk_at "w"
  exact ⟨u, sg, rfl, h2, k2, k3, k4, q⟩
theorem ok_row_of (T : Txt K mg a) : FnOk P w K mg base CX0 5 a.f_row_of a.d_row_of ["told"] (sp_row_of K a) := by
 refine T.F_row_of.ok sc_row_of (fun vs H Q E h => ?_) (fun cdv A outer s H vs Q E hr h => ?_)
 ·obtain ⟨t, r, rfl, _⟩ := h; rfl
 ·obtain ⟨t, r, rfl, ht, hk, q⟩ := h
  have nd := sc_row_of.nd
  refine ⟨_, (pss_cons (cs_if (ct_val (pe_call (ok_tells_take T) (hr.mono (by decide)) (by rfl) T.m_tells_take T.F_tells_take.kp T.b_tells_take .nil pass0 (pa_cons (cv 0) pa_nil))) (pss_one (ps_ret (pe_make T.mk_Take (ok_Take_init T) (hr.mono (by decide)) (by rfl) T.m_Take T.b_Take_init .nil pass0 (pa_cons (pe_ix ix_tup (cv 0) pe_int (fun _ _ => rfl)) (pa_cons (pe_ix ix_tup (cv 0) pe_int (fun _ _ => rfl)) (pa_cons (pe_ix ix_tup (cv 0) pe_int (fun _ _ => rfl)) pa_nil)))))) pss_nil)
  (pss_cons (cs_if (ct_val (pe_call (ok_tells_put T) (hr.mono (by decide)) (by rfl) T.m_tells_put T.F_tells_put.kp T.b_tells_put .nil pass0 (pa_cons (cv 0) pa_nil))) (pss_one (ps_ret (pe_make T.mk_Put (ok_Put_init T) (hr.mono (by decide)) (by rfl) T.m_Put T.b_Put_init .nil pass0 (pa_cons (pe_ix ix_tup (cv 0) pe_int (fun _ _ => rfl)) (pa_cons (pe_ix ix_tup (cv 0) pe_int (fun _ _ => rfl)) pa_nil))))) pss_nil)
  (pss_one ps_dead))), ?_⟩
  walk_at "w"
  refine ⟨t, r, rfl, ht, hk, ?_⟩
  cases r with
  | take to st c =>
   walk_at "w"
   refine ⟨fun _ => ?_, by walk_at "no"⟩
   walk_at "w"
   refine ⟨t, _, _, .int to, rfl, rfl, SqT.of ht, rfl, ?_⟩
   walk_at "w"
   refine ⟨t, _, _, .int st, rfl, rfl, SqT.of ht, rfl, ?_⟩
   walk_at "w"
   refine ⟨t, _, _, .int c, rfl, rfl, SqT.of ht, rfl, ?_⟩
   walk_at "w"
   intro x dx hx hdx hne
   generalize hU : upd H dx (.own x) = H3
   have sH3 := Same.of_eq hdx hU
   have hx3 : H3 x = none := by rw [← hU, upd_ne (Ne.symm hne)]; exact hx
   refine ⟨x, dx, _, _, _, rfl, upd_same, ?_⟩
   rw [upd_upd]
   walk_at "w"
   exact ⟨rfl, q x _ (sH3.trans (Same.new hx3)) hx ⟨dx, upd_same⟩⟩
  | put to sg =>
   walk_at "w"
   refine ⟨by walk_at "no", fun _ => ?_⟩
   walk_at "w"
   refine ⟨t, to, sg, rfl, ht, hk, fun H2 s2 => ?_⟩
   walk_at "w"
   obtain ⟨u, h1, h2⟩ := ht
   refine ⟨fun _ => ?_, by walk_at "no"⟩
   walk_at "w"
   refine ⟨t, _, _, .int to, rfl, rfl, SqT.of (s2.at h1), rfl, ?_⟩
   walk_at "w"
   refine ⟨t, _, _, .ref u, rfl, rfl, SqT.of (s2.at h1), rfl, ?_⟩
   walk_at "w"
   intro x dx hx hdx hne
   generalize hU : upd H2 dx (.own x) = H3
   have sH3 := Same.of_eq hdx hU
   have hx3 : H3 x = none := by rw [← hU, upd_ne (Ne.symm hne)]; exact hx
   refine ⟨x, dx, u, _, _, rfl, upd_same, (sH3.trans (Same.new hx3)).seqT (SqT.of (s2.at h2)), ?_⟩
   rw [upd_upd]
   walk_at "w"
   refine ⟨rfl, q x _ (s2.trans (sH3.trans (Same.new hx3))) (s2.back hx) ⟨dx, u, ?_, (s2.trans (sH3.trans (Same.new hx3))).at h2⟩⟩
   rw [upd_same, List.length_map]
theorem ok_Put_pieces (T : Txt K mg a) : FnOk P w K mg base CX0 2 a.f_Put_pieces a.d_Put_pieces ["self"] (sp_Ppieces a) := by
 refine T.F_Put_pieces.ok sc_Put_pieces (fun vs H Q E h => ?_) (fun cdv A outer s H vs Q E hr h => ?_)
 ·obtain ⟨p, dx, t, to, n, rfl, _⟩ := h; rfl
 ·obtain ⟨p, dx, t, to, n, rfl, hp, hn, k⟩ := h
  have nd := sc_Put_pieces.nd
  refine ⟨_, (pss_one (ps_ret (pe_lst (pa_cons (pe_meth0 (cv 0) T.c_Put T.me_Put_covered (ok_Row_covered T) (hr.mono (by decide)) T.b_Row_covered .nil pass0) pa_nil)))), ?_⟩
  walk_at "w"
  refine ⟨p, dx, _, rfl, hp, rfl, ?_⟩
  walk_at "w"
  refine ⟨p, _, dx, _, to, n, rfl, hp, T.c_Put, T.na_Put_to, T.na_Put_count, rfl, rfl, by omega, fun l H1 s1 hl e1 => ?_⟩
  walk_at "w"
  walk_at "ss"
  intro D hD
  have hD0 := s1.back hD
  refine k D [l] _ (s1.put hD0) ⟨upd_same, ?_, rfl, fun i b xs h1 h2 => ?_, hD0, fun b hb => ?_⟩
  ·have : D ≠ l := fun z => by rw [z, e1] at hD; cases hD
   simpa using this
  ·cases i with
   | zero =>
    simp at h1 h2
    subst h1 h2
    rw [upd_ne (ne_of_none e1 hD)]; exact e1
   | succ i => simp at h1
  ·rw [List.mem_singleton.mp hb]; exact hl
theorem ok_Take_pieces (T : Txt K mg a) : FnOk P w K mg base CX0 2 a.f_Take_pieces a.d_Take_pieces ["self"] (sp_Tpieces a) := by
 refine T.F_Take_pieces.ok sc_Take_pieces (fun vs H Q E h => ?_) (fun cdv A outer s H vs Q E hr h => ?_)
 ·obtain ⟨p, dx, to, st, c, rfl, _⟩ := h; rfl
 ·obtain ⟨p, dx, to, st, c, rfl, hp, hc1, hc2, hd, k⟩ := h
  have nd := sc_Take_pieces.nd
  refine ⟨_, (pss_cons (cs_if (ct_val (pe_meth0 (cv 0) T.c_Take T.me_Take_stays (ok_Take_stays T) (hr.mono (by decide)) T.b_Take_stays .nil pass0)) (pss_one (ps_ret (pe_lst pa_nil))) pss_nil)
  (pss_cons (ps_set (i := 1) nd rfl (Or.inr rfl) (pe_fld (cv 0) rfl))
  (pss_cons (ps_set (i := 2) nd rfl (Or.inr rfl) (pe_op o_add (pe_fld (cv 0) rfl) (pe_fld (cv 0) rfl)))
  (pss_cons (cs_if (ct_cmp o_lt (pe_fld (cv 0) rfl) (pe_fld (cv 0) rfl)) (pss_cons (ps_set (i := 3) nd rfl (Or.inr rfl) (pe_op o_sub (pe_fld (cv 0) rfl) (pe_fld (cv 0) rfl)))
  (pss_one (ps_ret (pe_comp (blk_mk (cap := [2, 3]) (ys := ["end", "step"]) rfl rfl rfl rfl rfl ⟨⟨rfl, rfl, .inl rfl⟩, ⟨⟨rfl, rfl, .inl rfl⟩, trivial⟩⟩ (by decide +kernel)) rfl (ci_range3 (by rfl) T.n_range (pa_cons (cv 1) (pa_cons (cv 2) (pa_cons (cv 3) pa_nil)))) (fun _ _ _ _ => (pe_callTy (call_list_rng rfl) (by rfl) T.n_list bt_list (pa_cons (ce_range2 (by rfl) T.n_range (pa_cons (cv 0) (pa_cons (pe_callB (c_min2 rfl) (by rfl) T.n_min bt_min (pa_cons (pe_op o_add (cv 0) (cv 2)) (pa_cons (cv 1) pa_nil))) pa_nil))) pa_nil))) (fun _ _ _ _ => cts_nil))))) pss_nil)
  (pss_cons (ps_set (i := 3) nd rfl (Or.inr rfl) (pe_op o_sub (pe_fld (cv 0) rfl) (pe_fld (cv 0) rfl)))
  (pss_one (ps_ret (pe_comp (blk_mk (cap := [1, 3]) (ys := ["first", "step"]) rfl rfl rfl rfl rfl ⟨⟨rfl, rfl, .inl rfl⟩, ⟨⟨rfl, rfl, .inl rfl⟩, trivial⟩⟩ (by decide +kernel)) rfl (ci_range3 (by rfl) T.n_range (pa_cons (cv 2) (pa_cons (cv 1) (pa_cons (pe_un o_neg (cv 3)) pa_nil)))) (fun _ _ _ _ => (pe_callTy (call_list_rng rfl) (by rfl) T.n_list bt_list (pa_cons (ce_range2 (by rfl) T.n_range (pa_cons (pe_callB (c_max2 rfl) (by rfl) T.n_max bt_max (pa_cons (pe_op o_sub (cv 0) (cv 2)) (pa_cons (cv 1) pa_nil))) (pa_cons (cv 0) pa_nil))) pa_nil))) (fun _ _ _ _ => cts_nil))))))))), ?_⟩
  walk_at "w"
  refine ⟨p, dx, _, rfl, hp, rfl, ?_⟩
  walk_at "w"
  refine ⟨p, dx, to, st, c, rfl, hp, ?_⟩
  walk_at "w"
  refine ⟨fun e => ?_, fun e => ?_⟩
  ·have e' : st = to := of_decide_eq_true e
   walk_at "w"
   walk_at "ss"
   intro l hl
   refine k l [] _ (Same.new hl) ?_
   rw [piecesT, if_pos e']
   exact LLat.nil (H' := H) hl upd_same
  ·have e' : ¬ st = to := of_decide_eq_false e
   walk_at "w"
   refine ⟨p, _, dx, _, .int to, rfl, hp, T.c_Take, T.na_Take_to, rfl, ?_⟩
   walk_at "w"
   refine ⟨p, _, dx, _, .int to, rfl, hp, T.c_Take, T.na_Take_to, rfl, ?_⟩
   walk_at "w"
   refine ⟨p, _, dx, _, .int c, rfl, hp, T.c_Take, T.na_Take_count, rfl, ?_⟩
   walk_at "w"
   refine ⟨p, _, dx, _, .int to, rfl, hp, T.c_Take, T.na_Take_to, rfl, ?_⟩
   walk_at "w"
   refine ⟨p, _, dx, _, .int st, rfl, hp, T.c_Take, T.na_Take_source, rfl, ?_⟩
   walk_at "w"
   refine ⟨fun e2 => ?_, fun e2 => ?_⟩
   ·have e3 : to < st := of_decide_eq_true e2
    walk_at "w"
    refine ⟨p, _, dx, _, .int st, rfl, hp, T.c_Take, T.na_Take_source, rfl, ?_⟩
    walk_at "w"
    refine ⟨p, _, dx, _, .int to, rfl, hp, T.c_Take, T.na_Take_to, rfl, ?_⟩
    walk_at "w"
    refine And.intro (log_ok (by omega) hd) ?_
    walk_at "w"
    obtain ⟨d, hdd⟩ : ∃ d : Nat, st - to = (d : Int) := ⟨(st - to).toNat, by omega⟩
    have hd0 : 0 < d := by omega
    rw [hdd, rngN_up to c d hc1 hd0]
    refine comp_lists (uch to d c.toNat) (Nat.le_trans ?_ (show 1000 ≤ sizeLine by decide)) (fun i H3 hi s3 R hR => ?_) (fun D H2 as s2 L => ?_)
    ·have := chs_len (uch to d) d c.toNat hd0
     unfold chs at this
     rw [List.length_map, List.length_range] at this
     omega
    ·walk_at "w"
     intro r hr
     generalize hUr : upd H3 r _ = H4
     have sH4 := Same.of_eq hr hUr
     have er := at_of_eq hUr
     clear hUr
     walk_at "w"
     have ep : (i : Int) * (d : Int) = ((i * d : Nat) : Int) := by rw [Int.natCast_mul]
     have el : rngN (to + ((i * d : Nat) : Int)) (min (to + ((i * d : Nat) : Int) + (st - to)) (to + c)) 1 = min d (c.toNat - i * d) := by
      rw [rngN_one]
      generalize i * d = q
      omega
     rw [ep] at er
     refine ⟨r, _, _, rfl, er, by rw [el]; omega, fun l hl => ?_⟩
     rw [el, rngV_eq]
     exact hR l _ (sH4.put (sH4.back hl)) (sH4.back hl) upd_same
    ·refine k D as H2 s2 ?_
     rw [piecesT, if_neg e', if_pos e3, hdd]
     exact L
   ·have e3 : ¬ to < st := of_decide_eq_false e2
    walk_at "w"
    refine ⟨p, _, dx, _, .int to, rfl, hp, T.c_Take, T.na_Take_to, rfl, ?_⟩
    walk_at "w"
    refine ⟨p, _, dx, _, .int st, rfl, hp, T.c_Take, T.na_Take_source, rfl, ?_⟩
    walk_at "w"
    refine And.intro (log_ok (by omega) (by omega)) ?_
    walk_at "w"
    obtain ⟨d, hdd⟩ : ∃ d : Nat, to - st = (d : Int) := ⟨(to - st).toNat, by omega⟩
    have hd0 : 0 < d := by omega
    rw [hdd, rngN_down to c d hc1 hd0]
    refine comp_lists (dch (to + c) d c.toNat) (Nat.le_trans ?_ (show 1000 ≤ sizeLine by decide)) (fun i H3 hi s3 R hR => ?_) (fun D H2 as s2 L => ?_)
    ·have := chs_len (dch (to + c) d) d c.toNat hd0
     unfold chs at this
     rw [List.length_map, List.length_range] at this
     omega
    ·walk_at "w"
     intro r hr
     generalize hUr : upd H3 r _ = H4
     have sH4 := Same.of_eq hr hUr
     have er := at_of_eq hUr
     clear hUr
     walk_at "w"
     have ep : (i : Int) * -(d : Int) = -((i * d : Nat) : Int) := by rw [Int.mul_neg, Int.natCast_mul]
     have hid : i * d ≤ c.toNat := cN_below hd0 hi
     have el : rngN (max (to + c + -((i * d : Nat) : Int) - (to - st)) to) (to + c + -((i * d : Nat) : Int)) 1 = min d (c.toNat - i * d) := by
      rw [rngN_one]
      generalize i * d = q at hid
      omega
     rw [ep] at er
     refine ⟨r, _, _, rfl, er, by rw [el]; omega, fun l hl => ?_⟩
     rw [el, rngV_eq]
     refine hR l _ (sH4.put (sH4.back hl)) (sH4.back hl) ?_
     rw [upd_same]
     unfold dch
     have e5 : max (to + c + -((i * d : Nat) : Int) - (to - st)) to = to + c - ((min ((i + 1) * d) c.toNat : Nat) : Int) := by
      rw [Nat.succ_mul]
      generalize i * d = q at hid
      omega
     rw [e5]
    ·refine k D as H2 s2 ?_
     rw [piecesT, if_neg e', if_neg e3, hdd]
     exact L
theorem TupAt.off {K : W.Frag} {H : Hp} {t p : Addr} {r : RowD} {xs : List V} {o : HO} (h : TupAt K H t r) (hp : H p = some (.lst xs)) : TupAt K (upd H p o) t r := by
 have ne : ∀ {q : Addr} {ys : List V}, H q = some (.tup ys) → upd H p o q = some (.tup ys) := fun {q ys} e => by
  rw [upd_ne (fun z => by rw [z, hp] at e; cases e)]; exact e
 cases r with
 | take to st c => exact ne h
 | put to sg => obtain ⟨u, h1, h2⟩ := h; exact ⟨u, ne h1, ne h2⟩
def Cut (cs : List Int) : Prop := ∀ (k : Nat) (x y : Int), cs[k]? = some x → cs[k + 1]? = some y → 0 ≤ x ∧ x < y ∧ y ≤ x + 9
def sp_cuts : Sp := fun vs H Q _ => ∃ n c : Int, vs = [.int n, .int c] ∧ 0 ≤ n ∧ n ≤ 29 ∧ ∀ (l : Addr) (cs : List Int) (H' : Hp), Same H H' → H' l = some (.lst (cs.map V.int)) → Cut cs → 1 ≤ cs.length → cs.length ≤ 30 → (∀ x ∈ cs, x ≤ n) → cs[0]? = some 0 → cs[cs.length - 1]? = some n → Q (.ref l) H'
theorem Cut.snoc {cs : List Int} {v y : Int} (h : Cut (cs ++ [v])) (h0 : 0 ≤ v) (h1 : v < y) (h2 : y ≤ v + 9) : Cut (cs ++ [v] ++ [y]) := by
 intro k a b ha hb
 by_cases e : k + 1 < (cs ++ [v]).length
 ·rw [List.getElem?_append_left (by omega)] at ha hb
  exact h k a b ha hb
 ·by_cases e2 : k + 1 = (cs ++ [v]).length
  ·rw [List.getElem?_append_left (by omega)] at ha
   rw [List.getElem?_append_right (by omega), e2] at hb
   simp at hb
   subst hb
   have hk : k = cs.length := by rw [List.length_append] at e2; simp at e2; omega
   rw [hk] at ha
   simp at ha
   subst ha
   exact ⟨h0, h1, h2⟩
  ·rw [List.getElem?_eq_none (by rw [List.length_append (as := cs ++ [v])]; simp at e e2 ⊢; omega)] at hb
   cases hb
theorem ok_cuts (T : Txt K mg a) : FnOk P w K mg base CX0 2 a.f_cuts a.d_cuts ["_law_size", "_law_cell"] sp_cuts := by
 refine T.F_cuts.ok sc_cuts (fun vs H Q E h => ?_) (fun cdv A outer s H vs Q E hr h => ?_)
 ·obtain ⟨n, c, rfl, _⟩ := h; rfl
 ·obtain ⟨n, c, rfl, hn0, hn, q⟩ := h
  have nd := sc_cuts.nd
  refine ⟨_, (pss_cons (ps_set (i := 2) nd rfl (Or.inl rfl) (pe_lst (pa_cons pe_int pa_nil)))
  (pss_cons (cs_while PassesOwn.never (ct_cmp o_lt (pe_ix ix_list (cv 2) (pe_un o_neg pe_int) (fun _ _ => rfl)) (cv 0)) (pss_one (ps_expr (pe_bm PySem.F.plainAttrs_list PySem.F.slot_list_append PySem.F.type_list_append mt_append (cv 2) (pa_cons (pe_callB (c_min2 rfl) (by rfl) T.n_min bt_min (pa_cons (cv 0) (pa_cons (pe_op o_add (pe_op o_add (pe_ix ix_list (cv 2) (pe_un o_neg pe_int) (fun _ _ => rfl)) pe_int) (pe_op o_mod (pe_call (ok_mixed T) (hr.mono (by decide)) (by rfl) T.m_mixed T.F_mixed.kp T.b_mixed .nil pass0 (pa_cons (cv 1) (pa_cons (pe_callB call_len_seq (by rfl) T.n_len bt_len (pa_cons (cv 2) pa_nil)) pa_nil))) pe_int)) pa_nil))) pa_nil)))))
  (pss_one (ps_ret (cv 2))))), ?_⟩
  walk_at "w"
  walk_at "ss"
  intro cl hcl
  generalize hUcl : upd H cl _ = H1
  have sH1 := Same.of_eq hcl hUcl
  have ecl := at_of_eq hUcl
  clear hUcl
  walk_at "w"
  refine whileAt_inv (m := n.toNat) (fun m σ G => Same H G ∧ σ = [some (.int n), some (.int c), some (.ref cl)] ∧ ∃ (cs : List Int) (v : Int), m = (n - v).toNat ∧ G cl = some (.lst ((cs ++ [v]).map V.int)) ∧ Cut (cs ++ [v]) ∧ 0 ≤ v ∧ v ≤ n ∧ (cs.length : Int) ≤ v ∧ (∀ x ∈ cs ++ [v], x ≤ n) ∧ (cs ++ [v])[0]? = some 0)
   ⟨sH1, rfl, [], 0, by omega, ecl, (fun k x y h1 h2 => by simp at h2), by omega, hn0, by simp, (fun x hx => by simp at hx; omega), rfl⟩ (fun m σ G hP => ?_)
  obtain ⟨sG, rfl, cs, v, rfl, ecl', hcut, hv0, hvn, hlen, hle, hz⟩ := hP
  have hlast : atI ((cs ++ [v]).map V.int) (-1) = some (.int v) := by rw [List.map_append]; exact atI_last _ _
  walk_at "w"
  refine ⟨cl, _, _, .int v, rfl, rfl, SqL.of ecl', hlast, ?_⟩
  walk_at "w"
  refine ⟨fun e1 => ?_, fun e1 => ?_⟩
  ·have h1 : v < n := of_decide_eq_true e1
   refine ⟨fun σ' G' => ∃ m', m' < (n - v).toNat ∧ Same H G' ∧ σ' = [some (.int n), some (.int c), some (.ref cl)] ∧ ∃ (cs : List Int) (v : Int), m' = (n - v).toNat ∧ G' cl = some (.lst ((cs ++ [v]).map V.int)) ∧ Cut (cs ++ [v]) ∧ 0 ≤ v ∧ v ≤ n ∧ (cs.length : Int) ≤ v ∧ (∀ x ∈ cs ++ [v], x ≤ n) ∧ (cs ++ [v])[0]? = some 0, fun σ' G' z => z, ?_⟩
   walk_at "w"
   refine ⟨.inl ⟨rfl, _, SqL.of ecl'⟩, ?_⟩
   walk_at "w"
   refine ⟨cl, _, _, .int v, rfl, rfl, SqL.of ecl', hlast, ?_⟩
   walk_at "w"
   refine ⟨cl, _, rfl, .inl (SqL.of ecl'), ?_⟩
   walk_at "w"
   refine ⟨_, _, rfl, ?_⟩
   walk_at "w"
   walk_at "ss"
   generalize mixed c _ = mx
   have b0 := Int.emod_nonneg mx (show (9 : Int) ≠ 0 by decide)
   have b1 := Int.emod_lt_of_pos mx (show (0 : Int) < 9 by decide)
   refine ⟨cl, _, _, rfl, rfl, ecl', (by rw [List.length_map, List.length_append, sizeLine_eq]; simp; omega), ?_⟩
   generalize hU : upd G cl _ = G2
   obtain ⟨y, hy⟩ : ∃ y : Int, y = min n (v + 1 + mx % 9) := ⟨_, rfl⟩
   refine ⟨(n - y).toNat, by omega, Same.wr sG hcl hU, rfl, cs ++ [v], y, rfl, ?_, hcut.snoc hv0 (by omega) (by omega), by omega, by omega, by rw [List.length_append]; simp; omega, ?_, by rw [List.getElem?_append_left (by simp)]; exact hz⟩
   ·rw [← hU, upd_same, List.map_append (l₁ := cs ++ [v]), hy]; rfl
   ·intro x hx
    rcases List.mem_append.mp hx with z | z
    ·exact hle x z
    ·rw [List.mem_singleton.mp z]; omega
  walk_at "w"
  have ev : v = n := by have := of_decide_eq_false e1; omega
  exact q cl (cs ++ [v]) G sG ecl' hcut (by simp) (by simp; omega) hle hz (by simp [ev])
def Sm : RowD → Prop
 | .take to st c => to ≤ 100 ∧ st ≤ 100 ∧ c ≤ 9
 | .put to sg => to ≤ 100 ∧ sg.length ≤ 9
theorem paired_snoc {α β : Type} {F : α → β → Prop} {x : α} {y : β} : ∀ {l₁ : List α} {l₂ : List β}, Paired F l₁ l₂ → F x y → Paired F (l₁ ++ [x]) (l₂ ++ [y])
 | _, _, .nil, h => .cons h .nil
 | _, _, .cons r t, h => .cons r (paired_snoc t h)
def FitO (old new : Int) : RowD → Prop
 | .take to st c => st + c ≤ old ∧ to + c ≤ new
 | .put to sg => to + sg.length ≤ new
def sp_tiles (K : W.Frag) : Sp := fun vs H Q _ => ∃ old new cell : Int, vs = [.int old, .int new, .int cell] ∧ 0 ≤ old ∧ old ≤ 29 ∧ 0 ≤ new ∧ new ≤ 29 ∧
 ∀ (l : Addr) (ts : List Addr) (rs : List RowD) (H' : Hp), Same H H' → H' l = some (.lst (ts.map V.ref)) → Paired (TupAt K H') ts rs → (∀ r ∈ rs, r.ok ∧ Sm r ∧ FitO old new r) → ts.length ≤ 29 → Tl old rs new → Q (.ref l) H'
theorem ok_tiles (T : Txt K mg a) : FnOk P w K mg base CX0 3 a.f_tiles a.d_tiles ["_law_old", "_law_new", "_law_cell"] (sp_tiles K) := by
 refine T.F_tiles.ok sc_tiles (fun vs H Q E h => ?_) (fun cdv A outer s H vs Q E hr h => ?_)
 ·obtain ⟨old, new, cell, rfl, _⟩ := h; rfl
 ·obtain ⟨old, new, cell, rfl, ho0, ho, hn0, hn, q⟩ := h
  have nd := sc_tiles.nd
  refine ⟨_, (pss_cons (ps_set (i := 3) nd rfl (Or.inl rfl) (pe_call (ok_cuts T) (hr.mono (by decide)) (by rfl) T.m_cuts T.F_cuts.kp T.b_cuts .nil pass0 (pa_cons (cv 1) (pa_cons (cv 2) pa_nil))))
  (pss_cons (ps_set (i := 4) nd rfl (Or.inl rfl) (pe_ix ix_list (pe_lst (pa_cons (pe_op o_sub (pe_op o_mod (pe_call (ok_mixed T) (hr.mono (by decide)) (by rfl) T.m_mixed T.F_mixed.kp T.b_mixed .nil pass0 (pa_cons (cv 2) (pa_cons pe_int pa_nil))) pe_int) pe_int) (pa_cons pe_int pa_nil))) (pe_callTy call_int1 (by rfl) T.n_int bt_int (pa_cons (ce_cmp o_eqI (pe_op o_mod (pe_call (ok_mixed T) (hr.mono (by decide)) (by rfl) T.m_mixed T.F_mixed.kp T.b_mixed .nil pass0 (pa_cons (cv 2) (pa_cons pe_int pa_nil))) pe_int) pe_int) pa_nil)) (fun _ _ => rfl)))
  (pss_cons (ps_set (i := 5) nd rfl (Or.inl rfl) (pe_lst pa_nil))
  (pss_cons (cs_for PassesOwn.never rfl (ci_range2 (by rfl) T.n_range (pa_cons pe_int (pa_cons (pe_callB call_len_seq (by rfl) T.n_len bt_len (pa_cons (cv 3) pa_nil)) pa_nil))) (pg_name (i := 6) nd rfl (Or.inl rfl)) (pss_cons (ps_set (i := 7) nd rfl (Or.inr rfl) (pe_call (ok_mixed T) (hr.mono (by decide)) (by rfl) T.m_mixed T.F_mixed.kp T.b_mixed .nil pass0 (pa_cons (cv 2) (pa_cons (pe_op o_add pe_int (cv 6)) pa_nil))))
  (pss_cons (ps_set (i := 8) nd rfl (Or.inr rfl) (pe_ix ix_list (cv 3) (pe_op o_sub (cv 6) pe_int) (fun _ _ => rfl)))
  (pss_cons (ps_set (i := 9) nd rfl (Or.inl rfl) (pe_op o_sub (pe_ix ix_list (cv 3) (cv 6) (fun _ _ => rfl)) (cv 8)))
  (pss_cons (ps_set (i := 10) nd rfl (Or.inl rfl) (pe_op o_add (cv 8) (cv 4)))
  (pss_cons (cs_cut (cs_if (PW.pt (cw_and (ct_cmp o_eqI (pe_op o_mod (cv 7) pe_int) pe_int) (pw_and1 (ct_cmp o_le (cv 9) (cv 0))))) (pss_one (ps_set (i := 10) nd rfl (Or.inl rfl) (pe_op o_mod (pe_op o_fdiv (cv 7) pe_int) (pe_op o_add (pe_op o_sub (cv 0) (cv 9)) pe_int)))) pss_nil))
  (pss_cons (cs_cut (cs_if (PW.pt (cw_and (ct_cmp o_eqI (pe_op o_mod (cv 7) pe_int) pe_int) (pw_and1 (ct_cmp o_le (pe_op o_add (cv 8) (cv 9)) (cv 0))))) (pss_one (ps_set (i := 10) nd rfl (Or.inl rfl) (cv 8))) pss_nil))
  (pss_one (cs_if (PW.pt (cw_and (ct_cmp o_gt (pe_op o_mod (cv 7) pe_int) pe_int) (cw_and (ct_cmp o_le pe_int (cv 10)) (pw_and1 (ct_cmp o_le (pe_op o_add (cv 10) (cv 9)) (cv 0)))))) (pss_one (ps_expr (pe_bm PySem.F.plainAttrs_list PySem.F.slot_list_append PySem.F.type_list_append mt_append (cv 5) (pa_cons (pe_tup (pa_cons pe_str (pa_cons (cv 8) (pa_cons (cv 10) (pa_cons (cv 9) pa_nil))))) pa_nil)))) (pss_one (ps_expr (pe_bm PySem.F.plainAttrs_list PySem.F.slot_list_append PySem.F.type_list_append mt_append (cv 5) (pa_cons (pe_tup (pa_cons pe_str (pa_cons (cv 8) (pa_cons (pe_callTy call_tuple_of (by rfl) T.n_tuple bt_tuple (pa_cons (pe_comp (blk_mk (cap := [7, 8]) (ys := ["_law_draw", "_law_to"]) rfl rfl rfl rfl rfl ⟨⟨rfl, rfl, .inl rfl⟩, ⟨⟨rfl, rfl, .inl rfl⟩, trivial⟩⟩ (by decide +kernel)) rfl (ci_range1 (by rfl) T.n_range (pa_cons (cv 9) pa_nil)) (fun _ _ _ _ => (pe_op o_sub (pe_op o_sub (pe_op o_sub (pe_un o_neg pe_int) (cv 2)) (cv 0)) (pe_op o_mul (pe_op o_mod (cv 1) (pe_op o_pow pe_int pe_int)) pe_int))) (fun _ _ _ _ => cts_nil)) pa_nil)) pa_nil)))) pa_nil)))))))))))))
  (pss_one (ps_ret (cv 5))))))), ?_⟩
  walk_at "w"
  refine ⟨_, _, rfl, hn0, hn, fun cl cs H1 s1 e1 hcut hc1 hc2 hcle hz0 hzn => ?_⟩
  walk_at "w"
  refine ⟨_, _, rfl, ?_⟩
  walk_at "w"
  walk_at "ss"
  intro p0 hp0
  generalize hUp0 : upd H1 p0 _ = H2
  have sH2 := Same.of_eq hp0 hUp0
  have ep0 := at_of_eq hUp0
  clear hUp0
  walk_at "w"
  refine ⟨_, _, rfl, ?_⟩
  walk_at "w"
  walk_at "ss"
  obtain ⟨sh, hsh, hs1⟩ : ∃ sh : Int, atI [V.int (mixed cell 77 % 15 - 7), V.int 0] (if decide (mixed cell 78 % 4 = 0) = true then (1 : Int) else 0) = some (.int sh) ∧ sh ≤ 10 := by
   have := Int.emod_lt_of_pos (mixed cell 77) (show (0 : Int) < 15 by decide)
   cases decide (mixed cell 78 % 4 = 0) with
   | true => exact ⟨0, rfl, by decide⟩
   | false => exact ⟨_, rfl, by omega⟩
  refine .inr ⟨_, rfl, ?_⟩
  walk_at "w"
  refine ⟨p0, _, _, .int sh, rfl, rfl, SqL.of ep0, hsh, ?_⟩
  walk_at "w"
  walk_at "ss"
  intro rl hrl
  generalize hUrl : upd H2 rl _ = H3
  have sH3 := Same.of_eq hrl hUrl
  have erl := at_of_eq hUrl
  clear hUrl
  walk_at "w"
  have sA : Same H H3 := s1.trans (sH2.trans sH3)
  have ecl : H3 cl = some (.lst (cs.map V.int)) := (sH2.trans sH3).at e1
  have hrl0 : H rl = none := (s1.trans sH2).back hrl
  refine ⟨cl, _, rfl, .inl (SqL.of ecl), ?_⟩
  walk_at "w"
  rw [List.length_map]
  have er : rngN 1 (cs.length : Int) 1 = cs.length - 1 := by rw [rngN_one]; omega
  rw [er]
  have ncr : cl ≠ rl := fun z => by rw [← z, sH2.at e1] at hrl; cases hrl
  refine forAt_its (fun i σ G => Same H G ∧ G cl = some (.lst (cs.map V.int)) ∧ ∃ (ts : List Addr) (rs : List RowD) (x6 x7 x8 x9 x10 : Option V), σ = [some (.int old), some (.int new), some (.int cell), some (.ref cl), some (.int sh), some (.ref rl), x6, x7, x8, x9, x10] ∧ G rl = some (.lst (ts.map V.ref)) ∧ Paired (TupAt K G) ts rs ∧ (∀ r ∈ rs, r.ok ∧ Sm r ∧ FitO old new r) ∧ ts.length = i ∧ ∃ y, cs[i]? = some y ∧ Tl old rs y)
   ⟨sA, ecl, [], [], _, _, _, _, _, rfl, erl, .nil, (fun _ z => by cases z), rfl, 0, hz0, .nil⟩ (fun i σ G hi hP => ?_) (fun σ G hP => ?_)
  ·obtain ⟨sG, ecl', ts, rs, x6, x7, x8, x9, x10, rfl, erl', hts, hrs, htl, xx, hxx, hTl⟩ := hP
   have hi1 : i < cs.length := by omega
   have hi2 : i + 1 < cs.length := by omega
   obtain ⟨x, hx⟩ : ∃ x, cs[i]? = some x := ⟨_, List.getElem?_eq_getElem hi1⟩
   rw [hx] at hxx; have hxx := Option.some.inj hxx; subst hxx
   obtain ⟨y, hy⟩ : ∃ y, cs[i + 1]? = some y := ⟨_, List.getElem?_eq_getElem hi2⟩
   obtain ⟨c1, c2, c3⟩ := hcut i x y hx hy
   have hyn := hcle y (List.mem_of_getElem? hy)
   have a1 : atI (cs.map V.int) (1 + (i : Int) * 1 - 1) = some (.int x) := by
    rw [show 1 + (i : Int) * 1 - 1 = (i : Int) by omega]; exact atI_nat (by rw [List.getElem?_map, hx]; rfl)
   have a2 : atI (cs.map V.int) (1 + (i : Int) * 1) = some (.int y) := by
    rw [show 1 + (i : Int) * 1 = ((i + 1 : Nat) : Int) by omega]; exact atI_nat (by rw [List.getElem?_map, hy]; rfl)
   walk_at "w"
   refine ⟨_, _, rfl, ?_⟩
   walk_at "w"
   generalize mixed cell _ = draw
   refine ⟨cl, _, _, .int x, rfl, rfl, SqL.of ecl', a1, ?_⟩
   walk_at "w"
   refine ⟨cl, _, _, .int y, rfl, rfl, SqL.of ecl', a2, ?_⟩
   walk_at "w"
   refine ⟨fun σ' G' => G' = G ∧ ∃ st : Int, st ≤ 100 ∧ σ' = [some (.int old), some (.int new), some (.int cell), some (.ref cl), some (.int sh), some (.ref rl), some (.int (1 + (i : Int) * 1)), some (.int draw), some (.int x), some (.int (y - x)), some (.int st)], ?_, ?_⟩
   ·walk_at "w"
    walk_at "ss"
    refine ⟨fun e4 => ?_, fun e4 => ⟨by walk_at "no", fun _ => ⟨rfl, x + sh, by omega, rfl⟩⟩⟩
    walk_at "w"
    refine ⟨fun e5 => ?_, fun e5 => ⟨rfl, x + sh, by omega, rfl⟩⟩
    have h5 : y - x ≤ old := of_decide_eq_true e5
    walk_at "w"
    walk_at "ss"
    have b1 := Int.emod_lt_of_pos (draw / 4) (show 0 < old - (y - x) + 1 by omega)
    exact ⟨rfl, draw / 4 % (old - (y - x) + 1), by omega, rfl⟩
   rintro σ' G' ⟨rfl, st0, hst0, rfl⟩
   walk_at "w"
   refine ⟨fun σ' G2 => G2 = G' ∧ ∃ st : Int, st ≤ 100 ∧ σ' = [some (.int old), some (.int new), some (.int cell), some (.ref cl), some (.int sh), some (.ref rl), some (.int (1 + (i : Int) * 1)), some (.int draw), some (.int x), some (.int (y - x)), some (.int st)], ?_, ?_⟩
   ·walk_at "w"
    walk_at "ss"
    refine ⟨fun e4 => ?_, fun e4 => ⟨by walk_at "no", fun _ => ⟨rfl, st0, hst0, rfl⟩⟩⟩
    walk_at "w"
    refine ⟨fun e5 => ⟨rfl, x, by omega, rfl⟩, fun e5 => ⟨rfl, st0, hst0, rfl⟩⟩
   rintro σ' G2 ⟨rfl, st, hst, rfl⟩
   have hput : ∀ {G5 : Hp} {t : Addr} {sg : List Int}, Same G2 G5 → TupAt K G5 t (.put x sg) → sg ≠ [] → sg.length ≤ 9 → x + sg.length ≤ new → (∀ z ∈ sg, (z.natAbs : Int) < 10 ^ 60 ∧ z < 0) → sg.length = (y - x).toNat → ∀ G6, upd G5 rl (.lst (ts.map V.ref ++ [.ref t])) = G6 →
     Same H G6 ∧ G6 cl = some (.lst (cs.map V.int)) ∧ G6 rl = some (.lst ((ts ++ [t]).map V.ref)) ∧ Paired (TupAt K G6) (ts ++ [t]) (rs ++ [.put x sg]) ∧ (∀ r ∈ rs ++ [.put x sg], r.ok ∧ Sm r ∧ FitO old new r) ∧ Tl old (rs ++ [.put x sg]) y := fun {G5 t sg} sC hT hne hl9 hft hss hsl2 G6 hU => by
    have hrl5 := sC.at erl'
    refine ⟨Same.wr (sG.trans sC) hrl0 hU, by rw [← hU, upd_ne ncr]; exact sC.at ecl', by rw [← hU, upd_same, List.map_append]; rfl, paired_snoc (L2.Paired.imp' (fun _ _ (z : TupAt K G2 _ _) => by rw [← hU]; exact (z.same sC).off hrl5) hts) (by rw [← hU]; exact hT.off hrl5), fun r hr => ?_, ?_⟩
    rotate_left
    ·have := Tl.snoc (n := y - x) hTl (r := .put x sg) ⟨⟨c1, hne, by omega, fun z hz => (hss z hz).1⟩, fun z hz => (hss z hz).2, trivial⟩ rfl (by show ((sg.length : Nat) : Int) = y - x; omega)
     rw [show x + (y - x) = y by omega] at this
     exact this
    rcases List.mem_append.mp hr with z | z
    ·exact hrs r z
    ·rw [List.mem_singleton.mp z]
     exact ⟨⟨c1, hne, by omega, fun z hz => (hss z hz).1⟩, ⟨by show x ≤ 100; omega, hl9⟩, hft⟩
   have htake : 0 ≤ st → st + (y - x) ≤ old → ∀ {G5 : Hp} {t : Addr}, Same G2 G5 → TupAt K G5 t (.take x st (y - x)) → ∀ G6, upd G5 rl (.lst (ts.map V.ref ++ [.ref t])) = G6 →
     Same H G6 ∧ G6 cl = some (.lst (cs.map V.int)) ∧ G6 rl = some (.lst ((ts ++ [t]).map V.ref)) ∧ Paired (TupAt K G6) (ts ++ [t]) (rs ++ [.take x st (y - x)]) ∧ (∀ r ∈ rs ++ [.take x st (y - x)], r.ok ∧ Sm r ∧ FitO old new r) ∧ Tl old (rs ++ [.take x st (y - x)]) y := fun h1 h2 {G5 t} sC hT G6 hU => by
    have hrl5 := sC.at erl'
    refine ⟨Same.wr (sG.trans sC) hrl0 hU, by rw [← hU, upd_ne ncr]; exact sC.at ecl', by rw [← hU, upd_same, List.map_append]; rfl, paired_snoc (L2.Paired.imp' (fun _ _ (z : TupAt K G2 _ _) => by rw [← hU]; exact (z.same sC).off hrl5) hts) (by rw [← hU]; exact hT.off hrl5), fun r hr => ?_, ?_⟩
    rotate_left
    ·have := Tl.snoc (n := y - x) hTl (r := .take x st (y - x)) ⟨⟨c1, h1, by omega⟩, trivial, h2⟩ rfl (by show (((y - x).toNat : Nat) : Int) = y - x; omega)
     rw [show x + (y - x) = y by omega] at this
     exact this
    rcases List.mem_append.mp hr with z | z
    ·exact hrs r z
    ·rw [List.mem_singleton.mp z]
     exact ⟨⟨c1, h1, by omega⟩, ⟨by show x ≤ 100; omega, by show st ≤ 100; omega, by show y - x ≤ 9; omega⟩, by show st + (y - x) ≤ old; omega, by show x + (y - x) ≤ new; omega⟩
   walk_at "w"
   walk_at "ss"
   refine ⟨fun e4 => ?_, fun e4 => ?_⟩
   ·walk_at "w"
    refine ⟨fun e5 => ?_, fun e5 => ?_⟩
    ·have h5 : 0 ≤ st := of_decide_eq_true e5
     walk_at "w"
     refine ⟨fun e6 => ?_, fun e6 => ?_⟩
     ·have h6 : st + (y - x) ≤ old := of_decide_eq_true e6
      walk_at "w"
      refine ⟨.inl ⟨rfl, _, SqL.of erl'⟩, ?_⟩
      walk_at "w"
      walk_at "ss"
      intro t ht
      generalize hUt : upd G2 t _ = G3
      have sG3 := Same.of_eq ht hUt
      have et := at_of_eq hUt
      clear hUt
      walk_at "w"
      refine ⟨rl, _, _, rfl, rfl, sG3.at erl', by rw [List.length_map, sizeLine_eq]; omega, ?_⟩
      generalize hU : upd G3 rl _ = G4
      obtain ⟨k1, k2, k3, k4, k5, k6⟩ := htake h5 h6 sG3 et G4 hU
      exact ⟨k1, k2, ts ++ [t], _, _, _, _, _, _, rfl, k3, k4, k5, by simp [htl], y, hy, k6⟩
     ·walk_at "w"
      refine ⟨.inl ⟨rfl, _, SqL.of erl'⟩, ?_⟩
      walk_at "w"
      walk_at "ss"
      have er : rngN 0 (y - x) 1 = (y - x).toNat := by rw [rngN_one]; congr 1; omega
      rw [er]
      refine comp_itsP (fun i acc _ => ∃ sg : List Int, acc = sg.map V.int ∧ sg.length = i ∧ ∀ x ∈ sg, (x.natAbs : Int) < 10 ^ 60 ∧ x < 0) (by rw [sizeLine_eq]; omega) ⟨[], rfl, rfl, by simp⟩ (fun i acc H3 H3' hi s3 s3' hP R hR => ?_) (fun D acc H3 H3' hD hD3 s3 s3' hP hl hv => ?_)
      ·obtain ⟨sg, rfl, hsl, hss⟩ := hP
       walk_at "w"
       walk_at "ss"
       refine hR _ _ (Same.refl _) fun H6 _ _ => ⟨sg ++ [-1 - x - (0 + (i : Int) * 1) - draw % 10 ^ (6 : Int).toNat * 1000], by simp, by simp [hsl], fun z hz => ?_⟩
       rcases List.mem_append.mp hz with z1 | z1
       ·exact hss z z1
       ·rw [List.mem_singleton.mp z1]
        have d0 := Int.emod_nonneg draw (show (10 ^ (6 : Int).toNat : Int) ≠ 0 by decide)
        have d1 := Int.emod_lt_of_pos draw (show (0 : Int) < 10 ^ (6 : Int).toNat by decide)
        generalize draw % 10 ^ (6 : Int).toNat = dd at d0 d1
        have d2 : (10 ^ (6 : Int).toNat : Int) = 1000000 := by decide
        have d3 : (100000000000 : Int) < 10 ^ 60 := by decide
        omega
      ·obtain ⟨sg, rfl, hsl, hss⟩ := hP
       rw [List.length_map] at hl
       have sB : Same G2 H3' := s3.trans s3'
       walk_at "w"
       refine ⟨D, _, rfl, .inl ⟨SqL.of hv, ?_⟩⟩
       intro u hu
       generalize hUu : upd H3' u _ = H4
       have sH4 := Same.of_eq hu hUu
       have eu := at_of_eq hUu
       clear hUu
       walk_at "w"
       walk_at "ss"
       intro t ht
       generalize hUt : upd H4 t _ = H5
       have sH5 := Same.of_eq ht hUt
       have et := at_of_eq hUt
       clear hUt
       walk_at "w"
       have sC : Same G2 H5 := sB.trans (sH4.trans sH5)
       refine ⟨rl, _, _, rfl, rfl, sC.at erl', by rw [List.length_map, sizeLine_eq]; omega, ?_⟩
       generalize hU : upd H5 rl _ = H6
       obtain ⟨k1, k2, k3, k4, k5, k6⟩ := hput (sg := sg) sC ⟨u, et, sH5.at eu⟩ (fun z => by rw [z] at hl; simp at hl; omega) (by omega) (by omega) hss (by omega) H6 hU
       exact ⟨k1, k2, ts ++ [t], _, _, _, _, _, _, rfl, k3, k4, k5, by simp [htl], y, hy, k6⟩
    ·refine ⟨by walk_at "no", fun _ => ?_⟩
     walk_at "w"
     refine ⟨.inl ⟨rfl, _, SqL.of erl'⟩, ?_⟩
     walk_at "w"
     walk_at "ss"
     have er : rngN 0 (y - x) 1 = (y - x).toNat := by rw [rngN_one]; congr 1; omega
     rw [er]
     refine comp_itsP (fun i acc _ => ∃ sg : List Int, acc = sg.map V.int ∧ sg.length = i ∧ ∀ x ∈ sg, (x.natAbs : Int) < 10 ^ 60 ∧ x < 0) (by rw [sizeLine_eq]; omega) ⟨[], rfl, rfl, by simp⟩ (fun i acc H3 H3' hi s3 s3' hP R hR => ?_) (fun D acc H3 H3' hD hD3 s3 s3' hP hl hv => ?_)
     ·obtain ⟨sg, rfl, hsl, hss⟩ := hP
      walk_at "w"
      walk_at "ss"
      refine hR _ _ (Same.refl _) fun H6 _ _ => ⟨sg ++ [-1 - x - (0 + (i : Int) * 1) - draw % 10 ^ (6 : Int).toNat * 1000], by simp, by simp [hsl], fun z hz => ?_⟩
      rcases List.mem_append.mp hz with z1 | z1
      ·exact hss z z1
      ·rw [List.mem_singleton.mp z1]
       have d0 := Int.emod_nonneg draw (show (10 ^ (6 : Int).toNat : Int) ≠ 0 by decide)
       have d1 := Int.emod_lt_of_pos draw (show (0 : Int) < 10 ^ (6 : Int).toNat by decide)
       generalize draw % 10 ^ (6 : Int).toNat = dd at d0 d1
       have d2 : (10 ^ (6 : Int).toNat : Int) = 1000000 := by decide
       have d3 : (100000000000 : Int) < 10 ^ 60 := by decide
       omega
     ·obtain ⟨sg, rfl, hsl, hss⟩ := hP
      rw [List.length_map] at hl
      have sB : Same G2 H3' := s3.trans s3'
      walk_at "w"
      refine ⟨D, _, rfl, .inl ⟨SqL.of hv, ?_⟩⟩
      intro u hu
      generalize hUu : upd H3' u _ = H4
      have sH4 := Same.of_eq hu hUu
      have eu := at_of_eq hUu
      clear hUu
      walk_at "w"
      walk_at "ss"
      intro t ht
      generalize hUt : upd H4 t _ = H5
      have sH5 := Same.of_eq ht hUt
      have et := at_of_eq hUt
      clear hUt
      walk_at "w"
      have sC : Same G2 H5 := sB.trans (sH4.trans sH5)
      refine ⟨rl, _, _, rfl, rfl, sC.at erl', by rw [List.length_map, sizeLine_eq]; omega, ?_⟩
      generalize hU : upd H5 rl _ = H6
      obtain ⟨k1, k2, k3, k4, k5, k6⟩ := hput (sg := sg) sC ⟨u, et, sH5.at eu⟩ (fun z => by rw [z] at hl; simp at hl; omega) (by omega) (by omega) hss (by omega) H6 hU
      exact ⟨k1, k2, ts ++ [t], _, _, _, _, _, _, rfl, k3, k4, k5, by simp [htl], y, hy, k6⟩
   ·refine ⟨by walk_at "no", fun _ => ?_⟩
    walk_at "w"
    refine ⟨.inl ⟨rfl, _, SqL.of erl'⟩, ?_⟩
    walk_at "w"
    walk_at "ss"
    have er : rngN 0 (y - x) 1 = (y - x).toNat := by rw [rngN_one]; congr 1; omega
    rw [er]
    refine comp_itsP (fun i acc _ => ∃ sg : List Int, acc = sg.map V.int ∧ sg.length = i ∧ ∀ x ∈ sg, (x.natAbs : Int) < 10 ^ 60 ∧ x < 0) (by rw [sizeLine_eq]; omega) ⟨[], rfl, rfl, by simp⟩ (fun i acc H3 H3' hi s3 s3' hP R hR => ?_) (fun D acc H3 H3' hD hD3 s3 s3' hP hl hv => ?_)
    ·obtain ⟨sg, rfl, hsl, hss⟩ := hP
     walk_at "w"
     walk_at "ss"
     refine hR _ _ (Same.refl _) fun H6 _ _ => ⟨sg ++ [-1 - x - (0 + (i : Int) * 1) - draw % 10 ^ (6 : Int).toNat * 1000], by simp, by simp [hsl], fun z hz => ?_⟩
     rcases List.mem_append.mp hz with z1 | z1
     ·exact hss z z1
     ·rw [List.mem_singleton.mp z1]
      have d0 := Int.emod_nonneg draw (show (10 ^ (6 : Int).toNat : Int) ≠ 0 by decide)
      have d1 := Int.emod_lt_of_pos draw (show (0 : Int) < 10 ^ (6 : Int).toNat by decide)
      generalize draw % 10 ^ (6 : Int).toNat = dd at d0 d1
      have d2 : (10 ^ (6 : Int).toNat : Int) = 1000000 := by decide
      have d3 : (100000000000 : Int) < 10 ^ 60 := by decide
      omega
    ·obtain ⟨sg, rfl, hsl, hss⟩ := hP
     rw [List.length_map] at hl
     have sB : Same G2 H3' := s3.trans s3'
     walk_at "w"
     refine ⟨D, _, rfl, .inl ⟨SqL.of hv, ?_⟩⟩
     intro u hu
     generalize hUu : upd H3' u _ = H4
     have sH4 := Same.of_eq hu hUu
     have eu := at_of_eq hUu
     clear hUu
     walk_at "w"
     walk_at "ss"
     intro t ht
     generalize hUt : upd H4 t _ = H5
     have sH5 := Same.of_eq ht hUt
     have et := at_of_eq hUt
     clear hUt
     walk_at "w"
     have sC : Same G2 H5 := sB.trans (sH4.trans sH5)
     refine ⟨rl, _, _, rfl, rfl, sC.at erl', by rw [List.length_map, sizeLine_eq]; omega, ?_⟩
     generalize hU : upd H5 rl _ = H6
     obtain ⟨k1, k2, k3, k4, k5, k6⟩ := hput (sg := sg) sC ⟨u, et, sH5.at eu⟩ (fun z => by rw [z] at hl; simp at hl; omega) (by omega) (by omega) hss (by omega) H6 hU
     exact ⟨k1, k2, ts ++ [t], _, _, _, _, _, _, rfl, k3, k4, k5, by simp [htl], y, hy, k6⟩
  ·obtain ⟨sG, ecl', ts, rs, x6, x7, x8, x9, x10, rfl, erl', hts, hrs, htl, y, hy, hTl⟩ := hP
   rw [hzn] at hy; cases hy
   exact q rl ts rs G sG erl' hts hrs (by omega) hTl
noncomputable def isTk (H : Hp) (v : V) : Bool := @decide (∃ (t : Addr) (to st c : Int), v = .ref t ∧ H t = some (.tup [.str "take", .int to, .int st, .int c])) (Classical.propDecidable _)
theorem isTk_take {H : Hp} {t : Addr} {to st c : Int} (h : H t = some (.tup [.str "take", .int to, .int st, .int c])) : isTk H (.ref t) = true := by
 unfold isTk; exact @decide_eq_true _ (Classical.propDecidable _) ⟨t, to, st, c, rfl, h⟩
theorem isTk_put {H : Hp} {t u : Addr} {to : Int} (h : H t = some (.tup [.str "put", .int to, .ref u])) : isTk H (.ref t) = false := by
 unfold isTk
 refine @decide_eq_false _ (Classical.propDecidable _) ?_
 rintro ⟨t', to', st, c, e, h'⟩
 cases e
 rw [h] at h'
 cases h'
theorem isTk_get {H : Hp} {t : Addr} (h : isTk H (.ref t) = true) : ∃ to st c : Int, H t = some (.tup [.str "take", .int to, .int st, .int c]) := by
 unfold isTk at h
 obtain ⟨t', to, st, c, e, h'⟩ := @of_decide_eq_true _ (Classical.propDecidable _) h
 cases e
 exact ⟨to, st, c, h'⟩
theorem Paired.nth {α β : Type} {F : α → β → Prop} : ∀ {l₁ : List α} {l₂ : List β} {i : Nat} {x : α}, Paired F l₁ l₂ → l₁[i]? = some x → ∃ y, l₂[i]? = some y ∧ F x y
 | _, _, _, _, .nil, e => by simp at e
 | _, _, 0, _, .cons r _, e => by simp at e; subst e; exact ⟨_, rfl, r⟩
 | _, _, i + 1, _, .cons _ t, e => by
  obtain ⟨y, h1, h2⟩ := Paired.nth (i := i) t (by simpa using e)
  exact ⟨y, by simpa using h1, h2⟩
theorem Paired.mem {α β : Type} {F : α → β → Prop} {l₁ : List α} {l₂ : List β} {x : α} (h : Paired F l₁ l₂) (hx : x ∈ l₁) : ∃ y ∈ l₂, F x y := by
 obtain ⟨i, hi⟩ := List.mem_iff_getElem?.mp hx
 obtain ⟨y, h1, h2⟩ := Paired.nth h hi
 exact ⟨y, List.mem_of_getElem? h1, h2⟩
def sp_ordered (K : W.Frag) : Sp := fun vs H Q _ => ∃ (l : Addr) (cell : Int) (ts : List Addr) (rs : List RowD), vs = [.ref l, .int cell] ∧ H l = some (.lst (ts.map V.ref)) ∧ Paired (TupAt K H) ts rs ∧ ts.length ≤ 29 ∧
 ∀ (l' : Addr) (us : List Addr) (H' : Hp), Same H H' → H' l' = some (.lst (us.map V.ref)) → us.Perm ts → Q (.ref l') H'
theorem ok_ordered (T : Txt K mg a) : FnOk P w K mg base CX0 2 a.f_ordered a.d_ordered ["_law_rows", "_law_cell"] (sp_ordered K) := by
 refine T.F_ordered.ok sc_ordered (fun vs H Q E h => ?_) (fun cdv A outer s H vs Q E hr h => ?_)
 ·obtain ⟨l, cell, ts, rs, rfl, _⟩ := h; rfl
 ·obtain ⟨l, cell, ts, rs, rfl, hl, hp, htl, q⟩ := h
  have nd := sc_ordered.nd
  refine ⟨_, (pss_cons (ps_setComp (i := 2) (blk_mk (cap := []) (ys := []) rfl rfl rfl rfl rfl trivial (by decide +kernel)) rfl nd rfl rfl (pi_list (cv 0)) (fun _ _ _ _ => (cv 0)) (fun _ _ _ _ => (cts_one (ct_cmp o_eqS (pe_ix (ix_tupK (K := K) rfl) (cv 0) pe_int (fun _ _ => rfl)) pe_str))))
  (pss_cons (ps_setComp (i := 3) (blk_mk (cap := []) (ys := []) rfl rfl rfl rfl rfl trivial (by decide +kernel)) rfl nd rfl rfl (pi_list (cv 0)) (fun _ _ _ _ => (cv 0)) (fun _ _ _ _ => (cts_one (ct_cmp o_eqS (pe_ix (ix_tupK (K := K) rfl) (cv 0) pe_int (fun _ _ => rfl)) pe_str))))
  (pss_cons (ps_set (i := 4) nd rfl (Or.inl rfl) (pe_op o_mod (pe_call (ok_mixed T) (hr.mono (by decide)) (by rfl) T.m_mixed T.F_mixed.kp T.b_mixed .nil pass0 (pa_cons (cv 1) (pa_cons pe_int pa_nil))) pe_int))
  (pss_cons (cs_cut (cs_if (PW.pt (cw_and (ct_cmp o_gt (pe_callB call_len_seq (by rfl) T.n_len bt_len (pa_cons (cv 2) pa_nil)) pe_int) (pw_and1 (ct_cmp o_gt (pe_ix ix_tup (pe_ix ix_list (cv 2) pe_int (fun _ _ => rfl)) pe_int (fun _ _ => rfl)) (pe_ix ix_tup (pe_ix ix_list (cv 2) pe_int (fun _ _ => rfl)) pe_int (fun _ _ => rfl)))))) (pss_one (ps_set (i := 2) nd rfl (Or.inl rfl) (pe_revS (cv 2) (po_some (pe_un o_neg pe_int))))) pss_nil))
  (pss_cons (cs_cut (cs_if (ct_cmp o_eqI (cv 4) pe_int) (pss_one (ps_set (i := 2) nd rfl (Or.inl rfl) (pe_revS (cv 2) (po_some (pe_un o_neg pe_int))))) pss_nil))
  (pss_cons (cs_if (ct_cmp o_eqI (cv 4) pe_int) (pss_one (ps_ret (pe_op op_cat (cv 3) (cv 2)))) pss_nil)
  (pss_cons (cs_if (ct_cmp o_eqI (cv 4) pe_int) (pss_cons (ps_set (i := 5) nd rfl (Or.inl rfl) (pe_callB call_sortedP (by rfl) T.n_sorted bt_sorted (pa_cons (pe_comp (blk_mk (cap := [1]) (ys := ["_law_cell"]) rfl rfl rfl rfl rfl ⟨⟨rfl, rfl, .inl rfl⟩, trivial⟩ (by decide +kernel)) rfl (ci_range1 (by rfl) T.n_range (pa_cons (pe_callB call_len_seq (by rfl) T.n_len bt_len (pa_cons (cv 0) pa_nil)) pa_nil)) (fun _ _ _ _ => (pe_tup (pa_cons (pe_call (ok_mixed T) (hr.mono (by decide)) (by rfl) T.m_mixed T.F_mixed.kp T.b_mixed .nil pass0 (pa_cons (cv 1) (pa_cons (pe_op o_add pe_int (cv 0)) pa_nil))) (pa_cons (cv 0) pa_nil)))) (fun _ _ _ _ => cts_nil)) pa_nil)))
  (pss_one (ps_ret (pe_comp2 (blk2_mk (cap := [0]) (ys := ["_law_rows"]) rfl rfl rfl rfl rfl rfl ⟨⟨rfl, rfl, .inl rfl⟩, trivial⟩ (by decide +kernel)) rfl (pi_list (cv 5)) (fun _ _ _ _ => (pe_ix (ix_listK (K := K) rfl) (cv 2) (cv 1) (fun _ _ => rfl))) (fun _ _ _ _ => cts_nil))))) pss_nil)
  (pss_one (ps_ret (pe_op op_cat (cv 2) (cv 3))))))))))), ?_⟩
  have hsz : (ts.map V.ref).length < sizeLine := by rw [List.length_map, sizeLine_eq]; omega
  have word : ∀ {v : V} {G : Hp}, v ∈ ts.map V.ref → Same H G → ∃ t, v = .ref t ∧ ((∃ to st c : Int, G t = some (.tup [.str "take", .int to, .int st, .int c]) ∧ isTk H v = true) ∨ ∃ (to : Int) (u : Addr), G t = some (.tup [.str "put", .int to, .ref u]) ∧ isTk H v = false) := fun {v G} hv sG => by
   obtain ⟨t, ht, rfl⟩ := List.mem_map.mp hv
   obtain ⟨r, _, hT⟩ := Paired.mem hp ht
   refine ⟨t, rfl, ?_⟩
   cases r with
   | take to st c => exact .inl ⟨to, st, c, sG.at hT, isTk_take hT⟩
   | put to sg => obtain ⟨u, h1, h2⟩ := hT; exact .inr ⟨to, u, sG.at h1, isTk_put h1⟩
  walk_at "w"
  refine ⟨l, rfl, ⟨_, SqL.of hl⟩, ?_⟩
  refine comp_listF (fun v => isTk H v) id (SqL.of hl) hsz (fun v G5 hv s5 R hR => ?_) (fun v G5 hv _ s5 R hR => ?_) (fun D5 G5 hD5 s5 e5 => ?_)
  ·obtain ⟨t, rfl, ⟨to, st, c, h1, h2⟩ | ⟨to, u, h1, h2⟩⟩ := word hv s5
   ·walk_at "w"
    refine ⟨t, _, _, .str "take", rfl, rfl, SqT.of h1, rfl, ?_⟩
    have := hR G5 (Same.refl _)
    rw [h2] at this
    exact this
   ·walk_at "w"
    refine ⟨t, _, _, .str "put", rfl, rfl, SqT.of h1, rfl, ?_⟩
    have := hR G5 (Same.refl _)
    rw [h2] at this
    exact this
  ·exact hR _ (Same.refl _)
  have e5 : G5 D5 = some (.lst ((ts.filter fun t => isTk H (.ref t)).map V.ref)) := by rw [e5, List.map_id, List.filter_map]; rfl
  obtain ⟨tk, htk⟩ : ∃ tk, tk = ts.filter fun t => isTk H (.ref t) := ⟨_, rfl⟩
  rw [← htk] at e5
  have tk1 : ∀ u ∈ tk, u ∈ ts ∧ isTk H (.ref u) = true := fun u hu => by rw [htk] at hu; exact List.mem_filter.mp hu
  have tk2 : tk.length ≤ 29 := by rw [htk]; exact Nat.le_trans (List.length_filter_le _ _) htl
  walk_at "w"
  refine ⟨l, rfl, ⟨_, SqL.of (s5.at hl)⟩, ?_⟩
  refine comp_listF (fun v => !isTk H v) id (SqL.of (s5.at hl)) hsz (fun v G6 hv s6 R hR => ?_) (fun v G6 hv _ s6 R hR => ?_) (fun D6 G6 hD6 s6 e6 => ?_)
  ·obtain ⟨t, rfl, ⟨to, st, c, h1, h2⟩ | ⟨to, u, h1, h2⟩⟩ := word hv (s5.trans s6)
   ·walk_at "w"
    refine ⟨t, _, _, .str "take", rfl, rfl, SqT.of h1, rfl, ?_⟩
    have := hR G6 (Same.refl _)
    rw [h2] at this
    exact this
   ·walk_at "w"
    refine ⟨t, _, _, .str "put", rfl, rfl, SqT.of h1, rfl, ?_⟩
    have := hR G6 (Same.refl _)
    rw [h2] at this
    exact this
  ·exact hR _ (Same.refl _)
  have e6 : G6 D6 = some (.lst ((ts.filter fun t => !isTk H (.ref t)).map V.ref)) := by rw [e6, List.map_id, List.filter_map]; rfl
  obtain ⟨pu, hpu⟩ : ∃ pu, pu = ts.filter fun t => !isTk H (.ref t) := ⟨_, rfl⟩
  rw [← hpu] at e6
  have pu1 : ∀ u ∈ pu, u ∈ ts := fun u hu => by rw [hpu] at hu; exact (List.mem_filter.mp hu).1
  have pu2 : pu.length ≤ 29 := by rw [hpu]; exact Nat.le_trans (List.length_filter_le _ _) htl
  have hpt : (tk ++ pu).Perm ts := by rw [htk, hpu]; exact List.filter_append_perm _ ts
  clear hpu htk pu1
  have sA : Same H G6 := s5.trans s6
  have e5 := s6.at e5
  walk_at "w"
  refine ⟨_, _, rfl, ?_⟩
  walk_at "w"
  walk_at "ss"
  generalize mixed cell 112 = mx
  have hrest : True := trivial
  refine ⟨fun σ' G' => Same G6 G' ∧ ∃ (lt : Addr) (tk' : List Addr), σ' = [some (.ref l), some (.int cell), some (.ref lt), some (.ref D6), some (.int (mx % 8)), none] ∧ G' lt = some (.lst (tk'.map V.ref)) ∧ tk'.Perm tk, ?_, ?_⟩
  ·walk_at "w"
   refine ⟨D5, _, rfl, .inl (SqL.of e5), ?_⟩
   walk_at "w"
   refine ⟨fun e1 => ?_, fun e1 => ⟨by walk_at "no", fun _ => ⟨Same.refl _, D5, tk, rfl, e5, .refl _⟩⟩⟩
   have h1 : 0 < tk.length := by have := of_decide_eq_true e1; rw [List.length_map] at this; omega
   have hx0 : tk[0]? = some tk[0] := List.getElem?_eq_getElem h1
   obtain ⟨to, st, c, hH⟩ := isTk_get (tk1 _ (List.mem_of_getElem? hx0)).2
   have a0 : atI (tk.map V.ref) 0 = some (.ref tk[0]) := atI_nat (j := 0) (by rw [List.getElem?_map, hx0]; rfl)
   have hG := sA.at hH
   walk_at "w"
   refine ⟨D5, _, _, _, rfl, rfl, SqL.of e5, a0, ?_⟩
   walk_at "w"
   refine ⟨_, _, _, .int to, rfl, rfl, SqT.of hG, rfl, ?_⟩
   walk_at "w"
   refine ⟨D5, _, _, _, rfl, rfl, SqL.of e5, a0, ?_⟩
   walk_at "w"
   refine ⟨_, _, _, .int st, rfl, rfl, SqT.of hG, rfl, ?_⟩
   walk_at "w"
   refine ⟨fun e2 => ?_, fun e2 => ⟨Same.refl _, D5, tk, rfl, e5, .refl _⟩⟩
   walk_at "w"
   refine ⟨_, rfl, ?_⟩
   walk_at "w"
   refine ⟨D5, _, rfl, rfl, SqL.of e5, ?_⟩
   intro lt hlt
   generalize hUlt : upd G6 lt _ = G7
   have sG7 := Same.of_eq hlt hUlt
   have elt := at_of_eq hUlt
   clear hUlt
   walk_at "w"
   exact ⟨sG7, lt, tk.reverse, rfl, by rw [elt, ← List.map_reverse], List.reverse_perm _⟩
  rintro σ' G7 ⟨s7, lt, tk', rfl, elt, tk1'⟩
  clear e5 tk1
  walk_at "w"
  refine ⟨fun σ' G' => Same G7 G' ∧ ∃ (lt : Addr) (tk' : List Addr), σ' = [some (.ref l), some (.int cell), some (.ref lt), some (.ref D6), some (.int (mx % 8)), none] ∧ G' lt = some (.lst (tk'.map V.ref)) ∧ tk'.Perm tk, ?_, ?_⟩
  ·walk_at "w"
   refine ⟨fun e2 => ?_, fun e2 => ⟨Same.refl _, lt, tk', rfl, elt, tk1'⟩⟩
   walk_at "w"
   refine ⟨_, rfl, ?_⟩
   walk_at "w"
   refine ⟨lt, _, rfl, rfl, SqL.of elt, ?_⟩
   intro lt2 hlt2
   generalize hUlt2 : upd G7 lt2 _ = G8
   have sG8 := Same.of_eq hlt2 hUlt2
   have elt2 := at_of_eq hUlt2
   clear hUlt2
   walk_at "w"
   exact ⟨sG8, lt2, tk'.reverse, rfl, by rw [elt2, ← List.map_reverse], (List.reverse_perm _).trans tk1'⟩
  clear elt tk1' lt tk'
  rintro σ' G8 ⟨s8, lt, tk', rfl, elt, tk1'⟩
  have tk2' : tk'.length ≤ 29 := by rw [tk1'.length_eq]; exact tk2
  have sB : Same H G8 := sA.trans (s7.trans s8)
  have e6 := (s7.trans s8).at e6
  walk_at "w"
  refine ⟨fun e2 => ?_, fun e2 => ?_⟩
  ·walk_at "w"
   refine ⟨D6, lt, _, _, rfl, rfl, e6, elt, by rw [List.length_map, List.length_map, sizeLine_eq]; omega, ?_⟩
   intro z hz
   generalize hUz : upd G8 z _ = G9
   have sG9 := Same.of_eq hz hUz
   have ez := at_of_eq hUz
   clear hUz
   walk_at "w"
   exact q z (pu ++ tk') G9 (sB.trans sG9) (by rw [ez, List.map_append]) ((List.perm_append_comm.trans (tk1'.append_right pu)).trans hpt)
  walk_at "w"
  refine ⟨fun e3 => ?_, fun e3 => ?_⟩
  ·walk_at "w"
   refine ⟨l, _, rfl, .inl (SqL.of (sB.at hl)), ?_⟩
   walk_at "w"
   rw [List.length_map]
   have er : rngN 0 (ts.length : Int) 1 = ts.length := by rw [rngN_one]; omega
   rw [er]
   refine comp_itsP (fun i acc G => ∃ (us : List Addr) (ps : List (Int × Int)), acc = us.map V.ref ∧ Paired (PairAt G) us ps ∧ ps.length = i ∧ ∀ (k : Nat) (x : Int × Int), ps[k]? = some x → x.2 = k) (by rw [sizeLine_eq]; omega) ⟨[], [], rfl, .nil, rfl, fun k x h => by simp at h⟩ (fun i acc H3 H3' hi s3 s3' hP R hR => ?_) (fun D acc H9 H9' hD hD3 s9 s9' hP hl9 hv => ?_)
   ·obtain ⟨us, ps, rfl, hpr, hpl, hpk⟩ := hP
    walk_at "w"
    refine ⟨_, _, rfl, ?_⟩
    walk_at "w"
    walk_at "ss"
    intro t ht
    refine hR _ _ (Same.new ht) fun H6 sx kx => ⟨us ++ [t], ps ++ [(mixed cell (80 + (0 + (i : Int) * 1)), 0 + (i : Int) * 1)], by simp, paired_snoc (L2.Paired.imp' (fun _ _ (z : PairAt H3 _ _) => sx.at z) hpr) (kx t _ (.inl ht) upd_same), by simp [hpl], fun k x hk => ?_⟩
    by_cases e : k < ps.length
    ·rw [List.getElem?_append_left e] at hk; exact hpk k x hk
    ·rw [List.getElem?_append_right (by omega)] at hk
     have hk0 : k = i := by
      have := (List.getElem?_eq_some_iff.mp hk).1
      simp at this; omega
     rw [hk0, hpl, Nat.sub_self] at hk
     simp at hk
     rw [← hk, hk0]
   ·obtain ⟨us, ps, rfl, hpr, hpl, hpk⟩ := hP
    have hpr' := L2.Paired.imp' (fun _ _ (z : PairAt H9 _ _) => s9'.at z) hpr
    have hul : us.length = ps.length := hpr.length
    walk_at "w"
    refine ⟨D, us, ps, rfl, SqL.of hv, hpr', ?_, by omega, fun l2 us2 hperm hl2 => ?_⟩
    ·refine List.pairwise_iff_getElem.mpr fun i j hi hj hij e => ?_
     have h1 := hpk i _ (List.getElem?_eq_getElem hi)
     have h2 := hpk j _ (List.getElem?_eq_getElem hj)
     rw [e] at h1
     omega
    generalize hU : upd H9' l2 _ = G10
    have s10 := Same.of_eq hl2 hU
    have e10 := at_of_eq hU
    clear hU
    have sC : Same H G10 := sB.trans (s9.trans (s9'.trans s10))
    walk_at "w"
    refine ⟨l2, rfl, ⟨_, SqL.of e10⟩, ?_⟩
    obtain ⟨g, hgdef⟩ : ∃ g : Addr → Addr, g = fun T => match G10 T with | some (.tup [_, .int k]) => ts.getD k.toNat 0 | _ => 0 := ⟨_, rfl⟩
    have hg : ∀ T ∈ us2, ∃ (k : Nat) (m : Int) (hk : k < ts.length), G10 T = some (.tup [.int m, .int k]) ∧ g T = ts[k] := fun T hT => by
     obtain ⟨i, hi⟩ := List.mem_iff_getElem?.mp (hperm.mem_iff.mp hT)
     obtain ⟨x, hx, hP⟩ := Paired.nth hpr' hi
     have hk := hpk i x hx
     have hil := (List.getElem?_eq_some_iff.mp hx).1
     have hG : G10 T = some (.tup [.int x.1, .int (i : Nat)]) := by rw [← hk]; exact s10.at hP
     refine ⟨i, x.1, by omega, hG, ?_⟩
     rw [hgdef]
     show (match G10 T with | some (.tup [_, .int k]) => ts.getD k.toNat 0 | _ => 0) = _
     rw [hG]
     have hlt : i < ts.length := by omega
     simp [hlt]
    refine comp2_listM (fun v => match v with | .ref T => .ref (g T) | v => v) (SqL.of e10) (by rw [List.length_map, hperm.length_eq, sizeLine_eq]; omega) (fun x hx => ?_) (fun D2 G11 hD2 s11 e11 => ?_)
    ·obtain ⟨T', hT, rfl⟩ := List.mem_map.mp hx
     obtain ⟨k, m, hk, hG, hgT⟩ := hg T' hT
     refine ⟨T', _, _, rfl, SqT.of hG, fun H3 s3 R hR => ?_⟩
     walk_at "w"
     refine ⟨l, _, _, .ref ts[k], rfl, rfl, SqL.of ((sC.trans s3).at hl), atI_nat (by rw [List.getElem?_map, List.getElem?_eq_getElem hk]; rfl), ?_⟩
     have := hR H3 (Same.refl _)
     rw [← hgT]
     exact this
    ·refine q D2 (us2.map g) G11 (sC.trans s11) (by rw [e11, List.map_map, List.map_map]; rfl) (by
     have hug : us.map g = ts := by
      apply List.ext_getElem?
      intro i
      rw [List.getElem?_map]
      by_cases hi : i < us.length
      ·rw [List.getElem?_eq_getElem hi]
       obtain ⟨x, hx, hP⟩ := Paired.nth hpr' (List.getElem?_eq_getElem hi)
       have hk := hpk i x hx
       have hG : G10 us[i] = some (.tup [.int x.1, .int (i : Nat)]) := by rw [← hk]; exact s10.at hP
       have hlt : i < ts.length := by omega
       rw [hgdef]
       show some (match G10 us[i] with | some (.tup [_, .int k]) => ts.getD k.toNat 0 | _ => 0) = _
       rw [hG]
       simp [hlt]
      ·rw [List.getElem?_eq_none (by omega), List.getElem?_eq_none (by omega)]; rfl
     have := hperm.map g
     rw [hug] at this
     exact this)
  walk_at "w"
  refine ⟨lt, D6, _, _, rfl, rfl, elt, e6, by rw [List.length_map, List.length_map, sizeLine_eq]; omega, ?_⟩
  intro z hz
  generalize hUz : upd G8 z _ = G9
  have sG9 := Same.of_eq hz hUz
  have ez := at_of_eq hUz
  clear hUz
  walk_at "w"
  exact q z (tk' ++ pu) G9 (sB.trans sG9) (by rw [ez, List.map_append]) ((tk1'.append_right pu).trans hpt)
def GT (K : W.Frag) (H : Hp) (u : Addr) (r : RowD) : Prop := TupAt K H u r ∧ r.ok ∧ Sm r
def sp_paper (K : W.Frag) : Sp := fun vs H Q _ => ∃ (l : Addr) (ns : List Int), vs = [.ref l] ∧ SqL K H l (ns.map V.int) ∧
 ∀ (p tt : Addr) (us : List Addr) (rs : List RowD) (old new : Int) (H' : Hp), Same H H' → H' p = some (.tup [.int old, .int new, .ref tt]) → H' tt = some (.tup (us.map V.ref)) → Paired (GT K H') us rs → us.length ≤ 58 → (∀ r ∈ rs, FitO old new r) → (∃ rs0, rs.Perm rs0 ∧ Tl old rs0 new) → 0 ≤ old → old ≤ 29 → 0 ≤ new → new ≤ 29 → Q (.ref p) H'
theorem paired_perm {α β : Type} {F : α → β → Prop} {l₁ l₁' : List α} (h : l₁'.Perm l₁) : ∀ {l₂ : List β}, Paired F l₁ l₂ → ∃ l₂', Paired F l₁' l₂' ∧ l₂'.Perm l₂ := by
 induction h with
 | nil => intro l₂ hp; exact ⟨l₂, hp, .refl _⟩
 | cons x _ ih =>
  intro l₂ hp
  cases hp with
  | cons h t =>
   obtain ⟨l', h1, h2⟩ := ih t
   exact ⟨_ :: l', .cons h h1, h2.cons _⟩
 | swap x y l =>
  intro l₂ hp
  cases hp with
  | cons h t => cases t with
   | cons h' t' => exact ⟨_, .cons h' (.cons h t'), .swap _ _ _⟩
 | trans _ _ ih1 ih2 =>
  intro l₂ hp
  obtain ⟨m, h1, h2⟩ := ih2 hp
  obtain ⟨m', h3, h4⟩ := ih1 h1
  exact ⟨m', h3, h4.trans h2⟩
theorem paired_and {α β : Type} {F G : α → β → Prop} {p : β → Prop} (h : ∀ x y, F x y → p y → G x y) : ∀ {l₁ : List α} {l₂ : List β}, Paired F l₁ l₂ → (∀ y ∈ l₂, p y) → Paired G l₁ l₂
 | _, _, .nil, _ => .nil
 | _, _, .cons a t, k => .cons (h _ _ a (k _ List.mem_cons_self)) (paired_and h t fun y hy => k y (List.mem_cons_of_mem _ hy))
theorem Paired.mem2 {α β : Type} {F : α → β → Prop} : ∀ {l₁ : List α} {l₂ : List β} {y : β}, Paired F l₁ l₂ → y ∈ l₂ → ∃ x ∈ l₁, F x y
 | _, _, _, .cons h t, m => by
  rcases List.mem_cons.mp m with rfl | m
  ·exact ⟨_, List.mem_cons_self, h⟩
  ·obtain ⟨x, h1, h2⟩ := Paired.mem2 t m
   exact ⟨x, List.mem_cons_of_mem _ h1, h2⟩
theorem ok_paper (T : Txt K mg a) : FnOk P w K mg base CX0 4 a.f_paper a.d_paper ["_law_script"] (sp_paper K) := by
 refine T.F_paper.ok sc_paper (fun vs H Q E h => ?_) (fun cdv A outer s H vs Q E hr h => ?_)
 ·obtain ⟨l, ns, rfl, _⟩ := h; rfl
 ·obtain ⟨l, ns, rfl, hl, q⟩ := h
  have nd := sc_paper.nd
  refine ⟨_, (pss_cons (ps_set (i := 1) nd rfl (Or.inl rfl) (pe_op o_mod (pe_call (ok_cell_at T) (hr.mono (by decide)) (by rfl) T.m_cell_at T.F_cell_at.kp T.b_cell_at .nil pass0 (pa_cons (cv 0) (pa_cons pe_int pa_nil))) pe_int))
  (pss_cons (ps_set (i := 2) nd rfl (Or.inl rfl) (pe_op o_mod (pe_op o_fdiv (pe_call (ok_cell_at T) (hr.mono (by decide)) (by rfl) T.m_cell_at T.F_cell_at.kp T.b_cell_at .nil pass0 (pa_cons (cv 0) (pa_cons pe_int pa_nil))) pe_int) pe_int))
  (pss_cons (ps_set (i := 3) nd rfl (Or.inl rfl) (pe_call (ok_ordered T) (hr.mono (by decide)) (by rfl) T.m_ordered T.F_ordered.kp T.b_ordered .nil pass0 (pa_cons (pe_call (ok_tiles T) (hr.mono (by decide)) (by rfl) T.m_tiles T.F_tiles.kp T.b_tiles .nil pass0 (pa_cons (cv 1) (pa_cons (cv 2) (pa_cons (pe_call (ok_cell_at T) (hr.mono (by decide)) (by rfl) T.m_cell_at T.F_cell_at.kp T.b_cell_at .nil pass0 (pa_cons (cv 0) (pa_cons pe_int pa_nil))) pa_nil)))) (pa_cons (pe_call (ok_cell_at T) (hr.mono (by decide)) (by rfl) T.m_cell_at T.F_cell_at.kp T.b_cell_at .nil pass0 (pa_cons (cv 0) (pa_cons pe_int pa_nil))) pa_nil))))
  (pss_one (ps_ret (pe_tup (pa_cons (cv 1) (pa_cons (cv 2) (pa_cons (pe_callTy call_tuple_of (by rfl) T.n_tuple bt_tuple (pa_cons (cv 3) pa_nil)) pa_nil))))))))), ?_⟩
  walk_at "w"
  refine ⟨l, ns, 0, rfl, hl, by decide, ?_⟩
  walk_at "w"
  walk_at "ss"
  refine ⟨l, ns, 0, rfl, hl, by decide, ?_⟩
  walk_at "w"
  walk_at "ss"
  refine ⟨l, ns, 1, rfl, hl, by decide, ?_⟩
  walk_at "w"
  have b1 := Int.emod_nonneg (cellAt ns 0) (show (30 : Int) ≠ 0 by decide)
  have b2 := Int.emod_lt_of_pos (cellAt ns 0) (show (0 : Int) < 30 by decide)
  have b3 := Int.emod_nonneg (cellAt ns 0 / 30) (show (30 : Int) ≠ 0 by decide)
  have b4 := Int.emod_lt_of_pos (cellAt ns 0 / 30) (show (0 : Int) < 30 by decide)
  refine ⟨_, _, _, rfl, b1, by omega, b3, by omega, fun l1 ts rs H1 s1 e1 hpr hrs htl hTl => ?_⟩
  walk_at "w"
  refine ⟨l, ns, 1, rfl, s1.seq hl, by decide, ?_⟩
  walk_at "w"
  refine ⟨l1, _, ts, rs, rfl, e1, hpr, htl, fun l2 us H2 s2 e2 hus => ?_⟩
  walk_at "w"
  refine ⟨l2, _, rfl, .inl ⟨SqL.of e2, ?_⟩⟩
  intro tt htt
  generalize hUtt : upd H2 tt _ = H3
  have sH3 := Same.of_eq htt hUtt
  have ett := at_of_eq hUtt
  clear hUtt
  walk_at "w"
  walk_at "ss"
  intro p hp
  generalize hUp : upd H3 p _ = H4
  have sH4 := Same.of_eq hp hUp
  have ep := at_of_eq hUp
  clear hUp
  walk_at "w"
  have s14 : Same H1 H4 := s2.trans (sH3.trans sH4)
  obtain ⟨rs2, hp2, hpm⟩ := paired_perm hus hpr
  have hgt : ∀ r ∈ rs2, r.ok ∧ Sm r ∧ FitO (cellAt ns 0 % 30) (cellAt ns 0 / 30 % 30) r := fun r hr => hrs r (hpm.mem_iff.mp hr)
  exact q p tt us rs2 _ _ H4 (s1.trans s14) ep (sH4.at ett) (paired_and (p := fun r => r ∈ rs2) (fun _ _ (z : TupAt K H1 _ _) h => ⟨z.same s14, (hgt _ h).1, (hgt _ h).2.1⟩) hp2 (fun _ z => z)) (by rw [hus.length_eq]; omega) (fun r hr => (hgt r hr).2.2) ⟨rs, hpm, hTl⟩ b1 (by omega) b3 (by omega)
def piecesR : RowD → List (List Int)
 | .take to st c => piecesT to st c
 | .put to sg => [rngI to sg.length]
theorem piecesR_len {r : RowD} (hk : r.ok) (hs : Sm r) : (piecesR r).length ≤ 9 := by
 cases r with
 | take to st c =>
  obtain ⟨k1, k2, k3⟩ := hk
  obtain ⟨s1, s2, s3⟩ := hs
  show (piecesT to st c).length ≤ 9
  unfold piecesT
  split
  ·simp
  ·split
   ·have := chs_len (uch to (st - to).toNat) (st - to).toNat c.toNat (by omega); omega
   ·have := chs_len (dch (to + c) (to - st).toNat) (to - st).toNat c.toNat (by omega); omega
 | put to sg => show 1 ≤ 9; omega
def PieceAt (K : W.Frag) (H0 : Hp) (tl : Addr) (G : Hp) (u : Addr) (x : RowD × List Int) : Prop := ∃ t c : Addr, (c ≠ tl ∧ H0 c = none) ∧ G u = some (.tup [.ref t, .ref c]) ∧ TupAt K G t x.1 ∧ G c = some (.lst (x.2.map V.int))
theorem PieceAt.same {H0 : Hp} {tl : Addr} {G G' : Hp} {u : Addr} {x : RowD × List Int} (h : PieceAt K H0 tl G u x) (s : Same G G') : PieceAt K H0 tl G' u x := by
 obtain ⟨t, c, h1, h2, h3, h4⟩ := h; exact ⟨t, c, h1, s.at h2, h3.same s, s.at h4⟩
theorem PieceAt.off {H0 : Hp} {tl : Addr} {G : Hp} {u : Addr} {x : RowD × List Int} {xs : List V} {o : HO} (h : PieceAt K H0 tl G u x) (hp : G tl = some (.lst xs)) : PieceAt K H0 tl (upd G tl o) u x := by
 obtain ⟨t, c, h1, h2, h3, h4⟩ := h
 exact ⟨t, c, h1, by rw [upd_ne (fun z => by rw [z, hp] at h2; cases h2)]; exact h2, h3.off hp, by rw [upd_ne h1.1]; exact h4⟩
def dueL (rs : List RowD) : List (RowD × List Int) := rs.flatMap fun r => (piecesR r).map fun c => (r, c)
theorem paired_append {α β : Type} {F : α → β → Prop} : ∀ {l₁ l₃ : List α} {l₂ l₄ : List β}, Paired F l₁ l₂ → Paired F l₃ l₄ → Paired F (l₁ ++ l₃) (l₂ ++ l₄)
 | _, _, _, _, .nil, h => h
 | _, _, _, _, .cons r t, h => .cons r (paired_append t h)
def sp_pieces_of (K : W.Frag) : Sp := fun vs H Q _ => ∃ (p tt : Addr) (o n : V) (us : List Addr) (rs : List RowD), vs = [.ref p] ∧ H p = some (.tup [o, n, .ref tt]) ∧ H tt = some (.tup (us.map V.ref)) ∧ Paired (GT K H) us rs ∧ us.length ≤ 58 ∧
 ∀ (l : Addr) (ws : List Addr) (H' : Hp), Same H H' → H l = none → H' l = some (.lst (ws.map V.ref)) → Paired (PieceAt K H l H') ws (dueL rs) → Q (.ref l) H'
theorem GT.same {H H' : Hp} {u : Addr} {r : RowD} (h : GT K H u r) (s : Same H H') : GT K H' u r := ⟨h.1.same s, h.2⟩
theorem pairs_of {H0 : Hp} {tl : Addr} {L0 L G : Hp} {l t : Addr} {as : List Addr} {xss : List (List Int)} {r : RowD} (s0 : Same H0 L0) (hL : LLat L0 L l as xss) (sL : Same L G) (hT : TupAt K G t r) (htl : L0 tl ≠ none) : ∀ {ws : List Addr} {i : Nat}, Paired (fun w a => G w = some (.tup [.ref t, .ref a])) ws (as.drop i) → Paired (PieceAt K H0 tl G) ws ((xss.drop i).map fun c => (r, c))
 | ws, i, h => by
  have hlen := hL.len
  by_cases hi : i < as.length
  ·have e1 : as.drop i = as[i] :: as.drop (i + 1) := List.drop_eq_getElem_cons hi
   have hi2 : i < xss.length := by omega
   have e2 : xss.drop i = xss[i] :: xss.drop (i + 1) := List.drop_eq_getElem_cons hi2
   rw [e1] at h
   rw [e2, List.map_cons]
   cases h with
   | cons h1 h2 =>
    have hfr := hL.frs _ (List.getElem_mem hi)
    refine .cons ⟨t, as[i], ⟨fun z => htl (by rw [← z]; exact hfr), s0.back hfr⟩, h1, hT, sL.at (hL.each i _ _ (List.getElem?_eq_getElem hi) (List.getElem?_eq_getElem hi2))⟩ (pairs_of s0 hL sL hT htl h2)
  ·rw [List.drop_eq_nil_of_le (by omega)] at h
   rw [List.drop_eq_nil_of_le (by omega)]
   cases h
   exact .nil
 termination_by _ i => as.length - i
theorem callPieces (T : Txt K mg a) {H : Hp} {t : Addr} {r : RowD} {Q : VK} {σ : L2.St} {i : Nat} (hT : GT K H t r)
  (k : ∀ l as H1 H2, Same H H1 → Same H1 H2 → LLat H1 H2 l as (piecesR r) → Q (.ref l) H2) (hσ : σ[i]? = some (some (.ref t)) := by rfl) :
  tMeth a.C_Put "pieces" (sp_Ppieces a) [] E0 (tCall (sp_row_of K a) [] E0 (tCons (cVar i) tNil)) tNil σ H Q ∨ tMeth a.C_Take "pieces" (sp_Tpieces a) [] E0 (tCall (sp_row_of K a) [] E0 (tCons (cVar i) tNil)) tNil σ H Q := by
 obtain ⟨hT, hk, hs⟩ := hT
 have go : ∀ {R : VK}, sp_row_of K a [.ref t] H R E0 → tCall (sp_row_of K a) [] E0 (tCons (cVar i) tNil) σ H R := fun h => by
  unfold tCall tCons tNil cVar; rw [hσ]; exact h
 cases r with
 | put to sg =>
  left
  unfold tMeth
  refine go ⟨t, _, rfl, hT, hk, fun o H1 s1 ho hob => ?_⟩
  obtain ⟨dx, u, h1, h2⟩ := hob
  have h9 : sg.length ≤ 9 := hs.2
  refine ⟨o, dx, _, rfl, h1, rfl, ?_⟩
  show sp_Ppieces a [.ref o] H1 Q E0
  refine ⟨o, dx, u, to, sg.length, rfl, h1, by omega, fun l as H2 s2 L => k l as H1 H2 s1 s2 ?_⟩
  rw [show ((sg.length : Int)).toNat = sg.length by omega] at L
  exact L
 | take to st c =>
  right
  unfold tMeth
  refine go ⟨t, _, rfl, hT, hk, fun o H1 s1 ho hob => ?_⟩
  obtain ⟨dx, h1⟩ := hob
  obtain ⟨k1, k2, k3⟩ := hk
  obtain ⟨s1', s2', s3'⟩ := hs
  refine ⟨o, dx, _, rfl, h1, rfl, ?_⟩
  show sp_Tpieces a [.ref o] H1 Q E0
  have hb : (st - to).natAbs < 2 ^ 200 := Nat.lt_of_le_of_lt (show (st - to).natAbs ≤ 1000 by omega) (by decide)
  exact ⟨o, dx, to, st, c, rfl, h1, k3, by omega, hb, fun l as H2 s2 L => k l as H1 H2 s1 s2 L⟩
theorem ok_pieces_of (T : Txt K mg a) : FnOk P w K mg base CX0 6 a.f_pieces_of a.d_pieces_of ["paper"] (sp_pieces_of K) := by
 refine T.F_pieces_of.ok sc_pieces_of (fun vs H Q E h => ?_) (fun cdv A outer s H vs Q E hr h => ?_)
 ·obtain ⟨p, tt, o, n, us, rs, rfl, _⟩ := h; rfl
 ·obtain ⟨p, tt, o, n, us, rs, rfl, hp, ht, hus, hul, q⟩ := h
  have nd := sc_pieces_of.nd
  refine ⟨_, (pss_cons (ps_set (i := 1) nd rfl (Or.inl rfl) (pe_lst pa_nil))
  (pss_cons (cs_for PassesOwn.never rfl (pi_tup (pe_ix ix_tup (cv 0) pe_int (fun _ _ => rfl))) (pg_name (i := 2) nd rfl (Or.inr rfl)) (pss_one (ps_expr (pe_bm PySem.F.plainAttrs_list PySem.F.slot_list_extend PySem.F.type_list_extend mt_extend (cv 1) (pa_cons (pe_comp (blk_mk (cap := [2]) (ys := ["told"]) rfl rfl rfl rfl rfl ⟨⟨rfl, rfl, .inl rfl⟩, trivial⟩ (by decide +kernel)) rfl (pi_list (pe_alt (pe_meth0 (pe_call (ok_row_of T) (hr.mono (by decide)) (by rfl) T.m_row_of T.F_row_of.kp T.b_row_of .nil pass0 (pa_cons (cv 2) pa_nil)) T.c_Put T.me_Put_pieces (ok_Put_pieces T) (hr.mono (by decide)) T.b_Put_pieces .nil pass0) (pe_meth0 (pe_call (ok_row_of T) (hr.mono (by decide)) (by rfl) T.m_row_of T.F_row_of.kp T.b_row_of .nil pass0 (pa_cons (cv 2) pa_nil)) T.c_Take T.me_Take_pieces (ok_Take_pieces T) (hr.mono (by decide)) T.b_Take_pieces .nil pass0))) (fun _ _ _ _ => (pe_tup (pa_cons (cv 1) (pa_cons (cv 0) pa_nil)))) (fun _ _ _ _ => cts_nil)) pa_nil)))))
  (pss_one (ps_ret (cv 1))))), ?_⟩
  walk_at "w"
  walk_at "ss"
  intro pl hpl
  generalize hUpl : upd H pl _ = H1
  have sH1 := Same.of_eq hpl hUpl
  have epl := at_of_eq hUpl
  clear hUpl
  walk_at "w"
  refine ⟨p, _, _, .ref tt, rfl, rfl, SqT.of (sH1.at hp), rfl, ?_⟩
  walk_at "w"
  refine ⟨tt, rfl, ⟨_, SqT.of (sH1.at ht)⟩, ?_⟩
  walk_at "w"
  refine forAt_tup (xs := us.map V.ref) (fun i σ G => Same H G ∧ ∃ (ws : List Addr) (x2 : Option V), σ = [some (.ref p), some (.ref pl), x2] ∧ G pl = some (.lst (ws.map V.ref)) ∧ Paired (PieceAt K H pl G) ws (dueL (rs.take i)) ∧ ws.length ≤ 9 * i)
   ⟨sH1, [], _, rfl, epl, .nil, by simp⟩ (fun i σ G hi hP => SqT.of (hP.1.at ht)) (fun i x σ G hx hP => ?_) (fun σ G hP => ?_)
  ·obtain ⟨sG, ws, x2, rfl, epl', hws, hwl⟩ := hP
   rw [List.getElem?_map] at hx
   obtain ⟨t, ht', rfl⟩ := Option.map_eq_some_iff.mp hx
   have hi : i < us.length := (List.getElem?_eq_some_iff.mp ht').1
   obtain ⟨r, hr', hT⟩ := Paired.nth hus ht'
   have hTG := hT.same sG
   walk_at "w"
   refine ⟨.inl ⟨rfl, _, SqL.of epl'⟩, ?_⟩
   walk_at "w"
   have hplen := piecesR_len hT.2.1 hT.2.2
   refine callPieces (K := K) T hTG fun L as G1 G2 s1 s2 hL => ?_
   walk_at "w"
   refine ⟨L, rfl, ⟨_, SqL.of hL.top⟩, ?_⟩
   have hal : as.length = (piecesR r).length := hL.len
   refine comp_listP (fun i acc G => ∃ ws2 : List Addr, acc = ws2.map V.ref ∧ Paired (fun w a => G w = some (.tup [.ref t, .ref a])) ws2 (as.take i)) (SqL.of hL.top) (by rw [List.length_map, sizeLine_eq]; omega) ⟨[], rfl, by rw [List.take_zero]; exact .nil⟩ (fun j x acc H3 H3' hx s3 s3' hP R hR => ?_) (fun D acc H9 H9' hD hD3 s9 s9' hP hl9 hv => ?_)
   ·obtain ⟨ws2, rfl, hws2⟩ := hP
    rw [List.getElem?_map] at hx
    obtain ⟨c, hc, rfl⟩ := Option.map_eq_some_iff.mp hx
    walk_at "w"
    walk_at "ss"
    intro w hw
    refine hR _ _ (Same.new hw) fun H6 sx kx => ⟨ws2 ++ [w], by simp, ?_⟩
    rw [List.take_succ, hc]
    exact paired_snoc (L2.Paired.imp' (fun _ _ (z : H3 _ = some _) => sx.at z) hws2) (kx w _ (.inl hw) upd_same)
   ·obtain ⟨ws2, rfl, hws2⟩ := hP
    rw [List.length_map, List.take_length] at hws2
    rw [List.length_map, List.length_map] at hl9
    have sB : Same G H9' := s1.trans (s2.trans (s9.trans s9'))
    have hpl9 := sB.at epl'
    have hTr : TupAt K H9' t r := hTG.1.same sB
    have hpi := pairs_of (K := K) (H0 := H) (tl := pl) (G := H9') (sG.trans s1) hL (s9.trans s9') hTr (by rw [s1.at epl']; exact fun z => by cases z) (ws := ws2) (i := 0) (by rw [List.drop_zero]; exact L2.Paired.imp' (fun _ _ (z : H9 _ = some _) => s9'.at z) hws2)
    rw [List.drop_zero] at hpi
    walk_at "w"
    refine ⟨pl, D, _, _, rfl, rfl, hpl9, hv, by rw [List.length_map, List.length_map, sizeLine_eq]; omega, ?_⟩
    generalize hU : upd H9' pl _ = G6
    refine ⟨Same.wr (sG.trans sB) hpl hU, ws ++ ws2, _, rfl, ?_, ?_, ?_⟩
    ·rw [← hU, upd_same, List.map_append]
    ·have e : dueL (rs.take (i + 1)) = dueL (rs.take i) ++ (piecesR r).map fun c => (r, c) := by
      unfold dueL; rw [List.take_succ, hr', List.flatMap_append]; simp
     rw [e, ← hU]
     exact paired_append (L2.Paired.imp' (fun _ _ (z : PieceAt K H pl G _ _) => (z.same sB).off hpl9) hws) (L2.Paired.imp' (fun _ _ (z : PieceAt K H pl H9' _ _) => z.off hpl9) hpi)
    ·rw [List.length_append]; omega
  ·obtain ⟨sG, ws, x2, rfl, epl', hws, hwl⟩ := hP
   walk_at "w"
   have e : rs.take (us.map V.ref).length = rs := by rw [List.length_map, hus.length, List.take_length]
   rw [e] at hws
   exact q pl ws G sG hpl epl' hws
def sp_Tsource (a : Adr) : Sp := fun vs H Q _ => ∃ (p dx : Addr) (to st c cell : Int), vs = [.ref p, .int cell] ∧ H p = some (.ins a.C_Take dx (takeF to st c)) ∧ Q (.int (st + cell - to)) H
theorem ok_Take_source_for (T : Txt K mg a) : FnOk P w K mg base CX0 1 a.f_Take_source_for a.d_Take_source_for ["self", "cell"] (sp_Tsource a) := by
 refine T.F_Take_source_for.ok sc_Take_source_for (fun vs H Q E h => ?_) (fun cdv A outer s H vs Q E hr h => ?_)
 ·obtain ⟨p, dx, to, st, c, cell, rfl, _⟩ := h; rfl
 ·obtain ⟨p, dx, to, st, c, cell, rfl, hp, k⟩ := h
  have nd := sc_Take_source_for.nd
  refine ⟨_, (pss_one (ps_ret (pe_op o_sub (pe_op o_add (pe_fld (cv 0) rfl) (cv 1)) (pe_fld (cv 0) rfl)))), ?_⟩
  walk_at "w"
  refine ⟨p, _, dx, _, .int st, rfl, hp, T.c_Take, T.na_Take_source, rfl, ?_⟩
  walk_at "w"
  refine ⟨p, _, dx, _, .int to, rfl, hp, T.c_Take, T.na_Take_to, rfl, ?_⟩
  exact k
def plc (r : RowD) (c : Int) : List Int := match r with
 | .take to st _ => [st + c - to, c]
 | .put _ _ => [c]
def placesR (r : RowD) (cs : List Int) : List Int := cs.flatMap (plc r)
theorem placesR_take {r : RowD} {cs : List Int} {i : Nat} {d : Int} (h : cs[i]? = some d) : placesR r (cs.take (i + 1)) = placesR r (cs.take i) ++ plc r d := by
 unfold placesR
 rw [List.take_succ, h, List.flatMap_append]; simp
theorem placesR_len (r : RowD) : ∀ cs : List Int, (placesR r cs).length ≤ 2 * cs.length
 | [] => by simp [placesR]
 | c :: cs => by
  have := placesR_len r cs
  have h2 : (plc r c).length ≤ 2 := by cases r <;> simp [plc]
  simp only [placesR, List.flatMap_cons, List.length_append, List.length_cons] at this ⊢
  omega
def sp_places (K : W.Frag) (a : Adr) : Sp := fun vs H Q _ => ∃ (o cl : Addr) (r : RowD) (cs : List Int), vs = [.ref o, .ref cl] ∧ ObjAt K a H o r ∧ H cl = some (.lst (cs.map V.int)) ∧ cs.length ≤ 300 ∧ newL H Q (placesR r cs)
theorem ok_places_needed (T : Txt K mg a) : FnOk P w K mg base CX0 2 a.f_places_needed a.d_places_needed ["row", "cells"] (sp_places K a) := by
 refine T.F_places_needed.ok sc_places_needed (fun vs H Q E h => ?_) (fun cdv A outer s H vs Q E hr h => ?_)
 ·obtain ⟨o, cl, r, cs, rfl, _⟩ := h; rfl
 ·obtain ⟨o, cl, r, cs, rfl, ho, hcl, hn, q⟩ := h
  have nd := sc_places_needed.nd
  refine ⟨_, (pss_cons (ps_set (i := 2) nd rfl (Or.inl rfl) (pe_lst pa_nil))
  (pss_cons (cs_for PassesOwn.never rfl (pi_list (cv 1)) (pg_name (i := 3) nd rfl (Or.inl rfl)) (pss_cons (cs_cut (cs_if (ct_val (pe_callB call_isi (by rfl) T.n_isinstance bt_isinstance (pa_cons (cv 0) (pa_cons (pe_glob (v := .ref a.C_Take) (by rfl) T.m_Take rfl) pa_nil)))) (pss_one (ps_expr (pe_bm PySem.F.plainAttrs_list PySem.F.slot_list_append PySem.F.type_list_append mt_append (cv 2) (pa_cons (pe_meth (cv 0) T.c_Take T.me_Take_source_for (ok_Take_source_for T) (hr.mono (by decide)) T.b_Take_source_for .nil pass0 (pa_cons (cv 3) pa_nil)) pa_nil)))) pss_nil))
  (pss_one (ps_expr (pe_bm PySem.F.plainAttrs_list PySem.F.slot_list_append PySem.F.type_list_append mt_append (cv 2) (pa_cons (cv 3) pa_nil))))))
  (pss_one (ps_ret (cv 2))))), ?_⟩
  walk_at "w"
  walk_at "ss"
  intro pl hpl
  generalize hUpl : upd H pl _ = H1
  have sH1 := Same.of_eq hpl hUpl
  have epl := at_of_eq hUpl
  clear hUpl
  walk_at "w"
  refine ⟨cl, rfl, ⟨_, SqL.of (sH1.at hcl)⟩, ?_⟩
  refine forAt_list (xs := cs.map V.int) (fun i σ G => Same H G ∧ ∃ (x3 : Option V), σ = [some (.ref o), some (.ref cl), some (.ref pl), x3] ∧ G pl = some (.lst ((placesR r (cs.take i)).map V.int)))
   ⟨sH1, _, rfl, epl⟩ (fun i σ G hi hP => SqL.of (hP.1.at hcl)) (fun i x σ G hx hP => ?_) (fun σ G hP => ?_)
  ·obtain ⟨sG, x3, rfl, epl'⟩ := hP
   rw [List.getElem?_map] at hx
   obtain ⟨d, hd, rfl⟩ := Option.map_eq_some_iff.mp hx
   have hlen := placesR_len r (cs.take i)
   have hi : i < cs.length := (List.getElem?_eq_some_iff.mp hd).1
   have htk : (cs.take i).length ≤ cs.length := by rw [List.length_take]; omega
   walk_at "w"
   refine ⟨fun σ' G' => Same H G' ∧ σ' = [some (.ref o), some (.ref cl), some (.ref pl), some (.int d)] ∧ ∃ ys : List Int, G' pl = some (.lst (ys.map V.int)) ∧ ys ++ [d] = placesR r (cs.take (i + 1)), ?_, ?_⟩
   ·have ho' := ho.same sG
    cases r with
    | take to st c =>
     obtain ⟨dx, h1⟩ := ho'
     walk_at "w"
     refine ⟨_, _, _, _, true, rfl, rfl, T.ic_Take h1, T.ik_Take_Take, ?_⟩
     walk_at "w"
     refine ⟨fun _ => ?_, by walk_at "no"⟩
     walk_at "w"
     refine ⟨.inl ⟨rfl, _, SqL.of epl'⟩, ?_⟩
     walk_at "w"
     refine ⟨o, dx, _, rfl, h1, rfl, ?_⟩
     walk_at "w"
     refine ⟨o, dx, to, st, c, d, rfl, h1, ?_⟩
     walk_at "w"
     refine ⟨pl, _, _, rfl, rfl, epl', by rw [List.length_map, sizeLine_eq]; omega, ?_⟩
     refine ⟨sG.put hpl, rfl, placesR (.take to st c) (cs.take i) ++ [st + d - to], by rw [upd_same, List.map_append]; rfl, ?_⟩
     rw [placesR_take hd]; simp [plc]
    | put to sg =>
     obtain ⟨dx, u, h1, h2⟩ := ho'
     walk_at "w"
     refine ⟨_, _, _, _, false, rfl, rfl, T.ic_Put h1, T.ik_Put_Take, ?_⟩
     walk_at "w"
     refine ⟨by walk_at "no", fun _ => ?_⟩
     refine ⟨sG, rfl, _, epl', ?_⟩
     rw [placesR_take hd]; simp [plc]
   ·rintro σ' G' ⟨sG', rfl, ys, eys, hys⟩
    walk_at "w"
    refine ⟨.inl ⟨rfl, _, SqL.of eys⟩, ?_⟩
    walk_at "w"
    have hyl := congrArg List.length hys
    have := placesR_len r (cs.take (i + 1))
    have htk2 : (cs.take (i + 1)).length ≤ cs.length := by rw [List.length_take]; omega
    rw [List.length_append, List.length_singleton] at hyl
    refine ⟨pl, _, _, rfl, rfl, eys, by rw [List.length_map, sizeLine_eq]; omega, ?_⟩
    refine ⟨sG'.put hpl, _, rfl, ?_⟩
    rw [upd_same, ← hys, List.map_append]; rfl
  ·obtain ⟨sG, x3, rfl, epl'⟩ := hP
   rw [List.length_map, List.take_length] at epl'
   walk_at "w"
   exact q pl G sG hpl epl'
def sp_beyond (K : W.Frag) : Sp := fun vs H Q _ => ∃ (size : Int) (H0 : Hp) (pl tl : Addr) (ws : List Addr) (xs : List (RowD × List Int)), vs = [.int size, .ref pl] ∧ H pl = some (.lst (ws.map V.ref)) ∧ Paired (PieceAt K H0 tl H) ws xs ∧ (∀ x ∈ xs, x.1.ok ∧ x.2.length ≤ 300 ∧ ∀ p ∈ placesR x.1 x.2, p < size) ∧ ∀ H', Same H H' → Q .non H'
theorem ok_refuse_beyond (T : Txt K mg a) : FnOk P w K mg base CX0 6 a.f_refuse_beyond a.d_refuse_beyond ["size", "pieces"] (sp_beyond K) := by
 refine T.F_refuse_beyond.ok sc_refuse_beyond (fun vs H Q E h => ?_) (fun cdv A outer s H vs Q E hr h => ?_)
 ·obtain ⟨size, H0, pl, tl, ws, xs, rfl, _⟩ := h; rfl
 ·obtain ⟨size, H0, pl, tl, ws, xs, rfl, hpl, hws, hx, q⟩ := h
  have nd := sc_refuse_beyond.nd
  refine ⟨_, (pss_one (cs_for PassesOwn.never rfl (pi_list (cv 1)) (pg_tup rfl (pgs_cons (pg_name (i := 2) nd rfl (Or.inl rfl)) (pgs_cons (pg_name (i := 3) nd rfl (Or.inl rfl)) pgs_nil))) (pss_one (cs_for PassesOwn.never rfl (pi_list (pe_call (ok_places_needed T) (hr.mono (by decide)) (by rfl) T.m_places_needed T.F_places_needed.kp T.b_places_needed .nil pass0 (pa_cons (pe_call (ok_row_of T) (hr.mono (by decide)) (by rfl) T.m_row_of T.F_row_of.kp T.b_row_of .nil pass0 (pa_cons (cv 2) pa_nil)) (pa_cons (cv 3) pa_nil)))) (pg_name (i := 4) nd rfl (Or.inl rfl)) (pss_one (cs_if (ct_cmp o_ge (cv 4) (cv 0)) (pss_one ps_dead) pss_nil)))))), ?_⟩
  walk_at "w"
  refine ⟨pl, rfl, ⟨_, SqL.of hpl⟩, ?_⟩
  refine forAt_list (xs := ws.map V.ref) (fun i σ G => Same H G ∧ ∃ (x2 x3 x4 : Option V), σ = [some (.int size), some (.ref pl), x2, x3, x4])
   ⟨Same.refl _, _, _, _, rfl⟩ (fun i σ G hi hP => SqL.of (hP.1.at hpl)) (fun i x σ G hx' hP => ?_) (fun σ G hP => ?_)
  ·obtain ⟨sG, x2, x3, x4, rfl⟩ := hP
   rw [List.getElem?_map] at hx'
   obtain ⟨u, hu, rfl⟩ := Option.map_eq_some_iff.mp hx'
   obtain ⟨⟨r, cs⟩, hr', t, c, nc, h1, h2, h3⟩ := Paired.nth hws hu
   obtain ⟨hk, hcl, hpp⟩ := hx _ (List.mem_of_getElem? hr')
   walk_at "w"
   refine ⟨u, _, rfl, SqT.of (sG.at h1), rfl, ?_⟩
   walk_at "w"
   refine ⟨_, _, rfl, ?_⟩
   walk_at "w"
   refine ⟨_, _, rfl, ?_⟩
   walk_at "w"
   refine And.intro rfl ?_
   walk_at "w"
   refine ⟨t, r, rfl, h2.same sG, hk, fun o H1 s1 ho hob => ?_⟩
   walk_at "w"
   refine ⟨o, c, r, cs, rfl, hob, s1.at (sG.at h3), hcl, fun l H2 s2 hl el => ?_⟩
   have sA : Same H H2 := sG.trans (s1.trans s2)
   walk_at "w"
   refine ⟨l, rfl, ⟨_, SqL.of el⟩, ?_⟩
   refine forAt_list (xs := (placesR r cs).map V.int) (fun i σ G => H2 = G ∧ ∃ (x4 : Option V), σ = [some (.int size), some (.ref pl), some (.ref t), some (.ref c), x4])
    ⟨rfl, _, rfl⟩ (fun i σ G hi hP => by rw [← hP.1]; exact SqL.of el) (fun i x σ G hx' hP => ?_) (fun σ G hP => ?_)
   ·obtain ⟨rfl, x4, rfl⟩ := hP
    rw [List.getElem?_map] at hx'
    obtain ⟨p, hp, rfl⟩ := Option.map_eq_some_iff.mp hx'
    have hlt := hpp p (List.mem_of_getElem? hp)
    walk_at "w"
    refine ⟨fun e => absurd (of_decide_eq_true e) (by show ¬ size ≤ p; omega), fun _ => ?_⟩
    exact ⟨rfl, _, rfl⟩
   ·obtain ⟨rfl, x4, rfl⟩ := hP
    exact ⟨sA, _, _, _, rfl⟩
  ·obtain ⟨sG, x2, x3, x4, rfl⟩ := hP
   exact q _ sG
def sp_lengths : Sp := fun vs H Q _ => ∃ (size o n : Int) (p : Addr) (x : V), vs = [.int size, .ref p] ∧ H p = some (.tup [.int o, .int n, x]) ∧ max o n ≤ size ∧ Q .non H
theorem ok_refuse_lengths (T : Txt K mg a) : FnOk P w K mg base CX0 1 a.f_refuse_lengths a.d_refuse_lengths ["size", "paper"] sp_lengths := by
 refine T.F_refuse_lengths.ok sc_refuse_lengths (fun vs H Q E h => ?_) (fun cdv A outer s H vs Q E hr h => ?_)
 ·obtain ⟨size, o, n, p, x, rfl, _⟩ := h; rfl
 ·obtain ⟨size, o, n, p, x, rfl, hp, hle, k1⟩ := h
  have nd := sc_refuse_lengths.nd
  refine ⟨_, (pss_cons (ps_set (i := 2) nd rfl (Or.inl rfl) (pe_callB (c_max2 rfl) (by rfl) T.n_max bt_max (pa_cons (pe_ix ix_tup (cv 1) pe_int (fun _ _ => rfl)) (pa_cons (pe_ix ix_tup (cv 1) pe_int (fun _ _ => rfl)) pa_nil))))
  (pss_one (cs_if (ct_cmp o_lt (cv 0) (cv 2)) (pss_one ps_dead) pss_nil))), ?_⟩
  walk_at "w"
  refine ⟨p, _, _, .int o, rfl, rfl, SqT.of hp, rfl, ?_⟩
  walk_at "w"
  refine ⟨p, _, _, .int n, rfl, rfl, SqT.of hp, rfl, ?_⟩
  walk_at "w"
  refine ⟨fun e => absurd (of_decide_eq_true e) (by show ¬ size < max o n; omega), fun e => ?_⟩
  exact k1
def stepP (r : RowD) (C : List Int) (d : Int) : List Int := match r with
 | .take to st _ => C.set d.toNat (C.getD (st + d - to).toNat 0)
 | .put to sg => C.set d.toNat (sg.getD (d - to).toNat 0)
def doP (r : RowD) (C cs : List Int) : List Int := cs.foldl (stepP r) C
theorem stepP_len (r : RowD) (C : List Int) (d : Int) : (stepP r C d).length = C.length := by cases r <;> simp [stepP]
theorem doP_len (r : RowD) : ∀ (cs C : List Int), (doP r C cs).length = C.length
 | [], _ => rfl
 | d :: cs, C => by
  show (doP r (stepP r C d) cs).length = _
  rw [doP_len r cs, stepP_len]
theorem doP_take {r : RowD} {C cs : List Int} {i : Nat} {d : Int} (h : cs[i]? = some d) : doP r C (cs.take (i + 1)) = stepP r (doP r C (cs.take i)) d := by
 unfold doP
 rw [List.take_succ, h]; simp [List.foldl_append]
abbrev e_lamD : Expr := callArg 1 (callArg 1 (exprVal ((forBody ((defBody s_do_piece).getD 0 (.Pass ⟨0, 0, 0, 0⟩))).getD 0 (.Pass ⟨0, 0, 0, 0⟩))))
theorem sc_lamD : CloScope ["at", "store"] ["at"] ["store"] (lamScope e_lamD) := ⟨rfl, rfl, rfl, by decide +kernel, rfl, by decide +kernel, by decide +kernel, by decide +kernel⟩
abbrev LamD (H : Hp) (f : Addr) (fv : List (Str × V)) : Prop := CloAt H f "<lambda>" "do_piece.<locals>.<lambda>" (lamArgs e_lamD) (.expr (lamBody e_lamD)) (lamScope e_lamD) fv
def sp_lamD (a : Adr) : List (Str × V) → Sp := fun fv vs H Q _ => ∃ (S : SA) (cells : List Int) (notes : List (Option Int)) (n i v : Int) (fl : V), fv = ([("store", .ref S.st)] : List (Str × V)) ∧ vs = [.int i] ∧ StAt a H S cells notes n fl ∧ inR cells i ∧ cells[i.toNat]? = some v ∧ Q (.int v) H
theorem ok_do_piece_lam (T : Txt K mg a) : CloOk P w K mg base CX0 3 "<lambda>" "do_piece.<locals>.<lambda>" (lamArgs e_lamD) (.expr (lamBody e_lamD)) (lamScope e_lamD) ["at"] (sp_lamD a) := by
 refine clo_expr sc_lamD (fun fv vs H Q E h => ?_) (fun _ _ _ _ _ us hl => match us, hl with | [_], _ => rfl) (fun A outer s H f clos cdv fv vs Q E hr h => ?_)
 ·obtain ⟨S, cells, notes, n, i, v, fl, rfl, rfl, _⟩ := h; exact ⟨rfl, rfl⟩
 ·obtain ⟨S, cells, notes, n, i, v, fl, rfl, rfl, hS, hi, hv, k⟩ := h
  have nd := sc_lamD.nd
  refine ⟨_, (pe_meth (cv 1) T.c_Store T.me_Store_read (ok_Store_read T) (hr.mono (by decide)) T.b_Store_read .nil pass0 (pa_cons (cv 0) pa_nil)), ?_⟩
  walk_at "w"
  refine ⟨S.st, S.dx, _, rfl, hS.st, rfl, ?_⟩
  exact ⟨S, cells, notes, n, i, v, fl, rfl, hS, hi, hv, k⟩
def sp_Psign (a : Adr) : Sp := fun vs H Q E => ∃ (p dx u : Addr) (to n cell v : Int) (f : V) (sg : List Int), vs = [.ref p, .int cell, f] ∧ H p = some (.ins a.C_Put dx (putFs to u n)) ∧ H u = some (.tup (sg.map V.int)) ∧ 0 ≤ cell - to ∧ sg[(cell - to).toNat]? = some v ∧ Q (.int v) H
def sp_Tsign (a : Adr) : Sp := fun vs H Q _ => ∃ (p dx : Addr) (to st c cell : Int) (f : Addr) (fv : List (Str × V)), vs = [.ref p, .int cell, .ref f] ∧ H p = some (.ins a.C_Take dx (takeF to st c)) ∧ LamD H f fv ∧ sp_lamD a fv [.int (st + cell - to)] H Q E0
theorem ok_Take_sign_for (T : Txt K mg a) : FnOk P w K mg base CX0 4 a.f_Take_sign_for a.d_Take_sign_for ["self", "cell", "read"] (sp_Tsign a) := by
 refine T.F_Take_sign_for.ok sc_Take_sign_for (fun vs H Q E h => ?_) (fun cdv A outer s H vs Q E hr h => ?_)
 ·obtain ⟨p, dx, to, st, c, cell, f, fv, rfl, _⟩ := h; rfl
 ·obtain ⟨p, dx, to, st, c, cell, f, fv, rfl, hp, hf, k⟩ := h
  have nd := sc_Take_sign_for.nd
  refine ⟨_, (pss_one (ps_ret (pe_callV 2 (ok_do_piece_lam T) (hr.mono (by decide)) pass0 (pa_cons (pe_meth (cv 0) T.c_Take T.me_Take_source_for (ok_Take_source_for T) (hr.mono (by decide)) T.b_Take_source_for .nil pass0 (pa_cons (cv 1) pa_nil)) pa_nil)))), ?_⟩
  walk_at "w"
  refine ⟨f, fv, rfl, hf, ?_⟩
  walk_at "w"
  refine ⟨p, dx, _, rfl, hp, rfl, ?_⟩
  walk_at "w"
  refine ⟨p, dx, to, st, c, cell, rfl, hp, ?_⟩
  walk_at "w"
  exact ⟨hf, k⟩
theorem ok_Put_sign_for (T : Txt K mg a) : FnOk P w K mg base CX0 1 a.f_Put_sign_for a.d_Put_sign_for ["self", "cell", "read"] (sp_Psign a) := by
 refine T.F_Put_sign_for.ok sc_Put_sign_for (fun vs H Q E h => ?_) (fun cdv A outer s H vs Q E hr h => ?_)
 ·obtain ⟨p, dx, u, to, n, cell, v, f, sg, rfl, _⟩ := h; rfl
 ·obtain ⟨p, dx, u, to, n, cell, v, f, sg, rfl, hp, hu, hi, hv, k⟩ := h
  have nd := sc_Put_sign_for.nd
  refine ⟨_, (pss_one (ps_ret (pe_ix ix_tup (pe_fld (cv 0) rfl) (pe_op o_sub (cv 1) (pe_fld (cv 0) rfl)) (fun _ _ => rfl)))), ?_⟩
  walk_at "w"
  refine ⟨p, _, dx, _, .ref u, rfl, hp, T.c_Put, T.na_Put_signs, rfl, ?_⟩
  walk_at "w"
  refine ⟨p, _, dx, _, .int to, rfl, hp, T.c_Put, T.na_Put_to, rfl, ?_⟩
  walk_at "w"
  exact ⟨u, _, _, .int v, rfl, rfl, SqT.of hu, atI_in hi hv, k⟩
def CellsIn (r : RowD) (L : Nat) (d : Int) : Prop := 0 ≤ d ∧ d < L ∧ match r with
 | .take to st _ => 0 ≤ st + d - to ∧ st + d - to < L
 | .put to sg => 0 ≤ d - to ∧ d - to < sg.length
theorem ObjAt.kp {K : W.Frag} {a : Adr} {H H' : Hp} {S : SA} {cells : List Int} {notes : List (Option Int)} {n : Int} {fl : V} {o : Addr} {r : RowD} (h : ObjAt K a H o r) (hS : StAt a H S cells notes n fl) (hn : o ≠ S.p) (k : Kp (SS S) H H') : ObjAt K a H' o r := by
 cases r with
 | take to st c =>
  obtain ⟨dx, h⟩ := h
  refine ⟨dx, k _ _ h ?_⟩
  simp only [List.mem_cons, List.not_mem_nil, or_false]
  rintro (z | z | z)
  ·rw [z, hS.ca] at h; cases h
  ·rw [z, hS.na] at h; cases h
  ·exact hn z
 | put to sg =>
  obtain ⟨dx, u, h1, h2⟩ := h
  refine ⟨dx, u, k _ _ h1 ?_, k _ _ h2 ?_⟩
  ·simp only [List.mem_cons, List.not_mem_nil, or_false]
   rintro (z | z | z)
   ·rw [z, hS.ca] at h1; cases h1
   ·rw [z, hS.na] at h1; cases h1
   ·exact hn z
  ·simp only [List.mem_cons, List.not_mem_nil, or_false]
   rintro (z | z | z)
   ·rw [z, hS.ca] at h2; cases h2
   ·rw [z, hS.na] at h2; cases h2
   ·rw [z, hS.p] at h2; cases h2
def sp_do_piece (K : W.Frag) (a : Adr) : Sp := fun vs H Q _ => ∃ (S : SA) (o c : Addr) (r : RowD) (cs cells : List Int) (notes : List (Option Int)) (n : Int), vs = [.ref S.st, .ref o, .ref c] ∧ H P_do_piece = some (.tbl qs_do_piece) ∧ H P_Store_write = some (.tbl qs_Store_write) ∧ StAt a H S cells notes n .non ∧ ObjAt K a H o r ∧ o ≠ S.p ∧ H c = some (.lst (cs.map V.int)) ∧ c ∉ SS S ∧ (∀ d ∈ cs, CellsIn r cells.length d) ∧
 RetS a H S (doP r cells cs) notes (n + cs.length) .non (Q .non)
theorem ok_do_piece (T : Txt K mg a) : FnOk P w K mg base CX0 5 a.f_do_piece a.d_do_piece ["store", "row", "cells"] (sp_do_piece K a) := by
 refine T.F_do_piece.okC ["store"] T.cd_do_piece sc_do_piece (fun vs H Q E h => ?_) (fun A outer s H vs Q E hr h => ?_)
 ·obtain ⟨S, o, c, r, cs, cells, notes, n, rfl, _⟩ := h; rfl
 ·obtain ⟨S, o, c, r, cs, cells, notes, n, rfl, hPd, hPw, hS, ho, hop, hc, hcS, hin, k⟩ := h
  have nd := sc_do_piece.nd
  refine ⟨_, (pss_track (x := "store") (i := 0) nd rfl rfl rfl (by kernel_rfl) (pss_one (cs_for PassesOwn.never rfl (pi_list (cv 2)) (pg_name (i := 3) nd rfl (Or.inl rfl)) (pss_one (ps_expr (pe_meth (cv 0) T.c_Store T.me_Store_write (ok_Store_write T) (hr.mono (by decide)) T.b_Store_write .nil pass0 (pa_cons (cv 3) (pa_cons (pe_alt (pe_meth (cv 1) T.c_Put T.me_Put_sign_for (ok_Put_sign_for T) (hr.mono (by decide)) T.b_Put_sign_for .nil pass0 (pa_cons (cv 3) (pa_cons (ce_lambda (c := c_do_piece) (P := P_do_piece) (qs := qs_do_piece) (fns := ["store"]) rfl T.tk_do_piece (q := "do_piece.<locals>.<lambda>") (by kernel_rfl) (.head _) (by kernel_rfl) (by kernel_rfl)) pa_nil))) (pe_meth (cv 1) T.c_Take T.me_Take_sign_for (ok_Take_sign_for T) (hr.mono (by decide)) T.b_Take_sign_for .nil pass0 (pa_cons (cv 3) (pa_cons (ce_lambda (c := c_do_piece) (P := P_do_piece) (qs := qs_do_piece) (fns := ["store"]) rfl T.tk_do_piece (q := "do_piece.<locals>.<lambda>") (by kernel_rfl) (.head _) (by kernel_rfl) (by kernel_rfl)) pa_nil)))) pa_nil)))))))), ?_⟩
  walk_at "w"
  intro a1 e1 z1 d1
  refine And.intro z1 ?_
  generalize hU1 : upd H a1 _ = H1
  have s1 := Same.of_eq z1 hU1
  have c1 := at_of_eq hU1
  clear hU1
  walk_at "w"
  refine ⟨c, rfl, ⟨_, SqL.of (s1.at hc)⟩, ?_⟩
  refine forAt_list (xs := cs.map V.int) (fun i σ G => Kp (SS S) H1 G ∧ StAt a G S (doP r cells (cs.take i)) notes (n + i) .non ∧ ∃ (x3 : Option V), σ = [some (.ref S.st), some (.ref o), some (.ref c), x3])
   ⟨Kp.of (Same.refl _), by have := hS.same s1; simpa [doP] using this, _, rfl⟩ (fun i σ G hi hP => SqL.of (hP.1 _ _ (s1.at hc) hcS)) (fun i x σ G hx hP => ?_) (fun σ G hP => ?_)
  ·obtain ⟨kp, hSG, x3, rfl⟩ := hP
   rw [List.getElem?_map] at hx
   obtain ⟨d, hd, rfl⟩ := Option.map_eq_some_iff.mp hx
   have hcell := hin d (List.mem_of_getElem? hd)
   have hdl := doP_len r (cs.take i) cells
   obtain ⟨hd0, hd1, hd2⟩ := hcell
   have hS1 := hS.same s1
   have nSS : ∀ b u, H1 b = some u → ¬ isMu u → b ∉ SS S := fun b u e m z => by
    obtain ⟨u', q', m'⟩ := hS1.mu b z
    rw [e] at q'; cases q'; exact m m'
   have hOG : ObjAt K a G o r := ObjAt.kp (ho.same s1) hS1 hop kp
   have hPG : G P_do_piece = some (.tbl qs_do_piece) := kp _ _ (s1.at hPd) (nSS _ _ (s1.at hPd) (fun z => z))
   have hPG2 : G P_Store_write = some (.tbl qs_Store_write) := kp _ _ (s1.at hPw) (nSS _ _ (s1.at hPw) (fun z => z))
   have c1' : H1 a1 = some (.cel (some (.ref S.st))) := c1
   have c1G : G a1 = some (.cel (some (.ref S.st))) := kp _ _ c1' (nSS _ _ c1' (fun z => z))
   have fin : ∀ (G5 : Hp) (v : Int), Same G G5 → stepP r (doP r cells (cs.take i)) d = (doP r cells (cs.take i)).set d.toNat v → ∀ G6, Kp (SS S) G5 G6 → StAt a G6 S ((doP r cells (cs.take i)).set d.toNat v) notes (n + i + 1) .non → Kp (SS S) H1 G6 ∧ StAt a G6 S (doP r cells (cs.take (i + 1))) notes (n + (i + 1 : Nat)) .non ∧ ∃ (x3 : Option V), [some (V.ref S.st), some (.ref o), some (.ref c), some (.int d)] = [some (.ref S.st), some (.ref o), some (.ref c), x3] := fun G5 v s5 e G6 k6 h6 => by
    refine ⟨(kp.same s5).trans k6, ?_, _, rfl⟩
    rw [doP_take hd, e, show n + ((i + 1 : Nat) : Int) = n + i + 1 by omega]
    exact h6
   walk_at "w"
   refine ⟨S.st, S.dx, _, rfl, hSG.st, rfl, ?_⟩
   walk_at "w"
   cases r with
   | put to sg =>
    obtain ⟨dx, u, q1, q2⟩ := hOG
    have hd2 : 0 ≤ d - to ∧ d - to < sg.length := hd2
    obtain ⟨v, hv⟩ : ∃ v, sg[(d - to).toNat]? = some v := ⟨_, List.getElem?_eq_getElem (by omega)⟩
    left
    refine ⟨o, dx, _, rfl, q1, rfl, ?_⟩
    walk_at "w"
    refine ⟨hPG, [("store", .ref S.st)], rfl, fun x v m => ?_, fun f G5 hf s5 hc => ?_⟩
    ·simp only [List.mem_cons, Prod.mk.injEq, List.not_mem_nil, or_false] at m
     obtain ⟨rfl, rfl⟩ := m
     exact ⟨a1, e1, c1G⟩
    walk_at "w"
    refine ⟨o, dx, u, to, _, d, v, _, sg, rfl, s5.at q1, s5.at q2, hd2.1, hv, ?_⟩
    walk_at "w"
    refine ⟨S, _, notes, n + i, d, v, rfl, hSG.same s5, s5.at hPG2, ⟨hd0, by rw [hdl]; exact hd1⟩, fun G6 k6 h6 => ?_⟩
    walk_at "w"
    exact fin G5 v s5 (by simp [stepP, List.getD_eq_getElem?_getD, hv]) G6 k6 h6
   | take to st cn =>
    obtain ⟨dx, q1⟩ := hOG
    have hd2 : 0 ≤ st + d - to ∧ st + d - to < cells.length := hd2
    obtain ⟨v, hv⟩ : ∃ v, (doP (.take to st cn) cells (cs.take i))[(st + d - to).toNat]? = some v := ⟨_, List.getElem?_eq_getElem (by rw [hdl]; omega)⟩
    right
    refine ⟨o, dx, _, rfl, q1, rfl, ?_⟩
    walk_at "w"
    refine ⟨hPG, [("store", .ref S.st)], rfl, fun x v m => ?_, fun f G5 hf s5 hc => ?_⟩
    ·simp only [List.mem_cons, Prod.mk.injEq, List.not_mem_nil, or_false] at m
     obtain ⟨rfl, rfl⟩ := m
     exact ⟨a1, e1, c1G⟩
    walk_at "w"
    refine ⟨o, dx, to, st, cn, d, f, _, rfl, s5.at q1, hc, S, _, notes, n + i, _, v, .non, rfl, rfl, hSG.same s5, ⟨hd2.1, by rw [hdl]; exact hd2.2⟩, hv, ?_⟩
    walk_at "w"
    refine ⟨S, _, notes, n + i, d, v, rfl, hSG.same s5, s5.at hPG2, ⟨hd0, by rw [hdl]; exact hd1⟩, fun G6 k6 h6 => ?_⟩
    walk_at "w"
    exact fin G5 v s5 (by simp [stepP, List.getD_eq_getElem?_getD, hv]) G6 k6 h6
  ·obtain ⟨kp, hSG, x3, rfl⟩ := hP
   rw [List.length_map, List.take_length] at hSG
   walk_at "w"
   refine k G (fun b u e n => kp b u (s1 b u e) n) ?_
   exact hSG
def doL (C : List Int) (xs : List (RowD × List Int)) : List Int := xs.foldl (fun C x => doP x.1 C x.2) C
theorem doL_len : ∀ (xs : List (RowD × List Int)) (C : List Int), (doL C xs).length = C.length
 | [], _ => rfl
 | x :: xs, C => by
  show (doL (doP x.1 C x.2) xs).length = _
  rw [doL_len xs, doP_len]
theorem doL_take {C : List Int} {xs : List (RowD × List Int)} {i : Nat} {x : RowD × List Int} (h : xs[i]? = some x) : doL C (xs.take (i + 1)) = doP x.1 (doL C (xs.take i)) x.2 := by
 unfold doL
 rw [List.take_succ, h]; simp [List.foldl_append]
def wrN (xs : List (RowD × List Int)) : Nat := (xs.map fun x => x.2.length + 1).sum
theorem wrN_take {xs : List (RowD × List Int)} {i : Nat} {x : RowD × List Int} (h : xs[i]? = some x) : wrN (xs.take (i + 1)) = wrN (xs.take i) + (x.2.length + 1) := by
 unfold wrN
 rw [List.take_succ, h]; simp
def markN (notes : List (Option Int)) (first : Nat) : Nat → List (Option Int)
 | 0 => notes
 | j + 1 => (markN notes first j).set ((((first + j : Nat) : Int) + 1) % 2).toNat (some (((first + j : Nat) : Int) + 1))
theorem markN_len (notes : List (Option Int)) (first : Nat) : ∀ j, (markN notes first j).length = notes.length
 | 0 => rfl
 | j + 1 => by rw [markN, List.length_set, markN_len notes first j]
def PieceOk (L : Nat) (x : RowD × List Int) : Prop := x.1.ok ∧ x.2.length ≤ 300 ∧ ∀ d ∈ x.2, CellsIn x.1 L d
def sp_go_on (K : W.Frag) (a : Adr) : Sp := fun vs H Q _ => ∃ (S : SA) (p tt : Addr) (o n : Int) (us : List Addr) (rs : List RowD) (cells : List Int) (notes : List (Option Int)) (cnt : Int) (first : Nat), vs = [.ref S.st, .ref p] ∧ H P_do_piece = some (.tbl qs_do_piece) ∧ H P_Store_write = some (.tbl qs_Store_write) ∧ H P_Store_note_down = some (.tbl qs_Store_note_down) ∧ StAt a H S cells notes cnt .non ∧ H p = some (.tup [.int o, .int n, .ref tt]) ∧ H tt = some (.tup (us.map V.ref)) ∧ Paired (GT K H) us rs ∧ us.length ≤ 58 ∧ notes.length = 2 ∧ IsMax notes first ∧ first ≤ 10000 ∧
 max o n ≤ cells.length ∧ (∀ x ∈ dueL rs, PieceOk cells.length x) ∧ ∀ H', Kp (SS S) H H' → StAt a H' S (doL cells ((dueL rs).drop first)) (markN notes first ((dueL rs).drop first).length) (cnt + wrN ((dueL rs).drop first)) .non → Q (.int ((dueL rs).drop first).length) H'
theorem cut_fromV (xs : List V) (i : Nat) : cutV xs (some (i : Int)) none = xs.drop i := by
 unfold cutV
 rw [sIx_nn (by omega), HT.sIx_none, Int.toNat_natCast]
 by_cases h : i ≤ xs.length
 ·rw [Nat.min_eq_left h]
  exact List.take_of_length_le (by rw [List.length_drop]; omega)
 ·rw [Nat.min_eq_right (by omega), List.drop_eq_nil_of_le (Nat.le_refl _), List.drop_eq_nil_of_le (by omega)]; simp
theorem paired_drop {α β : Type} {F : α → β → Prop} : ∀ {l₁ : List α} {l₂ : List β} (n : Nat), Paired F l₁ l₂ → Paired F (l₁.drop n) (l₂.drop n)
 | _, _, 0, h => h
 | _, _, n + 1, .nil => .nil
 | _, _, n + 1, .cons _ t => paired_drop n t
theorem places_in {r : RowD} {L : Nat} {cs : List Int} (h : ∀ d ∈ cs, CellsIn r L d) : ∀ p ∈ placesR r cs, p < (L : Int) := by
 intro p hp
 unfold placesR at hp
 obtain ⟨d, hd, hp⟩ := List.mem_flatMap.mp hp
 have h1 := h d hd
 cases r with
 | take to st c =>
  have h2 : 0 ≤ st + d - to ∧ st + d - to < L := h1.2.2
  simp only [plc, List.mem_cons, List.not_mem_nil, or_false] at hp
  rcases hp with rfl | rfl
  ·exact h2.2
  ·exact h1.2.1
 | put to sg =>
  simp only [plc, List.mem_singleton] at hp
  rw [hp]; exact h1.2.1
theorem TupAt.kpS {K : W.Frag} {H H' : Hp} {t : Addr} {r : RowD} (h : TupAt K H t r) (k : ∀ b u, H b = some u → ¬ isMu u → H' b = some u) : TupAt K H' t r := by
 cases r with
 | take to st c => exact k _ _ h (fun z => z)
 | put to sg => obtain ⟨u, h1, h2⟩ := h; exact ⟨u, k _ _ h1 (fun z => z), k _ _ h2 (fun z => z)⟩
theorem ok_go_on (T : Txt K mg a) : FnOk P w K mg base CX0 7 a.f_go_on a.d_go_on ["store", "paper"] (sp_go_on K a) := by
 refine T.F_go_on.ok sc_go_on (fun vs H Q E h => ?_) (fun cdv A outer s H vs Q E hr h => ?_)
 ·obtain ⟨S, p, tt, o, n, us, rs, cells, notes, cnt, first, rfl, _⟩ := h; rfl
 ·obtain ⟨S, p, tt, o, n, us, rs, cells, notes, cnt, first, rfl, hPd, hPw, hPn, hS, hp, ht, hus, hul, hn2, hmx, hf4, hle, hok, k1⟩ := h
  have nd := sc_go_on.nd
  refine ⟨_, (pss_cons (ps_set (i := 2) nd rfl (Or.inl rfl) (pe_callB call_len_seq (by rfl) T.n_len bt_len (pa_cons (pe_ix ix_tup (pe_meth0 (cv 0) T.c_Store T.me_Store_told (ok_Store_told T) (hr.mono (by decide)) T.b_Store_told .nil pass0) pe_int (fun _ _ => rfl)) pa_nil)))
  (pss_cons (ps_expr (pe_call (ok_refuse_lengths T) (hr.mono (by decide)) (by rfl) T.m_refuse_lengths T.F_refuse_lengths.kp T.b_refuse_lengths .nil pass0 (pa_cons (cv 2) (pa_cons (cv 1) pa_nil))))
  (pss_cons (ps_set (i := 3) nd rfl (Or.inl rfl) (pe_call (ok_pieces_of T) (hr.mono (by decide)) (by rfl) T.m_pieces_of T.F_pieces_of.kp T.b_pieces_of .nil pass0 (pa_cons (cv 1) pa_nil)))
  (pss_cons (ps_set (i := 4) nd rfl (Or.inl rfl) (pe_meth0 (cv 0) T.c_Store T.me_Store_noted (ok_Store_noted T) (hr.mono (by decide)) T.b_Store_noted .nil pass0))
  (pss_cons (ps_set (i := 5) nd rfl (Or.inl rfl) (pe_slice sl_list (cv 3) (po_some (cv 4)) po_none))
  (pss_cons (ps_expr (pe_call (ok_refuse_beyond T) (hr.mono (by decide)) (by rfl) T.m_refuse_beyond T.F_refuse_beyond.kp T.b_refuse_beyond .nil pass0 (pa_cons (cv 2) (pa_cons (cv 5) pa_nil))))
  (pss_cons (cs_for PassesOwn.never rfl (pi_enumS (by rfl) T.n_enumerate (pa_cons (cv 5) pa_nil) (cv 4)) (pg_tup rfl (pgs_cons (pg_name (i := 6) nd rfl (Or.inl rfl)) (pgs_cons (pg_name (i := 7) nd rfl (Or.inl rfl)) pgs_nil))) (pss_cons (ps_expr (pe_call (ok_do_piece T) (hr.mono (by decide)) (by rfl) T.m_do_piece T.F_do_piece.kp T.b_do_piece .nil pass0 (pa_cons (cv 0) (pa_cons (pe_call (ok_row_of T) (hr.mono (by decide)) (by rfl) T.m_row_of T.F_row_of.kp T.b_row_of .nil pass0 (pa_cons (pe_ix ix_tup (cv 7) pe_int (fun _ _ => rfl)) pa_nil)) (pa_cons (pe_ix ix_tup (cv 7) pe_int (fun _ _ => rfl)) pa_nil)))))
  (pss_one (ps_expr (pe_meth (cv 0) T.c_Store T.me_Store_mark (ok_Store_mark T) (hr.mono (by decide)) T.b_Store_mark .nil pass0 (pa_cons (pe_op o_add (cv 6) pe_int) pa_nil))))))
  (pss_one (ps_ret (pe_callB call_len_seq (by rfl) T.n_len bt_len (pa_cons (cv 5) pa_nil))))))))))), ?_⟩
  walk_at "w"
  refine ⟨S.st, S.dx, _, rfl, hS.st, rfl, ?_⟩
  walk_at "w"
  refine ⟨S, cells, notes, cnt, .non, rfl, hS, fun t c m H1 s1 hc hm ncm et ec em => ?_⟩
  walk_at "w"
  refine ⟨t, _, _, .ref c, rfl, rfl, SqT.of et, rfl, ?_⟩
  walk_at "w"
  refine ⟨c, _, rfl, .inl (SqL.of ec), ?_⟩
  walk_at "w"
  refine ⟨_, o, n, p, _, rfl, s1.at hp, by rw [List.length_map]; exact hle, ?_⟩
  have hS1 := hS.same s1
  walk_at "w"
  refine ⟨p, tt, .int o, .int n, us, rs, rfl, s1.at hp, s1.at ht, L2.Paired.imp' (fun _ _ z => z.same s1) hus, hul, fun l ws H2 s2 hl el hws => ?_⟩
  have hS2 := hS1.same s2
  walk_at "w"
  refine ⟨S.st, S.dx, _, rfl, hS2.st, rfl, ?_⟩
  walk_at "w"
  refine ⟨S, cells, notes, cnt, .non, rfl, hS2, hn2, fun m H3 s3 hmx' => ?_⟩
  obtain rfl := IsMax.uniq hmx' hmx
  have hS3 := hS2.same s3
  walk_at "w"
  refine ⟨(first : Int), rfl, ?_⟩
  walk_at "w"
  refine ⟨l, _, rfl, SqL.of (s3.at el), ?_⟩
  intro lf hlf
  generalize hUlf : upd H3 lf _ = H4
  have sH4 := Same.of_eq hlf hUlf
  have elf := at_of_eq hUlf
  clear hUlf
  walk_at "w"
  rw [cut_fromV, ← List.map_drop] at elf
  have hws4 : Paired (PieceAt K H1 l H4) (ws.drop first) ((dueL rs).drop first) := paired_drop first (L2.Paired.imp' (fun _ _ z => (z.same s3).same sH4) hws)
  obtain ⟨due, hdue⟩ : ∃ due, due = (dueL rs).drop first := ⟨_, rfl⟩
  rw [← hdue] at hws4 k1
  have hok' : ∀ x ∈ due, PieceOk cells.length x := fun x hx => hok x (by rw [hdue] at hx; exact List.mem_of_mem_drop hx)
  have hwl : (ws.drop first).length = due.length := hws4.length
  refine ⟨_, H1, lf, l, ws.drop first, due, rfl, elf, hws4, fun x hx => ⟨(hok' x hx).1, (hok' x hx).2.1, by rw [List.length_map]; exact places_in (hok' x hx).2.2⟩, fun H5 s5 => ?_⟩
  have hS5 := (hS3.same sH4).same s5
  have s05 : Same H H5 := s1.trans (s2.trans (s3.trans (sH4.trans s5)))
  have nlf : lf ∉ SS S := by
   simp only [List.mem_cons, List.not_mem_nil, or_false]
   rintro (z | z | z)
   ·rw [z, hS3.ca] at hlf; cases hlf
   ·rw [z, hS3.na] at hlf; cases hlf
   ·rw [z, hS3.p] at hlf; cases hlf
  have nSS : ∀ b u, H5 b = some u → ¬ isMu u → b ∉ SS S := fun b u e m z => by
   obtain ⟨u', q', m'⟩ := hS5.mu b z
   rw [e] at q'; cases q'; exact m m'
  walk_at "w"
  refine ⟨lf, first, rfl, rfl, by omega, ⟨_, SqL.of (s5.at elf)⟩, ?_⟩
  refine forAt_enumS (xs := (ws.drop first).map V.ref) (fun i σ G => Kp (SS S) H5 G ∧ StAt a G S (doL cells (due.take i)) (markN notes first i) (cnt + wrN (due.take i)) .non ∧ ∃ (x6 x7 : Option V), σ = [some (.ref S.st), some (.ref p), some (.int ((cells.map V.int).length : Nat)), some (.ref l), some (.int first), some (.ref lf), x6, x7])
   ⟨Kp.of (Same.refl _), by simpa [doL, wrN, markN] using hS5, _, _, rfl⟩ (fun i σ G hi hP => SqL.of (hP.1 _ _ (s5.at elf) nlf)) (fun i x σ G Tt hx hP hTt => ?_) (fun σ G hP => ?_)
  ·obtain ⟨kp, hSG, x6, x7, rfl⟩ := hP
   rw [List.getElem?_map] at hx
   obtain ⟨u, hu, rfl⟩ := Option.map_eq_some_iff.mp hx
   obtain ⟨⟨r, cs⟩, hr', t', c', ⟨nc1, nc2⟩, h1, h2, h3⟩ := Paired.nth hws4 hu
   obtain ⟨hk, hcl, hcells⟩ := hok' _ (List.mem_of_getElem? hr')
   have kG : ∀ b u, H5 b = some u → ¬ isMu u → G b = some u := fun b u e m => kp b u e (nSS b u e m)
   have ncS : c' ∉ SS S := by
    simp only [List.mem_cons, List.not_mem_nil, or_false]
    rintro (z | z | z)
    ·rw [z, hS1.ca] at nc2; cases nc2
    ·rw [z, hS1.na] at nc2; cases nc2
    ·rw [z, hS1.p] at nc2; cases nc2
   have hcG : G c' = some (.lst (cs.map V.int)) := kp _ _ (s5.at h3) ncS
   have huG := kG _ _ (s5.at h1) (fun z => z)
   have htG : TupAt K G t' r := TupAt.kpS (h2.same s5) kG
   have hPdG := kG _ _ (s05.at hPd) (fun z => z)
   have hPwG := kG _ _ (s05.at hPw) (fun z => z)
   have hPnG := kG _ _ (s05.at hPn) (fun z => z)
   generalize hU : upd G Tt _ = G1
   have sT := Same.of_eq hTt hU
   have eT := at_of_eq hU
   clear hU
   walk_at "w"
   refine ⟨Tt, _, rfl, SqT.of eT, rfl, ?_⟩
   walk_at "w"
   refine ⟨_, _, rfl, ?_⟩
   walk_at "w"
   refine ⟨_, _, rfl, ?_⟩
   walk_at "w"
   refine And.intro rfl ?_
   walk_at "w"
   refine ⟨u, _, _, .ref t', rfl, rfl, SqT.of (sT.at huG), rfl, ?_⟩
   walk_at "w"
   refine ⟨t', r, rfl, htG.same sT, hk, fun ob G2 s2' hob hO => ?_⟩
   walk_at "w"
   refine ⟨u, _, _, .ref c', rfl, rfl, SqT.of (s2'.at (sT.at huG)), rfl, ?_⟩
   walk_at "w"
   have hSG1 := hSG.same sT
   have sT2 := sT.trans s2'
   refine ⟨S, ob, c', r, cs, _, _, _, rfl, sT2.at hPdG, sT2.at hPwG, hSG.same sT2, hO, (fun z => by rw [z, hSG1.p] at hob; cases hob), sT2.at hcG, ncS, (fun d hd => by rw [doL_len]; exact hcells d hd), fun G3 kp3 hS3' => ?_⟩
   walk_at "w"
   refine ⟨S.st, S.dx, _, rfl, hS3'.st, rfl, ?_⟩
   walk_at "w"
   have nS2 : P_Store_note_down ∉ SS S := nSS _ _ (s05.at hPn) (fun z => z)
   refine ⟨S, _, _, _, _, rfl, hS3', kp3 _ _ (sT2.at hPnG) nS2, by rw [markN_len]; exact hn2, fun G4 kp4 hS4 => ?_⟩
   walk_at "w"
   refine ⟨((kp.same sT2).trans kp3).trans kp4, ?_, _, _, rfl⟩
   rw [doL_take hr', wrN_take hr']
   rw [show cnt + ((wrN (due.take i) + (cs.length + 1) : Nat) : Int) = cnt + (wrN (due.take i) : Nat) + (cs.length : Nat) + 1 by omega]
   exact hS4
  ·obtain ⟨kp, hSG, x6, x7, rfl⟩ := hP
   rw [List.length_map, hwl, List.take_length] at hSG
   walk_at "w"
   refine ⟨lf, _, rfl, .inl (SqL.of (kp _ _ (s5.at elf) nlf)), ?_⟩
   walk_at "w"
   rw [List.length_map, hwl]
   exact k1 G (fun b u e n => kp b u (s05 b u e) n) hSG
theorem ok_Row_covers (T : Txt K mg a) : FnOk P w K mg base CX0 1 a.f_Row_covers a.d_Row_covers ["self"] (sp_covers K) := by
 refine T.F_Row_covers.ok sc_Row_covers (fun vs H Q E h => ?_) (fun cdv A outer s H vs Q E hr h => ?_)
 ·obtain ⟨p, C, dx, fs, to, c, rfl, _⟩ := h; rfl
 ·obtain ⟨p, C, dx, fs, to, c, rfl, hp, cl, n1, n2, l1, l2, k⟩ := h
  have nd := sc_Row_covers.nd
  refine ⟨_, (pss_one (ps_ret (pe_tup (pa_cons (pe_fld (cv 0) rfl) (pa_cons (pe_op o_add (pe_fld (cv 0) rfl) (pe_fld (cv 0) rfl)) pa_nil))))), ?_⟩
  walk_at "w"
  refine ⟨p, C, dx, fs, _, rfl, hp, cl, n1, l1, ?_⟩
  walk_at "w"
  refine ⟨p, C, dx, fs, _, rfl, hp, cl, n1, l1, ?_⟩
  walk_at "w"
  refine ⟨p, C, dx, fs, _, rfl, hp, cl, n2, l2, ?_⟩
  walk_at "w"
  exact ⟨by walk_at "side", k⟩
def readsT (to st c : Int) : List Int := if st = to then [] else rngI st c.toNat
def writesT (to st c : Int) : List Int := if st = to then [] else rngI to c.toNat
def sp_Treads (a : Adr) : Sp := fun vs H Q _ => ∃ (p dx : Addr) (to st c : Int), vs = [.ref p] ∧ H p = some (.ins a.C_Take dx (takeF to st c)) ∧ c.toNat ≤ 2 ^ 24 ∧ newL H Q (readsT to st c)
def sp_Twrites (a : Adr) : Sp := fun vs H Q _ => ∃ (p dx : Addr) (to st c : Int), vs = [.ref p] ∧ H p = some (.ins a.C_Take dx (takeF to st c)) ∧ c.toNat ≤ 2 ^ 24 ∧ newL H Q (writesT to st c)
def sp_Preads (a : Adr) : Sp := fun vs H Q _ => ∃ (p dx t : Addr) (to n : Int), vs = [.ref p] ∧ H p = some (.ins a.C_Put dx (putFs to t n)) ∧ newL H Q []
def sp_Pwrites (a : Adr) : Sp := fun vs H Q _ => ∃ (p dx t : Addr) (to n : Int), vs = [.ref p] ∧ H p = some (.ins a.C_Put dx (putFs to t n)) ∧ n.toNat ≤ 2 ^ 24 ∧ newL H Q (rngI to n.toNat)
theorem ok_Take_reads (T : Txt K mg a) : FnOk P w K mg base CX0 2 a.f_Take_reads a.d_Take_reads ["self"] (sp_Treads a) := by
 refine T.F_Take_reads.ok sc_Take_reads (fun vs H Q E h => ?_) (fun cdv A outer s H vs Q E hr h => ?_)
 ·obtain ⟨p, dx, to, st, c, rfl, _⟩ := h; rfl
 ·obtain ⟨p, dx, to, st, c, rfl, hp, hc, k⟩ := h
  have nd := sc_Take_reads.nd
  refine ⟨_, (pss_cons (cs_if (ct_val (pe_meth0 (cv 0) T.c_Take T.me_Take_stays (ok_Take_stays T) (hr.mono (by decide)) T.b_Take_stays .nil pass0)) (pss_one (ps_ret (pe_lst pa_nil))) pss_nil)
  (pss_one (ps_ret (pe_callTy (call_list_rng rfl) (by rfl) T.n_list bt_list (pa_cons (ce_range2 (by rfl) T.n_range (pa_cons (pe_fld (cv 0) rfl) (pa_cons (pe_op o_add (pe_fld (cv 0) rfl) (pe_fld (cv 0) rfl)) pa_nil))) pa_nil))))), ?_⟩
  walk_at "w"
  refine ⟨p, dx, _, rfl, hp, rfl, ?_⟩
  walk_at "w"
  refine ⟨p, dx, to, st, c, rfl, hp, ?_⟩
  walk_at "w"
  refine ⟨fun e => ?_, fun e => ?_⟩
  ·walk_at "w"
   refine ⟨by decide, fun l hl => ?_⟩
   have e' : st = to := of_decide_eq_true e
   exact k l _ (Same.new hl) hl (by rw [upd_same, readsT, if_pos e']; rfl)
  ·have e' : ¬ st = to := of_decide_eq_false e
   walk_at "w"
   refine ⟨p, _, dx, _, .int st, rfl, hp, T.c_Take, T.na_Take_source, rfl, ?_⟩
   walk_at "w"
   refine ⟨p, _, dx, _, .int st, rfl, hp, T.c_Take, T.na_Take_source, rfl, ?_⟩
   walk_at "w"
   refine ⟨p, _, dx, _, .int c, rfl, hp, T.c_Take, T.na_Take_count, rfl, ?_⟩
   walk_at "w"
   intro r hr1
   walk_at "w"
   have e2 : rngN st (st + c) 1 = c.toNat := by rw [rngN_one]; congr 1; omega
   refine ⟨r, st, st + c, rfl, upd_same, by rw [e2]; exact hc, fun l hl => ?_⟩
   rw [e2, rngV_eq]
   have hl0 : H l = none := Same.free (Same.new hr1) hl
   exact k l _ ((Same.new hr1).put hl0) hl0 (by rw [upd_same, readsT, if_neg e'])
theorem ok_Take_writes (T : Txt K mg a) : FnOk P w K mg base CX0 2 a.f_Take_writes a.d_Take_writes ["self"] (sp_Twrites a) := by
 refine T.F_Take_writes.ok sc_Take_writes (fun vs H Q E h => ?_) (fun cdv A outer s H vs Q E hr h => ?_)
 ·obtain ⟨p, dx, to, st, c, rfl, _⟩ := h; rfl
 ·obtain ⟨p, dx, to, st, c, rfl, hp, hc, k⟩ := h
  have nd := sc_Take_writes.nd
  refine ⟨_, (pss_cons (cs_if (ct_val (pe_meth0 (cv 0) T.c_Take T.me_Take_stays (ok_Take_stays T) (hr.mono (by decide)) T.b_Take_stays .nil pass0)) (pss_one (ps_ret (pe_lst pa_nil))) pss_nil)
  (pss_one (ps_ret (pe_meth0 (cv 0) T.c_Take T.me_Take_covered (ok_Row_covered T) (hr.mono (by decide)) T.b_Row_covered .nil pass0)))), ?_⟩
  walk_at "w"
  refine ⟨p, dx, _, rfl, hp, rfl, ?_⟩
  walk_at "w"
  refine ⟨p, dx, to, st, c, rfl, hp, ?_⟩
  walk_at "w"
  refine ⟨fun e => ?_, fun e => ?_⟩
  ·walk_at "w"
   refine ⟨by decide, fun l hl => ?_⟩
   have e' : st = to := of_decide_eq_true e
   exact k l _ (Same.new hl) hl (by rw [upd_same, writesT, if_pos e']; rfl)
  ·have e' : ¬ st = to := of_decide_eq_false e
   walk_at "w"
   refine ⟨p, dx, _, rfl, hp, rfl, ?_⟩
   walk_at "w"
   refine ⟨p, _, dx, _, to, c, rfl, hp, T.c_Take, T.na_Take_to, T.na_Take_count, rfl, rfl, hc, fun l H' s1 hl hv => ?_⟩
   exact k l H' s1 hl (by rw [hv, writesT, if_neg e'])
theorem ok_Put_reads (T : Txt K mg a) : FnOk P w K mg base CX0 1 a.f_Put_reads a.d_Put_reads ["self"] (sp_Preads a) := by
 refine T.F_Put_reads.ok sc_Put_reads (fun vs H Q E h => ?_) (fun cdv A outer s H vs Q E hr h => ?_)
 ·obtain ⟨p, dx, t, to, n, rfl, _⟩ := h; rfl
 ·obtain ⟨p, dx, t, to, n, rfl, hp, k⟩ := h
  have nd := sc_Put_reads.nd
  refine ⟨_, (pss_one (ps_ret (pe_lst pa_nil))), ?_⟩
  walk_at "w"
  exact ⟨by decide, fun l hl => k l _ (Same.new hl) hl (by rw [upd_same]; rfl)⟩
theorem ok_Put_writes (T : Txt K mg a) : FnOk P w K mg base CX0 2 a.f_Put_writes a.d_Put_writes ["self"] (sp_Pwrites a) := by
 refine T.F_Put_writes.ok sc_Put_writes (fun vs H Q E h => ?_) (fun cdv A outer s H vs Q E hr h => ?_)
 ·obtain ⟨p, dx, t, to, n, rfl, _⟩ := h; rfl
 ·obtain ⟨p, dx, t, to, n, rfl, hp, hn, k⟩ := h
  have nd := sc_Put_writes.nd
  refine ⟨_, (pss_one (ps_ret (pe_meth0 (cv 0) T.c_Put T.me_Put_covered (ok_Row_covered T) (hr.mono (by decide)) T.b_Row_covered .nil pass0))), ?_⟩
  walk_at "w"
  refine ⟨p, dx, _, rfl, hp, rfl, ?_⟩
  walk_at "w"
  exact ⟨p, _, dx, _, to, n, rfl, hp, T.c_Put, T.na_Put_to, T.na_Put_count, rfl, rfl, hn, k⟩
def InD (kvs : List (Key × V)) (seen : List Int) : Prop := ∀ c : Int, (valV kvs (.inl c)).isSome = decide (c ∈ seen)
theorem InD.nil : InD [] [] := fun c => by simp [valV_nil]
theorem InD.put {kvs : List (Key × V)} {seen : List Int} (h : InD kvs seen) (c : Int) (v : V) : InD (putK kvs (.inl c) v) (c :: seen) := by
 intro x
 rw [valV_put]
 by_cases e : x = c
 ·subst e
  rw [if_pos rfl]; simp
 ·rw [if_neg (fun z => e (by cases z; rfl)), h x]
  congr 1
  exact propext ⟨fun z => List.mem_cons_of_mem _ z, fun z => (List.mem_cons.mp z).resolve_left e⟩
theorem putK_len (kvs : List (Key × V)) (k : Key) (v : V) : (putK kvs k v).length ≤ kvs.length + 1 := by
 unfold putK
 split
 ·rw [List.length_map]; omega
 ·rw [List.length_append]; simp
theorem callCov (T : Txt K mg a) {H : Hp} {o : Addr} {r : RowD} {Q : VK} {σ : L2.St} {i : Nat} (ho : ObjAt K a H o r) (hl : r.cv.length ≤ 300)
  (k : ∀ l H', Same H H' → H l = none → H' l = some (.lst (r.cv.map V.int)) → Q (.ref l) H') (hσ : σ[i]? = some (some (.ref o)) := by rfl) :
  tMeth a.C_Put "covered" (sp_covered K) [] E0 (cVar i) tNil σ H Q ∨ tMeth a.C_Take "covered" (sp_covered K) [] E0 (cVar i) tNil σ H Q := by
 cases r with
 | put to sg =>
  obtain ⟨dx, u, h1, h2⟩ := ho
  left
  unfold tMeth cVar
  rw [hσ]
  have e : (sg.length : Int).toNat = sg.length := by simp
  have hl' : sg.length ≤ 300 := by rw [show RowD.cv (.put to sg) = rngI to sg.length from rfl, rngI_length] at hl; exact hl
  refine ⟨o, dx, _, rfl, h1, rfl, o, a.C_Put, dx, _, to, sg.length, rfl, h1, T.c_Put, T.na_Put_to, T.na_Put_count, rfl, rfl, by rw [e]; exact Nat.le_trans hl' (by decide), fun l H' s n eL => k l H' s n ?_⟩
  rw [e] at eL; exact eL
 | take to st c =>
  obtain ⟨dx, h1⟩ := ho
  right
  unfold tMeth cVar
  rw [hσ]
  have hl' : c.toNat ≤ 300 := by rw [show RowD.cv (.take to st c) = rngI to c.toNat from rfl, rngI_length] at hl; exact hl
  exact ⟨o, dx, _, rfl, h1, rfl, o, a.C_Take, dx, _, to, c, rfl, h1, T.c_Take, T.na_Take_to, T.na_Take_count, rfl, rfl, Nat.le_trans hl' (by decide), fun l H' s n eL => k l H' s n eL⟩
theorem num_drop (k : Nat) (all : List (List Int)) (cs : List Int) (h : all[0]? = some cs) : num k all = cs.map (fun c => (k, c)) ++ num (k + 1) (all.drop 1) := by
 cases all with
 | nil => simp at h
 | cons x r => simp at h; subst h; rfl
theorem ok_covered_twice (T : Txt K mg a) : FnOk P w K mg base CX0 2 a.f_covered_twice a.d_covered_twice ["rows"] (sp_twice K a) := by
 refine T.F_covered_twice.ok sc_covered_twice (fun vs H Q E h => ?_) (fun cdv A outer s H vs Q E hr h => ?_)
 ·obtain ⟨l, rs, rfl, _⟩ := h; rfl
 ·obtain ⟨l, rs, rfl, ⟨ts, hl, hp⟩, ⟨hr1, hr2⟩, hN, q⟩ := h
  have nd := sc_covered_twice.nd
  refine ⟨_, (pss_cons (ps_set (i := 1) nd rfl (Or.inl rfl) pe_dnewK)
  (pss_cons (cs_for PassesOwn.never rfl (pi_enum (by rfl) T.n_enumerate (pa_cons (cv 0) pa_nil)) (pg_tup rfl (pgs_cons (pg_name (i := 2) nd rfl (Or.inl rfl)) (pgs_cons (pg_name (i := 3) nd rfl (Or.inl rfl)) pgs_nil))) (pss_one (cs_for PassesOwn.never rfl (pi_list (pe_alt (pe_meth0 (cv 3) T.c_Put T.me_Put_covered (ok_Row_covered T) (hr.mono (by decide)) T.b_Row_covered .nil pass0) (pe_meth0 (cv 3) T.c_Take T.me_Take_covered (ok_Row_covered T) (hr.mono (by decide)) T.b_Row_covered .nil pass0))) (pg_name (i := 4) nd rfl (Or.inl rfl)) (pss_cons (cs_if (ct_pc (pc_din (hu_of hr) (cv 4) (cv 1)) (by rfl)) pss_dead pss_nil)
  (pss_one (ps_dput (hu_of hr) (cv 1) (cv 4) pe_bl rfl))))))
  (pss_one (ps_ret pe_non)))), ?_⟩
  walk_at "w"
  intro d hd'
  generalize hU0 : upd H d _ = H1
  have sH1 := Same.of_eq hd' hU0
  have ed := at_of_eq hU0
  clear hU0
  walk_at "w"
  have htl : ts.length = rs.length := hp.length
  refine ⟨l, rfl, ⟨_, sH1.seq hl⟩, ?_⟩
  walk_at "w"
  refine forAt_enumL (xs := ts.map V.ref) (fun i σ G => Same H G ∧ (∃ kvs seen, G d = some (.dK kvs) ∧ InD kvs seen ∧ kvs.length ≤ i * 300 ∧ twiceF rs = tw (num i ((rs.map RowD.cv).drop i)) seen) ∧ ∃ x2 x3 x4, σ = [some (.ref l), some (.ref d), x2, x3, x4]) ⟨sH1, ⟨[], [], ed, InD.nil, by simp, rfl⟩, _, _, _, rfl⟩ (fun i σ G hi hP => hP.1.seq hl) (fun i x σ G T0 hx hP hT0 => ?_) (fun σ G hP => ?_)
  ·obtain ⟨s1, ⟨kvs, seen, hd, hin, hkl, htw⟩, x2, x3, x4, rfl⟩ := hP
   rw [List.getElem?_map] at hx
   obtain ⟨o, ho, rfl⟩ := Option.map_eq_some_iff.mp hx
   have hi : i < ts.length := (List.getElem?_eq_some_iff.mp ho).1
   obtain ⟨r, hr, hob⟩ := Paired.nth hp ho
   generalize hU : upd G T0 _ = G2
   have s2 := Same.of_eq hT0 hU
   have eT := at_of_eq hU
   clear hU
   walk_at "w"
   refine ⟨T0, _, rfl, SqT.of eT, rfl, ?_⟩
   walk_at "w"
   refine ⟨_, _, rfl, ?_⟩
   walk_at "w"
   refine ⟨_, _, rfl, ?_⟩
   walk_at "w"
   refine And.intro rfl ?_
   walk_at "w"
   have hrm : r ∈ rs := List.mem_of_getElem? hr
   refine callCov (K := K) T (r := r) (hob.same (s1.trans s2)) (hr2 r hrm).1 fun L G3 s3 hL eL => ?_
   walk_at "w"
   refine ⟨L, rfl, ⟨_, SqL.of eL⟩, ?_⟩
   walk_at "w"
   have hd3 : G3 d = some (.dK kvs) := s3.at (s2.at hd)
   have nLd : L ≠ d := ne_of eL hd3 (fun z => by cases z)
   have hdr : ((rs.map RowD.cv).drop i)[0]? = some r.cv := by rw [List.getElem?_drop, Nat.add_zero, List.getElem?_map, hr]; rfl
   rw [num_drop i _ _ hdr, List.drop_drop] at htw
   refine forAt_list (xs := r.cv.map V.int) (fun j σ G4 => Same H G4 ∧ G4 L = some (.lst (r.cv.map V.int)) ∧ (∃ kvs seen, G4 d = some (.dK kvs) ∧ InD kvs seen ∧ kvs.length ≤ i * 300 + j ∧ twiceF rs = tw ((r.cv.drop j).map (fun c => (i, c)) ++ num (i + 1) ((rs.map RowD.cv).drop (i + 1))) seen) ∧ ∃ x4, σ = [some (.ref l), some (.ref d), some (.int i), some (.ref o), x4])
    ⟨s1.trans (s2.trans s3), eL, ⟨kvs, seen, hd3, hin, by omega, by rw [List.drop_zero]; exact htw⟩, _, rfl⟩ (fun j σ G4 hj hQ => SqL.of hQ.2.1) (fun j x σ G4 hx hQ => ?_) (fun σ G4 hQ => ?_)
   ·obtain ⟨s4, eL4, ⟨kvs4, seen4, hd4, hin4, hk4, htw4⟩, x4, rfl⟩ := hQ
    rw [List.getElem?_map] at hx
    obtain ⟨c, hc, rfl⟩ := Option.map_eq_some_iff.mp hx
    have hj : j < r.cv.length := (List.getElem?_eq_some_iff.mp hc).1
    have hb := (hr2 r hrm).1
    have ecut : r.cv.drop j = c :: r.cv.drop (j + 1) := by
     rw [List.drop_eq_getElem_cons hj, (List.getElem?_eq_some_iff.mp hc).2]
    rw [ecut, List.map_cons, List.cons_append, tw] at htw4
    walk_at "w"
    refine ⟨d, _, rfl, DGet.k (k := Sum.inl c) hd4, ?_⟩
    walk_at "w"
    rw [hin4 c]
    refine ⟨fun e => ?_, fun e => ?_⟩
    ·have e' := of_decide_eq_true e
     rw [if_pos e'] at htw4
     rw [htw4] at hN
     cases hN
    ·have e' := of_decide_eq_false e
     rw [if_neg e'] at htw4
     walk_at "w"
     refine ⟨d, _, rfl, DPut.k (k := Sum.inl c) hd4 (by rw [sizeLine_eq]; omega), ?_⟩
     generalize hV : upd G4 d _ = G5
     have s5 : Same H G5 := Same.wr s4 hd' hV
     have eL5 : G5 L = some (.lst (r.cv.map V.int)) := by rw [← hV, upd_ne nLd]; exact eL4
     have hd5 := at_of_eq hV
     clear hV
     have := putK_len kvs4 (Sum.inl c) (.bl true)
     exact ⟨s5, eL5, ⟨_, _, hd5, hin4.put c _, by omega, htw4⟩, _, rfl⟩
   ·obtain ⟨s4, eL4, ⟨kvs4, seen4, hd4, hin4, hk4, htw4⟩, x4, rfl⟩ := hQ
    rw [List.length_map] at hk4 htw4
    rw [List.drop_length] at htw4
    have hb := (hr2 r hrm).1
    exact ⟨s4, ⟨kvs4, seen4, hd4, hin4, by omega, htw4⟩, _, _, _, rfl⟩
  ·obtain ⟨s1, ⟨kvs, seen, hd, hin, hkl, htw⟩, x2, x3, x4, rfl⟩ := hP
   have e0 : (rs.map RowD.cv).drop (ts.map V.ref).length = [] := by
    rw [List.length_map, htl]
    exact List.drop_eq_nil_of_le (by rw [List.length_map]; exact Nat.le_refl _)
   rw [e0] at htw
   have e1 : twiceF rs = none := htw
   rw [e1] at q
   exact q G s1
theorem callRds (T : Txt K mg a) {H : Hp} {o : Addr} {r : RowD} {Q : VK} {σ : L2.St} {i : Nat} (ho : ObjAt K a H o r) (hc : r.cv.length ≤ 300)
  (k : ∀ l H', Same H H' → H l = none → H' l = some (.lst (r.rds.map V.int)) → Q (.ref l) H') (hσ : σ[i]? = some (some (.ref o)) := by rfl) :
  tMeth a.C_Put "reads" (sp_Preads a) [] E0 (cVar i) tNil σ H Q ∨ tMeth a.C_Take "reads" (sp_Treads a) [] E0 (cVar i) tNil σ H Q := by
 cases r with
 | put to sg =>
  obtain ⟨dx, u, h1, h2⟩ := ho
  left
  unfold tMeth cVar
  rw [hσ]
  exact ⟨o, dx, _, rfl, h1, rfl, o, dx, u, to, sg.length, rfl, h1, fun l H' s n eL => k l H' s n eL⟩
 | take to st c =>
  obtain ⟨dx, h1⟩ := ho
  right
  unfold tMeth cVar
  rw [hσ]
  have hl' : c.toNat ≤ 300 := by rw [show RowD.cv (.take to st c) = rngI to c.toNat from rfl, rngI_length] at hc; exact hc
  exact ⟨o, dx, _, rfl, h1, rfl, o, dx, to, st, c, rfl, h1, Nat.le_trans hl' (by decide), fun l H' s n eL => k l H' s n eL⟩
theorem callWrs (T : Txt K mg a) {H : Hp} {o : Addr} {r : RowD} {Q : VK} {σ : L2.St} {i : Nat} (ho : ObjAt K a H o r) (hc : r.cv.length ≤ 300)
  (k : ∀ l H', Same H H' → H l = none → H' l = some (.lst (r.wrs.map V.int)) → Q (.ref l) H') (hσ : σ[i]? = some (some (.ref o)) := by rfl) :
  tMeth a.C_Put "writes" (sp_Pwrites a) [] E0 (cVar i) tNil σ H Q ∨ tMeth a.C_Take "writes" (sp_Twrites a) [] E0 (cVar i) tNil σ H Q := by
 cases r with
 | put to sg =>
  obtain ⟨dx, u, h1, h2⟩ := ho
  left
  unfold tMeth cVar
  rw [hσ]
  have e : (sg.length : Int).toNat = sg.length := by simp
  have hl' : sg.length ≤ 300 := by rw [show RowD.cv (.put to sg) = rngI to sg.length from rfl, rngI_length] at hc; exact hc
  refine ⟨o, dx, _, rfl, h1, rfl, o, dx, u, to, sg.length, rfl, h1, by rw [e]; exact Nat.le_trans hl' (by decide), fun l H' s n eL => k l H' s n ?_⟩
  rw [e] at eL; exact eL
 | take to st c =>
  obtain ⟨dx, h1⟩ := ho
  right
  unfold tMeth cVar
  rw [hσ]
  have hl' : c.toNat ≤ 300 := by rw [show RowD.cv (.take to st c) = rngI to c.toNat from rfl, rngI_length] at hc; exact hc
  exact ⟨o, dx, _, rfl, h1, rfl, o, dx, to, st, c, rfl, h1, Nat.le_trans hl' (by decide), fun l H' s n eL => k l H' s n eL⟩
theorem find_skip {ls : List Int} {p : Int → Bool} {j : Nat} (h : ∀ i, i < j → ∀ c, ls[i]? = some c → p c = false) : ls.find? p = (ls.drop j).find? p := by
 induction j with
 | zero => rfl
 | succ j ih =>
  rw [ih fun i hi => h i (by omega)]
  by_cases hj : j < ls.length
  ·have hc : ls[j]? = some ls[j] := List.getElem?_eq_getElem hj
   rw [List.drop_eq_getElem_cons hj, List.find?_cons, h j (by omega) _ hc]
  ·rw [List.drop_eq_nil_of_le (by omega), List.drop_eq_nil_of_le (by omega)]
theorem ok_lacking (T : Txt K mg a) : FnOk P w K mg base CX0 2 a.f_lacking a.d_lacking ["rows", "new"] (sp_lacking K a) := by
 refine T.F_lacking.ok sc_lacking (fun vs H Q E h => ?_) (fun cdv A outer s H vs Q E hr h => ?_)
 ·obtain ⟨l, rs, new, rfl, _⟩ := h; rfl
 ·obtain ⟨l, rs, new, rfl, ⟨ts, hl, hp⟩, ⟨hr1, hr2⟩, hnew, hN, q⟩ := h
  have nd := sc_lacking.nd
  refine ⟨_, (pss_cons (ps_set (i := 2) nd rfl (Or.inl rfl) pe_dnewK)
  (pss_cons (cs_for PassesOwn.never rfl (pi_list (cv 0)) (pg_name (i := 3) nd rfl (Or.inl rfl)) (pss_one (cs_for PassesOwn.never rfl (pi_list (pe_alt (pe_meth0 (cv 3) T.c_Put T.me_Put_covered (ok_Row_covered T) (hr.mono (by decide)) T.b_Row_covered .nil pass0) (pe_meth0 (cv 3) T.c_Take T.me_Take_covered (ok_Row_covered T) (hr.mono (by decide)) T.b_Row_covered .nil pass0))) (pg_name (i := 4) nd rfl (Or.inl rfl)) (pss_one (ps_dput (hu_of hr) (cv 2) (cv 4) pe_bl rfl)))))
  (pss_cons (cs_for PassesOwn.never rfl (ci_range1 (by rfl) T.n_range (pa_cons (cv 1) pa_nil)) (pg_name (i := 4) nd rfl (Or.inl rfl)) (pss_one (cs_if (ct_pc (pc_dnotin (hu_of hr) (cv 4) (cv 2)) (by rfl)) pss_dead pss_nil)))
  (pss_one (ps_ret pe_non))))), ?_⟩
  walk_at "w"
  intro d hd'
  generalize hU0 : upd H d _ = H1
  have sH1 := Same.of_eq hd' hU0
  have ed := at_of_eq hU0
  clear hU0
  walk_at "w"
  have htl : ts.length = rs.length := hp.length
  refine ⟨l, rfl, ⟨_, sH1.seq hl⟩, ?_⟩
  walk_at "w"
  refine forAt_list (xs := ts.map V.ref) (fun i σ G => Same H G ∧ (∃ kvs seen, G d = some (.dK kvs) ∧ InD kvs seen ∧ kvs.length ≤ i * 300 ∧ ∀ c, c ∈ seen ↔ c ∈ ((rs.map RowD.cv).take i).flatten) ∧ ∃ x3 x4, σ = [some (.ref l), some (.int new), some (.ref d), x3, x4]) ⟨sH1, ⟨[], [], ed, InD.nil, by simp, fun c => by simp⟩, _, _, rfl⟩ (fun i σ G hi hP => hP.1.seq hl) (fun i x σ G hx hP => ?_) (fun σ G hP => ?_)
  ·obtain ⟨s1, ⟨kvs, seen, hd, hin, hkl, hse⟩, x3, x4, rfl⟩ := hP
   rw [List.getElem?_map] at hx
   obtain ⟨o, ho, rfl⟩ := Option.map_eq_some_iff.mp hx
   obtain ⟨r, hr, hob⟩ := Paired.nth hp ho
   have hrm : r ∈ rs := List.mem_of_getElem? hr
   have hi : i < ts.length := (List.getElem?_eq_some_iff.mp ho).1
   walk_at "w"
   refine callCov (K := K) T (r := r) (hob.same s1) (hr2 r hrm).1 fun L G3 s3 hL eL => ?_
   walk_at "w"
   refine ⟨L, rfl, ⟨_, SqL.of eL⟩, ?_⟩
   walk_at "w"
   have hd3 : G3 d = some (.dK kvs) := s3.at hd
   have nLd : L ≠ d := ne_of eL hd3 (fun z => by cases z)
   refine forAt_list (xs := r.cv.map V.int) (fun j σ G4 => Same H G4 ∧ G4 L = some (.lst (r.cv.map V.int)) ∧ (∃ kvs seen, G4 d = some (.dK kvs) ∧ InD kvs seen ∧ kvs.length ≤ i * 300 + j ∧ ∀ c, c ∈ seen ↔ c ∈ ((rs.map RowD.cv).take i).flatten ++ r.cv.take j) ∧ ∃ x4, σ = [some (.ref l), some (.int new), some (.ref d), some (.ref o), x4])
    ⟨s1.trans s3, eL, ⟨kvs, seen, hd3, hin, by omega, fun c => by rw [List.take_zero, List.append_nil]; exact hse c⟩, _, rfl⟩ (fun j σ G4 hj hQ => SqL.of hQ.2.1) (fun j x σ G4 hx hQ => ?_) (fun σ G4 hQ => ?_)
   ·obtain ⟨s4, eL4, ⟨kvs4, seen4, hd4, hin4, hk4, hse4⟩, x4, rfl⟩ := hQ
    rw [List.getElem?_map] at hx
    obtain ⟨c, hc, rfl⟩ := Option.map_eq_some_iff.mp hx
    have hj : j < r.cv.length := (List.getElem?_eq_some_iff.mp hc).1
    have hb := (hr2 r hrm).1
    walk_at "w"
    refine ⟨d, _, rfl, DPut.k (k := Sum.inl c) hd4 (by rw [sizeLine_eq]; omega), ?_⟩
    generalize hV : upd G4 d _ = G5
    have s5 : Same H G5 := Same.wr s4 hd' hV
    have eL5 : G5 L = some (.lst (r.cv.map V.int)) := by rw [← hV, upd_ne nLd]; exact eL4
    have hd5 := at_of_eq hV
    clear hV
    have := putK_len kvs4 (Sum.inl c) (.bl true)
    refine ⟨s5, eL5, ⟨_, _, hd5, hin4.put c _, by omega, fun y => ?_⟩, _, rfl⟩
    rw [List.take_succ, hc, ← List.append_assoc, List.mem_append, List.mem_cons, hse4 y]
    simp [or_comm]
   ·obtain ⟨s4, eL4, ⟨kvs4, seen4, hd4, hin4, hk4, hse4⟩, x4, rfl⟩ := hQ
    rw [List.length_map] at hk4 hse4
    rw [List.take_length] at hse4
    have hb := (hr2 r hrm).1
    refine ⟨s4, ⟨kvs4, seen4, hd4, hin4, by omega, fun c => ?_⟩, _, _, rfl⟩
    rw [hse4 c, List.take_succ, List.getElem?_map, hr, List.flatten_append]
    simp
  ·obtain ⟨s1, ⟨kvs, seen, hd, hin, hkl, hse⟩, x3, x4, rfl⟩ := hP
   rw [List.length_map] at hse
   have hse' : ∀ c, c ∈ seen ↔ c ∈ (rs.map RowD.cv).flatten := fun c => by
    rw [hse c, htl]
    rw [List.take_of_length_le (by rw [List.length_map]; exact Nat.le_refl _)]
   walk_at "w"
   have en : rngN 0 ((new : Nat) : Int) 1 = new := by rw [rngN_one]; omega
   rw [en]
   refine forAt_its (fun i σ G2 => G2 = G ∧ (∀ j, j < i → ((j : Nat) : Int) ∈ (rs.map RowD.cv).flatten) ∧ ∃ x4, σ = [some (.ref l), some (.int new), some (.ref d), x3, x4]) ⟨rfl, fun j hj => absurd hj (Nat.not_lt_zero _), _, rfl⟩ (fun i σ G2 hi hQ => ?_) (fun σ G2 hQ => ?_)
   ·obtain ⟨rfl, hall, x4, rfl⟩ := hQ
    have ei : (0 + (i : Int) * 1) = (i : Int) := by omega
    rw [ei]
    walk_at "w"
    refine ⟨d, _, rfl, DGet.k (k := Sum.inl (i : Int)) hd, ?_⟩
    walk_at "w"
    rw [hin]
    refine ⟨fun e => ?_, fun e => ?_⟩
    ·have e' : ¬ (i : Int) ∈ seen := by simpa using e
     have ef : lacksF rs new = some (i : Int) := by
      unfold lacksF
      rw [find_skip (j := i) (fun j hj c hc => ?_), List.drop_eq_getElem_cons (by simp; exact hi), List.find?_cons]
      ·simp only [List.getElem_map, List.getElem_range]
       have : ¬ (i : Int) ∈ (rs.map RowD.cv).flatten := fun z => e' ((hse' _).mpr z)
       simp only [decide_eq_false this]
       rfl
      ·rw [List.getElem?_map, List.getElem?_range (by omega)] at hc
       cases hc
       simp only [decide_eq_true (hall j hj)]
       rfl
     rw [ef] at hN
     cases hN
    ·have e' : (i : Int) ∈ seen := by simpa using e
     refine ⟨rfl, fun j hj => ?_, _, rfl⟩
     by_cases hji : j = i
     ·rw [hji]; exact (hse' _).mp e'
     ·exact hall j (by omega)
   ·obtain ⟨rfl, hall, x4, rfl⟩ := hQ
    have ef : lacksF rs new = none := by
     unfold lacksF
     rw [List.find?_eq_none]
     intro c hc
     obtain ⟨j, hj, rfl⟩ := List.mem_map.mp hc
     simp [hall j (List.mem_range.mp hj)]
    rw [ef] at q
    exact q G2 s1
theorem lateS_cons (k : Nat) (rs : List RowD) (r : RowD) (wr : List Int) (h : rs[0]? = some r) : lateS k rs wr = match r.rds.find? fun c => decide (c ∈ wr) with
  | some c => some (k, c)
  | none => lateS (k + 1) (rs.drop 1) (wr ++ r.wrs) := by
 cases rs with
 | nil => simp at h
 | cons x t => simp at h; subst h; rfl
theorem lateS_ext : ∀ (k : Nat) (rs : List RowD) (w1 w2 : List Int), (∀ c, c ∈ w1 ↔ c ∈ w2) → lateS k rs w1 = lateS k rs w2
 | _, [], _, _, _ => rfl
 | k, r :: t, w1, w2, h => by
  unfold lateS
  have e : (fun c => decide (c ∈ w1)) = fun c => decide (c ∈ w2) := funext fun c => by congr 1; exact propext (h c)
  rw [e]
  cases r.rds.find? fun c => decide (c ∈ w2) with
  | some c => rfl
  | none => exact lateS_ext (k + 1) t _ _ fun c => by rw [List.mem_append, List.mem_append, h c]
theorem ok_read_late (T : Txt K mg a) : FnOk P w K mg base CX0 3 a.f_read_late a.d_read_late ["rows"] (sp_late K a) := by
 refine T.F_read_late.ok sc_read_late (fun vs H Q E h => ?_) (fun cdv A outer s H vs Q E hr h => ?_)
 ·obtain ⟨l, rs, rfl, _⟩ := h; rfl
 ·obtain ⟨l, rs, rfl, ⟨ts, hl, hp⟩, ⟨hr1, hr2⟩, q⟩ := h
  have nd := sc_read_late.nd
  refine ⟨_, (pss_cons (ps_set (i := 1) nd rfl (Or.inl rfl) pe_dnewK)
  (pss_cons (cs_for PassesOwn.never rfl (pi_enum (by rfl) T.n_enumerate (pa_cons (cv 0) pa_nil)) (pg_tup rfl (pgs_cons (pg_name (i := 2) nd rfl (Or.inl rfl)) (pgs_cons (pg_name (i := 3) nd rfl (Or.inl rfl)) pgs_nil))) (pss_cons (cs_for PassesOwn.never rfl (pi_list (pe_alt (pe_meth0 (cv 3) T.c_Put T.me_Put_reads (ok_Put_reads T) (hr.mono (by decide)) T.b_Put_reads .nil pass0) (pe_meth0 (cv 3) T.c_Take T.me_Take_reads (ok_Take_reads T) (hr.mono (by decide)) T.b_Take_reads .nil pass0))) (pg_name (i := 4) nd rfl (Or.inl rfl)) (pss_one (cs_if (ct_pc (pc_din (hu_of hr) (cv 4) (cv 1)) (by rfl)) (pss_one (ps_ret (pe_tup (pa_cons pe_str (pa_cons (cv 2) (pa_cons (cv 4) pa_nil)))))) pss_nil)))
  (pss_one (cs_for PassesOwn.never rfl (pi_list (pe_alt (pe_meth0 (cv 3) T.c_Put T.me_Put_writes (ok_Put_writes T) (hr.mono (by decide)) T.b_Put_writes .nil pass0) (pe_meth0 (cv 3) T.c_Take T.me_Take_writes (ok_Take_writes T) (hr.mono (by decide)) T.b_Take_writes .nil pass0))) (pg_name (i := 4) nd rfl (Or.inl rfl)) (pss_one (ps_dput (hu_of hr) (cv 1) (cv 4) pe_bl rfl))))))
  (pss_one (ps_ret pe_non)))), ?_⟩
  walk_at "w"
  intro d hd'
  generalize hU0 : upd H d _ = H1
  have sH1 := Same.of_eq hd' hU0
  have ed := at_of_eq hU0
  clear hU0
  walk_at "w"
  have htl : ts.length = rs.length := hp.length
  refine ⟨l, rfl, ⟨_, sH1.seq hl⟩, ?_⟩
  walk_at "w"
  refine forAt_enumL (xs := ts.map V.ref) (fun i σ G => Same H G ∧ (∃ kvs seen, G d = some (.dK kvs) ∧ InD kvs seen ∧ kvs.length ≤ i * 300 ∧ lateF rs = lateS i (rs.drop i) seen) ∧ ∃ x2 x3 x4, σ = [some (.ref l), some (.ref d), x2, x3, x4]) ⟨sH1, ⟨[], [], ed, InD.nil, by simp, rfl⟩, _, _, _, rfl⟩ (fun i σ G hi hP => hP.1.seq hl) (fun i x σ G T0 hx hP hT0 => ?_) (fun σ G hP => ?_)
  ·obtain ⟨s1, ⟨kvs, seen, hd, hin, hkl, hla⟩, x2, x3, x4, rfl⟩ := hP
   rw [List.getElem?_map] at hx
   obtain ⟨o, ho, rfl⟩ := Option.map_eq_some_iff.mp hx
   obtain ⟨r, hr, hob⟩ := Paired.nth hp ho
   have hrm : r ∈ rs := List.mem_of_getElem? hr
   generalize hU : upd G T0 _ = G2
   have s2 := Same.of_eq hT0 hU
   have eT := at_of_eq hU
   clear hU
   have hdr : (rs.drop i)[0]? = some r := by rw [List.getElem?_drop, Nat.add_zero]; exact hr
   rw [lateS_cons i _ r seen hdr, List.drop_drop] at hla
   walk_at "w"
   refine ⟨T0, _, rfl, SqT.of eT, rfl, ?_⟩
   walk_at "w"
   refine ⟨_, _, rfl, ?_⟩
   walk_at "w"
   refine ⟨_, _, rfl, ?_⟩
   walk_at "w"
   refine And.intro rfl ?_
   walk_at "w"
   refine callRds (K := K) T (r := r) (hob.same (s1.trans s2)) (hr2 r hrm).1 fun L G3 s3 hL eL => ?_
   walk_at "w"
   refine ⟨L, rfl, ⟨_, SqL.of eL⟩, ?_⟩
   walk_at "w"
   have hd3 : G3 d = some (.dK kvs) := s3.at (s2.at hd)
   have s13 : Same H G3 := s1.trans (s2.trans s3)
   refine forAt_list (xs := r.rds.map V.int) (fun j σ G4 => G4 = G3 ∧ (∀ i', i' < j → ∀ c, r.rds[i']? = some c → decide (c ∈ seen) = false) ∧ ∃ x4, σ = [some (.ref l), some (.ref d), some (.int i), some (.ref o), x4])
    ⟨rfl, fun j hj => absurd hj (Nat.not_lt_zero _), _, rfl⟩ (fun j σ G4 hj hQ => by rw [hQ.1]; exact SqL.of eL) (fun j x σ G4 hx hQ => ?_) (fun σ G4 hQ => ?_)
   ·obtain ⟨rfl, hno, x4, rfl⟩ := hQ
    rw [List.getElem?_map] at hx
    obtain ⟨c, hc, rfl⟩ := Option.map_eq_some_iff.mp hx
    have hj : j < r.rds.length := (List.getElem?_eq_some_iff.mp hc).1
    walk_at "w"
    refine ⟨d, _, rfl, DGet.k (k := Sum.inl c) hd3, ?_⟩
    walk_at "w"
    rw [hin c]
    refine ⟨fun e => ?_, fun e => ?_⟩
    ·have ef : r.rds.find? (fun c => decide (c ∈ seen)) = some c := by
      rw [find_skip (j := j) hno, List.drop_eq_getElem_cons hj, List.find?_cons, (List.getElem?_eq_some_iff.mp hc).2, e]
     rw [ef] at hla
     rw [hla] at q
     walk_at "w"
     walk_at "ss"
     intro t ht
     exact q t _ (s13.trans (Same.new ht)) upd_same
    ·refine ⟨rfl, fun i' hi' c' hc' => ?_, _, rfl⟩
     by_cases hji : i' = j
     ·rw [hji, hc] at hc'; cases hc'; exact e
     ·exact hno i' (by omega) c' hc'
   ·obtain ⟨rfl, hno, x4, rfl⟩ := hQ
    rw [List.length_map] at hno
    have ef : r.rds.find? (fun c => decide (c ∈ seen)) = none := by
     rw [find_skip (j := r.rds.length) hno, List.drop_length]; rfl
    rw [ef] at hla
    walk_at "w"
    refine callWrs (K := K) T (r := r) (hob.same s13) (hr2 r hrm).1 fun L2 G5 s5 hL2 eL2 => ?_
    walk_at "w"
    refine ⟨L2, rfl, ⟨_, SqL.of eL2⟩, ?_⟩
    walk_at "w"
    have hd5 : G5 d = some (.dK kvs) := s5.at hd3
    have nLd : L2 ≠ d := ne_of eL2 hd5 (fun z => by cases z)
    have hwl := (hr2 r hrm).2.2
    refine forAt_list (xs := r.wrs.map V.int) (fun j σ G6 => Same H G6 ∧ G6 L2 = some (.lst (r.wrs.map V.int)) ∧ (∃ kvs' seen', G6 d = some (.dK kvs') ∧ InD kvs' seen' ∧ kvs'.length ≤ i * 300 + j ∧ ∀ c, c ∈ seen' ↔ c ∈ seen ++ r.wrs.take j) ∧ ∃ x4, σ = [some (.ref l), some (.ref d), some (.int i), some (.ref o), x4])
     ⟨s13.trans s5, eL2, ⟨kvs, seen, hd5, hin, by omega, fun c => by rw [List.take_zero, List.append_nil]⟩, _, rfl⟩ (fun j σ G6 hj hQ => SqL.of hQ.2.1) (fun j x σ G6 hx hQ => ?_) (fun σ G6 hQ => ?_)
    ·obtain ⟨s6, eL6, ⟨kvs6, seen6, hd6, hin6, hk6, hse6⟩, x4, rfl⟩ := hQ
     rw [List.getElem?_map] at hx
     obtain ⟨c, hc, rfl⟩ := Option.map_eq_some_iff.mp hx
     have hj : j < r.wrs.length := (List.getElem?_eq_some_iff.mp hc).1
     have hi : i < ts.length := (List.getElem?_eq_some_iff.mp ho).1
     walk_at "w"
     refine ⟨d, _, rfl, DPut.k (k := Sum.inl c) hd6 (by rw [sizeLine_eq]; omega), ?_⟩
     generalize hV : upd G6 d _ = G7
     have s7 : Same H G7 := Same.wr s6 hd' hV
     have eL7 : G7 L2 = some (.lst (r.wrs.map V.int)) := by rw [← hV, upd_ne nLd]; exact eL6
     have hd7 := at_of_eq hV
     clear hV
     have := putK_len kvs6 (Sum.inl c) (.bl true)
     refine ⟨s7, eL7, ⟨_, _, hd7, hin6.put c _, by omega, fun y => ?_⟩, _, rfl⟩
     rw [List.take_succ, hc, ← List.append_assoc, List.mem_append, List.mem_cons, hse6 y]
     simp [or_comm]
    ·obtain ⟨s6, eL6, ⟨kvs6, seen6, hd6, hin6, hk6, hse6⟩, x4, rfl⟩ := hQ
     rw [List.length_map] at hk6 hse6
     rw [List.take_length] at hse6
     refine ⟨s6, ⟨kvs6, seen6, hd6, hin6, by omega, ?_⟩, _, _, _, rfl⟩
     rw [hla]
     exact lateS_ext _ _ _ _ fun c => (hse6 c).symm
  ·obtain ⟨s1, ⟨kvs, seen, hd, hin, hkl, hla⟩, x2, x3, x4, rfl⟩ := hP
   have e0 : rs.drop (ts.map V.ref).length = [] := by
    rw [List.length_map, htl]
    exact List.drop_length
   rw [e0] at hla
   have e1 : lateF rs = none := hla
   rw [e1] at q
   exact q G s1
theorem ok_is_length (T : Txt K mg a) : FnOk P w K mg base CX0 3 a.f_is_length a.d_is_length ["value"] sp_is_length := by
 refine T.F_is_length.ok sc_is_length (fun vs H Q E h => ?_) (fun cdv A outer s H vs Q E hr h => ?_)
 ·obtain ⟨i, rfl, _⟩ := h; rfl
 ·obtain ⟨i, rfl, h0, h3, q⟩ := h
  have nd := sc_is_length.nd
  refine ⟨_, (pss_one (ps_ret (ce_and (pe_call (ok_is_whole_from T) (hr.mono (by decide)) (by rfl) T.m_is_whole_from T.F_is_whole_from.kp T.b_is_whole_from .nil pass0 (pa_cons pe_int (pa_cons (cv 0) pa_nil))) (pe_one (ce_cmp o_le (cv 0) (pe_glob (v := .int 300) (by rfl) T.m_MOST ⟨_, rfl⟩)))))), ?_⟩
  walk_at "w"
  refine ⟨_, i, rfl, ?_⟩
  rw [decide_eq_true h0]
  walk_at "w"
  refine ⟨fun _ => ?_, by walk_at "no"⟩
  show Q (.bl (decide (i ≤ 300))) H
  rw [decide_eq_true h3]
  exact q
theorem ok_fits_in_size (T : Txt K mg a) : FnOk P w K mg base CX0 4 a.f_fits_in_size a.d_fits_in_size ["paper"] (sp_fits K) := by
 refine T.F_fits_in_size.ok sc_fits_in_size (fun vs H Q E h => ?_) (fun cdv A outer s H vs Q E hr h => ?_)
 ·obtain ⟨p, o, n, rs, rfl, _⟩ := h; rfl
 ·obtain ⟨p, o, n, rs, rfl, ⟨tt, ts, hp, ht, hts⟩, ho0, ho3, hn0, hn3, hl, q⟩ := h
  have nd := sc_fits_in_size.nd
  refine ⟨_, (pss_one (ps_ret (ce_and (pe_call (ok_is_length T) (hr.mono (by decide)) (by rfl) T.m_is_length T.F_is_length.kp T.b_is_length .nil pass0 (pa_cons (pe_ix ix_tup (cv 0) pe_int (fun _ _ => rfl)) pa_nil)) (ce_and (pe_call (ok_is_length T) (hr.mono (by decide)) (by rfl) T.m_is_length T.F_is_length.kp T.b_is_length .nil pass0 (pa_cons (pe_ix ix_tup (cv 0) pe_int (fun _ _ => rfl)) pa_nil)) (pe_one (ce_cmp o_le (pe_callB call_len_seq (by rfl) T.n_len bt_len (pa_cons (pe_ix ix_tup (cv 0) pe_int (fun _ _ => rfl)) pa_nil)) (pe_glob (v := .int 300) (by rfl) T.m_MOST ⟨_, rfl⟩))))))), ?_⟩
  walk_at "w"
  refine ⟨p, _, _, .int o, rfl, rfl, SqT.of hp, rfl, ?_⟩
  walk_at "w"
  refine ⟨o, rfl, ho0, ho3, ?_⟩
  walk_at "w"
  refine ⟨fun _ => ?_, by walk_at "no"⟩
  walk_at "w"
  refine ⟨p, _, _, .int n, rfl, rfl, SqT.of hp, rfl, ?_⟩
  walk_at "w"
  refine ⟨n, rfl, hn0, hn3, ?_⟩
  walk_at "w"
  refine ⟨fun _ => ?_, by walk_at "no"⟩
  walk_at "w"
  refine ⟨p, _, _, .ref tt, rfl, rfl, SqT.of hp, rfl, ?_⟩
  walk_at "w"
  refine ⟨tt, _, rfl, .inr (SqT.of ht), ?_⟩
  rw [List.length_map, hts.length]
  show Q (.bl (decide ((rs.length : Int) ≤ 300))) H
  rw [decide_eq_true (by omega)]
  exact q
theorem ok_is_fitting_row (T : Txt K mg a) : FnOk P w K mg base CX0 6 a.f_is_fitting_row a.d_is_fitting_row ["told", "old", "new"] (sp_fitting K) := by
 refine T.F_is_fitting_row.ok sc_is_fitting_row (fun vs H Q E h => ?_) (fun cdv A outer s H vs Q E hr h => ?_)
 ·obtain ⟨t, r, old, new, rfl, _⟩ := h; rfl
 ·obtain ⟨t, r, old, new, rfl, ht, hk, hf, q⟩ := h
  have nd := sc_is_fitting_row.nd
  refine ⟨_, (pss_cons (ps_try0 rfl (pss_one (ps_set (i := 3) nd rfl (Or.inl rfl) (pe_call (ok_row_of T) (hr.mono (by decide)) (by rfl) T.m_row_of T.F_row_of.kp T.b_row_of .nil pass0 (pa_cons (cv 0) pa_nil)))))
  (pss_cons (cs_if (PW.pt (cw_and (ct_val (pe_callB call_isi (by rfl) T.n_isinstance bt_isinstance (pa_cons (cv 3) (pa_cons (pe_glob (v := .ref a.C_Take) (by rfl) T.m_Take rfl) pa_nil)))) (pw_and1 (ct_cmp o_gt (pe_op o_add (pe_fld (cv 3) rfl) (pe_fld (cv 3) rfl)) (cv 1))))) (pss_one (ps_ret pe_bl)) pss_nil)
  (pss_one (ps_ret (ce_cmp o_le (pe_ix ix_tup (pe_alt (pe_meth0 (cv 3) T.c_Put T.me_Put_covers (ok_Row_covers T) (hr.mono (by decide)) T.b_Row_covers .nil pass0) (pe_meth0 (cv 3) T.c_Take T.me_Take_covers (ok_Row_covers T) (hr.mono (by decide)) T.b_Row_covers .nil pass0)) pe_int (fun _ _ => rfl)) (cv 2)))))), ?_⟩
  walk_at "w"
  refine ⟨t, r, rfl, ht, hk, fun o H1 s1 _ ho => ?_⟩
  cases r with
  | take to st c =>
   obtain ⟨dx, ho⟩ := ho
   walk_at "w"
   refine ⟨_, _, _, _, true, rfl, rfl, T.ic_Take ho, T.ik_Take_Take, ?_⟩
   walk_at "w"
   refine ⟨fun _ => ?_, by walk_at "no"⟩
   walk_at "w"
   refine ⟨o, _, dx, _, .int st, rfl, ho, T.c_Take, T.na_Take_source, rfl, ?_⟩
   walk_at "w"
   refine ⟨o, _, dx, _, .int c, rfl, ho, T.c_Take, T.na_Take_count, rfl, ?_⟩
   walk_at "w"
   rw [decide_eq_false (show ¬ old < st + c from by have := hf.1; omega)]
   refine ⟨by walk_at "no", fun _ => ?_⟩
   walk_at "w"
   refine Or.inr ?_
   walk_at "w"
   refine ⟨o, dx, _, rfl, ho, rfl, ?_⟩
   walk_at "w"
   refine ⟨o, a.C_Take, dx, _, to, c, rfl, ho, T.c_Take, T.na_Take_to, T.na_Take_count, rfl, rfl, ?_⟩
   intro t3 ht3
   generalize hUt3 : upd H1 t3 _ = H3
   have sH3 := Same.of_eq ht3 hUt3
   have et3 := at_of_eq hUt3
   clear hUt3
   walk_at "w"
   refine ⟨t3, _, _, .int (to + c), rfl, rfl, SqT.of et3, rfl, ?_⟩
   show Q (.bl (decide (to + c ≤ new))) H3
   rw [decide_eq_true hf.2]
   exact q H3 (s1.trans sH3)
  | put to sg =>
   obtain ⟨dx, u, ho, hu⟩ := ho
   walk_at "w"
   refine ⟨_, _, _, _, false, rfl, rfl, T.ic_Put ho, T.ik_Put_Take, ?_⟩
   walk_at "w"
   refine ⟨by walk_at "no", fun _ => ?_⟩
   walk_at "w"
   refine ⟨by walk_at "no", fun _ => ?_⟩
   walk_at "w"
   refine Or.inl ?_
   walk_at "w"
   refine ⟨o, dx, _, rfl, ho, rfl, ?_⟩
   walk_at "w"
   refine ⟨o, a.C_Put, dx, _, to, sg.length, rfl, ho, T.c_Put, T.na_Put_to, T.na_Put_count, rfl, rfl, ?_⟩
   intro t3 ht3
   generalize hUt3 : upd H1 t3 _ = H3
   have sH3 := Same.of_eq ht3 hUt3
   have et3 := at_of_eq hUt3
   clear hUt3
   walk_at "w"
   refine ⟨t3, _, _, .int (to + sg.length), rfl, rfl, SqT.of et3, rfl, ?_⟩
   show Q (.bl (decide (to + (sg.length : Int) ≤ new))) H3
   rw [decide_eq_true (show to + (sg.length : Int) ≤ new from hf)]
   exact q H3 (s1.trans sH3)
theorem ok_first_wrong_row (T : Txt K mg a) : FnOk P w K mg base CX0 7 a.f_first_wrong_row a.d_first_wrong_row ["paper"] (sp_wrong K) := by
 refine T.F_first_wrong_row.ok sc_first_wrong_row (fun vs H Q E h => ?_) (fun cdv A outer s H vs Q E hr h => ?_)
 ·obtain ⟨p, o, n, rs, rfl, _⟩ := h; rfl
 ·obtain ⟨p, o, n, rs, rfl, ⟨tt, ts, hp, ht, hts⟩, hk, hl, q⟩ := h
  have nd := sc_first_wrong_row.nd
  refine ⟨_, (pss_cons (cs_for PassesOwn.never rfl (pi_enumT (by rfl) T.n_enumerate (pa_cons (pe_ix ix_tup (cv 0) pe_int (fun _ _ => rfl)) pa_nil)) (pg_tup rfl (pgs_cons (pg_name (i := 1) nd rfl (Or.inl rfl)) (pgs_cons (pg_name (i := 2) nd rfl (Or.inl rfl)) pgs_nil))) (pss_one (cs_if (pt_not (ct_val (pe_call (ok_is_fitting_row T) (hr.mono (by decide)) (by rfl) T.m_is_fitting_row T.F_is_fitting_row.kp T.b_is_fitting_row .nil pass0 (pa_cons (cv 2) (pa_cons (pe_ix ix_tup (cv 0) pe_int (fun _ _ => rfl)) (pa_cons (pe_ix ix_tup (cv 0) pe_int (fun _ _ => rfl)) pa_nil)))))) (pss_one (ps_ret (cv 1))) pss_nil)))
  (pss_one (ps_ret pe_non))), ?_⟩
  walk_at "w"
  refine ⟨p, _, _, .ref tt, rfl, rfl, SqT.of hp, rfl, ?_⟩
  walk_at "w"
  refine ⟨tt, rfl, ⟨_, SqT.of ht⟩, ?_⟩
  walk_at "w"
  refine forAt_enumT (xs := ts.map V.ref) (fun i σ H1 => Same H H1 ∧ ∃ x1 x2, σ = [some (.ref p), x1, x2]) ⟨Same.refl _, _, _, rfl⟩ (fun i σ H1 hi hP => hP.1.seqT (SqT.of ht)) (fun i x σ H1 T0 hx hP hT0 => ?_) (fun σ H1 hP => ?_)
  ·obtain ⟨s1, x1, x2, rfl⟩ := hP
   rw [List.getElem?_map] at hx
   obtain ⟨t0, ht0, rfl⟩ := Option.map_eq_some_iff.mp hx
   obtain ⟨r, hr0, pr⟩ := paired_get1 hts ht0
   obtain ⟨k1, k2⟩ := hk r (List.mem_of_getElem? hr0)
   generalize hU : upd H1 T0 _ = H2
   have s2 := Same.of_eq hT0 hU
   have eT := at_of_eq hU
   clear hU
   have s02 := s1.trans s2
   walk_at "w"
   refine ⟨T0, _, rfl, SqT.of eT, rfl, ?_⟩
   walk_at "w"
   refine ⟨_, _, rfl, ?_⟩
   walk_at "w"
   refine ⟨_, _, rfl, ?_⟩
   walk_at "w"
   refine And.intro rfl ?_
   walk_at "w"
   refine ⟨p, _, _, .int o, rfl, rfl, SqT.of (s02.at hp), rfl, ?_⟩
   walk_at "w"
   refine ⟨p, _, _, .int n, rfl, rfl, SqT.of (s02.at hp), rfl, ?_⟩
   walk_at "w"
   refine ⟨t0, r, o, n, rfl, pr.same s02, k1, k2, fun H3 s3 => ?_⟩
   walk_at "w"
   refine ⟨by walk_at "no", fun _ => ?_⟩
   exact ⟨s02.trans s3, _, _, rfl⟩
  ·obtain ⟨s1, x1, x2, rfl⟩ := hP
   exact q H1 s1
theorem fit_lens {old new : Int} {r : RowD} (hk : r.ok) (hn : new ≤ 300) (h : Fit old new r) : r.cv.length ≤ 300 ∧ r.rds.length ≤ 300 ∧ r.wrs.length ≤ 300 := by
 cases r with
 | take to st c =>
  obtain ⟨k1, k2, k3⟩ := hk
  have h2 := h.2
  refine ⟨by simp only [RowD.cv, rngI_length]; omega, ?_, ?_⟩
  ·simp only [RowD.rds]; split
   ·simp
   ·rw [rngI_length]; omega
  ·simp only [RowD.wrs]; split
   ·simp
   ·rw [rngI_length]; omega
 | put to sg =>
  have h2 : to + (sg.length : Int) ≤ new := h
  have k1 := hk.1
  refine ⟨by simp only [RowD.cv, rngI_length]; omega, by simp [RowD.rds], by simp only [RowD.wrs, rngI_length]; omega⟩
theorem ok_judge (T : Txt K mg a) : FnOk P w K mg base CX0 8 a.f_judge a.d_judge ["paper"] (sp_judge K) := by
 refine T.F_judge.ok sc_judge (fun vs H Q E h => ?_) (fun cdv A outer s H vs Q E hr h => ?_)
 ·obtain ⟨p, o, n, rs, rfl, _⟩ := h; rfl
 ·obtain ⟨p, o, n, rs, rfl, hP, ho, hn, hl, hk, h1, h2, q⟩ := h
  have nd := sc_judge.nd
  refine ⟨_, (pss_cons (cs_if (pt_not (ct_val (pe_call (ok_fits_in_size T) (hr.mono (by decide)) (by rfl) T.m_fits_in_size T.F_fits_in_size.kp T.b_fits_in_size .nil pass0 (pa_cons (cv 0) pa_nil)))) pss_dead pss_nil)
  (pss_cons (ps_set (i := 1) nd rfl (Or.inl rfl) (pe_call (ok_first_wrong_row T) (hr.mono (by decide)) (by rfl) T.m_first_wrong_row T.F_first_wrong_row.kp T.b_first_wrong_row .nil pass0 (pa_cons (cv 0) pa_nil)))
  (pss_cons (cs_if (ct_notN (cv 1)) pss_dead pss_nil)
  (pss_cons (ps_setComp (i := 2) (blk_mk (cap := []) (ys := []) rfl rfl rfl rfl rfl trivial (by decide +kernel)) rfl nd rfl rfl (pi_tup (pe_ix ix_tup (cv 0) pe_int (fun _ _ => rfl))) (fun _ _ _ _ => (pe_call (ok_row_of T) (hr.mono (by decide)) (by rfl) T.m_row_of T.F_row_of.kp T.b_row_of .nil pass0 (pa_cons (cv 0) pa_nil))) (fun _ _ _ _ => cts_nil))
  (pss_cons (ps_set (i := 3) nd rfl (Or.inl rfl) (pe_call (ok_covered_twice T) (hr.mono (by decide)) (by rfl) T.m_covered_twice T.F_covered_twice.kp T.b_covered_twice .nil pass0 (pa_cons (cv 2) pa_nil)))
  (pss_cons (cs_cut (cs_if (ct_isN (cv 3)) (pss_one (ps_set (i := 3) nd rfl (Or.inl rfl) (pe_call (ok_lacking T) (hr.mono (by decide)) (by rfl) T.m_lacking T.F_lacking.kp T.b_lacking .nil pass0 (pa_cons (cv 2) (pa_cons (pe_ix ix_tup (cv 0) pe_int (fun _ _ => rfl)) pa_nil))))) pss_nil))
  (pss_cons (cs_cut (cs_if (ct_isN (cv 3)) (pss_one (ps_set (i := 3) nd rfl (Or.inl rfl) (pe_call (ok_read_late T) (hr.mono (by decide)) (by rfl) T.m_read_late T.F_read_late.kp T.b_read_late .nil pass0 (pa_cons (cv 2) pa_nil)))) pss_nil))
  (pss_one (ps_ret (cv 3)))))))))), ?_⟩
  walk_at "w"
  refine ⟨p, o, n, rs, rfl, hP, ho.1, ho.2, hn.1, hn.2, hl, ?_⟩
  walk_at "w"
  refine ⟨by walk_at "no", fun _ => ?_⟩
  walk_at "w"
  refine ⟨p, o, n, rs, rfl, hP, hk, hl, fun H1 s1 => ?_⟩
  walk_at "w"
  refine ⟨by walk_at "no", fun _ => ?_⟩
  obtain ⟨tt, ts, hp, ht, hts⟩ := hP.same s1
  walk_at "w"
  refine ⟨p, _, _, .ref tt, rfl, rfl, SqT.of hp, rfl, ?_⟩
  walk_at "w"
  refine ⟨tt, rfl, ⟨_, SqT.of ht⟩, ?_⟩
  refine comp_tupP (fun i acc G => ∃ (os : List Addr), acc = os.map V.ref ∧ Paired (ObjAt K a G) os (rs.take i)) (SqT.of ht) (by rw [List.length_map, hts.length, sizeLine_eq]; omega) ⟨[], rfl, .nil⟩ (fun i x acc H3 H3' hx s3 s3' hP R hR => ?_) (fun D acc H3 H3' hD hD3 s3 s3' hP hel he => ?_)
  ·obtain ⟨os, rfl, hpr⟩ := hP
   rw [List.getElem?_map] at hx
   obtain ⟨t0, ht0, rfl⟩ := Option.map_eq_some_iff.mp hx
   obtain ⟨r, hr0, pr⟩ := paired_get1 hts ht0
   walk_at "w"
   refine ⟨t0, r, rfl, pr.same (s3.trans s3'), (hk r (List.mem_of_getElem? hr0)).1, fun o H6' s6 hno hob => hR _ _ s6 fun H6 sx kx => ⟨os ++ [o], by simp, ?_⟩⟩
   rw [List.take_succ, hr0]
   exact paired_snoc (L2.Paired.imp' (fun _ _ z => z.same sx) hpr) (hob.mv kx)
  obtain ⟨os, rfl, hpr⟩ := hP
  rw [List.length_map, hts.length, List.take_length] at hpr
  have hpr' := L2.Paired.imp' (fun _ _ (z : ObjAt K a H3 _ _) => z.same s3') hpr
  have sA : Same H H3' := s1.trans (s3.trans s3')
  have hrok : RowsOk rs := ⟨hl, fun r hrm => fit_lens (hk r hrm).1 hn.2 (hk r hrm).2⟩
  have hp3 := (s3.trans s3').at hp
  clear hel hD3 s3 s3' hpr hts ht hp
  walk_at "w"
  refine ⟨D, rs, rfl, ⟨os, SqL.of he, hpr'⟩, hrok, h1, ?_⟩
  rw [h1]
  intro H4 s4
  walk_at "w"
  refine ⟨fun σ' G => σ' = [some (.ref p), some .non, some (.ref D), some .non] ∧ Same H3' G, ?_, ?_⟩
  ·walk_at "w"
   refine ⟨fun _ => ?_, by walk_at "no"⟩
   walk_at "w"
   refine ⟨p, _, _, .int n, rfl, rfl, SqT.of (s4.at hp3), rfl, ?_⟩
   walk_at "w"
   refine ⟨D, rs, n.toNat, by rw [Int.toNat_of_nonneg hn.1]; rfl, ⟨os, SqL.of (s4.at he), L2.Paired.imp' (fun _ _ z => z.same s4) hpr'⟩, hrok, by omega, h2, ?_⟩
   rw [h2]
   intro H5 s5
   exact ⟨rfl, s4.trans s5⟩
  rintro σ' G ⟨rfl, sG⟩
  walk_at "w"
  refine ⟨fun σ' G2 => ∃ v, σ' = [some (.ref p), some .non, some (.ref D), some v] ∧ Q v G2, ?_, ?_⟩
  ·walk_at "w"
   refine ⟨fun _ => ?_, by walk_at "no"⟩
   walk_at "w"
   refine ⟨D, rs, rfl, ⟨os, SqL.of (sG.at he), L2.Paired.imp' (fun _ _ z => z.same sG) hpr'⟩, hrok, ?_⟩
   cases hlt : lateF rs with
   | none =>
    rw [hlt] at q
    intro H5 s5
    exact ⟨_, rfl, q H5 (sA.trans (sG.trans s5))⟩
   | some kc =>
    rw [hlt] at q
    intro t H5 s5 e5
    exact ⟨_, rfl, q t H5 (sA.trans (sG.trans s5)) e5⟩
  rintro σ' G2 ⟨v, rfl, qv⟩
  exact qv
theorem mem_chs {u : Nat → Nat → List Int} {d k j : Nat} {p : List Int} (h : (chs u d k)[j]? = some p) : j < cN d k ∧ p = u k j := by
 unfold chs at h
 rw [List.getElem?_map] at h
 obtain ⟨i, hi, rfl⟩ := Option.map_eq_some_iff.mp h
 have hj : j < cN d k := by
  have := (List.getElem?_eq_some_iff.mp hi).1
  simpa using this
 rw [List.getElem?_range hj] at hi
 cases hi
 exact ⟨hj, rfl⟩
theorem get_rngI {lo : Int} {n i : Nat} {d : Int} (h : (rngI lo n)[i]? = some d) : i < n ∧ d = lo + i := by
 unfold rngI at h
 rw [List.getElem?_map] at h
 obtain ⟨j, hj, rfl⟩ := Option.map_eq_some_iff.mp h
 have hi : i < n := by
  have := (List.getElem?_eq_some_iff.mp hj).1
  simpa using this
 rw [List.getElem?_range hi] at hj
 cases hj
 exact ⟨hi, rfl⟩
theorem take_rngI {lo x : Int} {n i : Nat} (h : x ∈ (rngI lo n).take i) : lo ≤ x ∧ x < lo + i := by
 obtain ⟨j, hj⟩ := List.mem_iff_getElem?.mp h
 rw [List.getElem?_take] at hj
 split at hj
 ·have := get_rngI hj
  omega
 ·cases hj
theorem up_piece {to : Int} {d k j : Nat} {x : Int} (h : x ∈ uch to d k j) : to + (j * d : Nat) ≤ x ∧ x < to + (j * d : Nat) + d ∧ x < to + k := by
 unfold uch at h
 have := mem_rngI.mp h
 omega
theorem down_piece {e : Int} {d k j : Nat} {x : Int} (h : x ∈ dch e d k j) : e - ((j + 1) * d : Nat) ≤ x ∧ x < e - (j * d : Nat) ∧ e - k ≤ x := by
 unfold dch at h
 have := mem_rngI.mp h
 have e1 : (j + 1) * d = j * d + d := Nat.succ_mul j d
 omega
theorem flat_take {xss : List (List Int)} {k : Nat} {x : Int} (h : x ∈ (xss.take k).flatten) : ∃ j p, j < k ∧ xss[j]? = some p ∧ x ∈ p := by
 obtain ⟨p, hp, hx⟩ := List.mem_flatten.mp h
 obtain ⟨j, hj⟩ := List.mem_iff_getElem?.mp hp
 rw [List.getElem?_take] at hj
 split at hj
 ·rename_i hlt
  exact ⟨j, p, hlt, hj, hx⟩
 ·cases hj
theorem pieces_ord {to st c : Int} (hc : 1 ≤ c) {k i : Nat} {p : List Int} {d x : Int} (hp : (piecesT to st c)[k]? = some p) (hd : p[i]? = some d) (hx : x ∈ ((piecesT to st c).take k).flatten ++ p.take i) : x ≠ st + d - to := by
 unfold piecesT at hp hx
 split at hp
 ·simp at hp
 rename_i hne
 rw [if_neg hne] at hx
 split at hp
 ·rename_i hlt
  rw [if_pos hlt] at hx
  obtain ⟨hk, rfl⟩ := mem_chs hp
  unfold uch at hd
  have h1 := get_rngI hd
  rcases List.mem_append.mp hx with hx | hx
  ·obtain ⟨j, q, hj, hq, hxq⟩ := flat_take hx
   obtain ⟨_, rfl⟩ := mem_chs hq
   have h2 := up_piece hxq
   have h3 : (j + 1) * (st - to).toNat ≤ k * (st - to).toNat := Nat.mul_le_mul_right _ hj
   have e1 : (j + 1) * (st - to).toNat = j * (st - to).toNat + (st - to).toNat := Nat.succ_mul _ _
   omega
  ·have h2 := take_rngI hx
   omega
 ·rename_i hlt
  rw [if_neg hlt] at hx
  obtain ⟨hk, rfl⟩ := mem_chs hp
  unfold dch at hd
  have h1 := get_rngI hd
  have ek : (k + 1) * (to - st).toNat = k * (to - st).toNat + (to - st).toNat := Nat.succ_mul _ _
  rcases List.mem_append.mp hx with hx | hx
  ·obtain ⟨j, q, hj, hq, hxq⟩ := flat_take hx
   obtain ⟨_, rfl⟩ := mem_chs hq
   have h2 := down_piece hxq
   have h3 : (j + 1) * (to - st).toNat ≤ k * (to - st).toNat := Nat.mul_le_mul_right _ hj
   omega
  ·unfold dch at hx
   have h2 := take_rngI hx
   omega
theorem chs_get {u : Nat → Nat → List Int} {d k j : Nat} (h : j < cN d k) : u k j ∈ chs u d k := List.mem_map.mpr ⟨j, List.mem_range.mpr h, rfl⟩
theorem cN_gt {d k m : Nat} (hd : 0 < d) (h : m < k) : m / d < cN d k := by
 unfold cN
 rw [Nat.div_lt_iff_lt_mul hd]
 have h1 := Nat.div_add_mod (k + d - 1) d
 have h2 := Nat.mod_lt (k + d - 1) hd
 have e1 : (k + d - 1) / d * d = d * ((k + d - 1) / d) := Nat.mul_comm _ _
 omega
theorem pieces_mem {to st c : Int} (hc : 1 ≤ c) {x : Int} : x ∈ (piecesT to st c).flatten ↔ st ≠ to ∧ to ≤ x ∧ x < to + c := by
 unfold piecesT
 by_cases hne : st = to
 ·rw [if_pos hne]; simp [hne]
 rw [if_neg hne]
 by_cases hlt : to < st
 ·rw [if_pos hlt, List.mem_flatten]
  constructor
  ·rintro ⟨p, hp, hx⟩
   obtain ⟨j, hj⟩ := List.mem_iff_getElem?.mp hp
   obtain ⟨_, rfl⟩ := mem_chs hj
   have := up_piece hx
   exact ⟨hne, by omega, by omega⟩
  ·rintro ⟨_, h1, h2⟩
   have hd : 0 < (st - to).toNat := by omega
   generalize (st - to).toNat = d at hd
   have hm := Nat.div_add_mod (x - to).toNat d
   have hr := Nat.mod_lt (x - to).toNat hd
   have ec : (x - to).toNat / d * d = d * ((x - to).toNat / d) := Nat.mul_comm _ _
   refine ⟨_, chs_get (cN_gt hd (show (x - to).toNat < c.toNat by omega)), ?_⟩
   unfold uch
   rw [mem_rngI]
   omega
 ·rw [if_neg hlt, List.mem_flatten]
  constructor
  ·rintro ⟨p, hp, hx⟩
   obtain ⟨j, hj⟩ := List.mem_iff_getElem?.mp hp
   obtain ⟨_, rfl⟩ := mem_chs hj
   have := down_piece hx
   exact ⟨hne, by omega, by omega⟩
  ·rintro ⟨_, h1, h2⟩
   have hd : 0 < (to - st).toNat := by omega
   generalize (to - st).toNat = d at hd
   have hm := Nat.div_add_mod (to + c - 1 - x).toNat d
   have hr := Nat.mod_lt (to + c - 1 - x).toNat hd
   have ec : (to + c - 1 - x).toNat / d * d = d * ((to + c - 1 - x).toNat / d) := Nat.mul_comm _ _
   have ed : ((to + c - 1 - x).toNat / d + 1) * d = (to + c - 1 - x).toNat / d * d + d := Nat.succ_mul _ _
   refine ⟨_, chs_get (cN_gt hd (show (to + c - 1 - x).toNat < c.toNat by omega)), ?_⟩
   unfold dch
   rw [mem_rngI]
   omega
theorem pieces_small {to st c : Int} {p : List Int} (hp : p ∈ piecesT to st c) : p.length ≤ (st - to).natAbs := by
 unfold piecesT at hp
 split at hp
 ·simp at hp
 split at hp
 all_goals
  obtain ⟨j, hj⟩ := List.mem_iff_getElem?.mp hp
  obtain ⟨_, rfl⟩ := mem_chs hj
  first | unfold uch | unfold dch
  rw [rngI_length]
  omega
theorem piece_ok {old new : Int} {L : Nat} {r : RowD} {c : List Int} (hk : r.ok) (hs : Sm r) (hf : FitO old new r) (h1 : old ≤ L) (h2 : new ≤ L) (hc : c ∈ piecesR r) : PieceOk L (r, c) := by
 cases r with
 | take to st n =>
  obtain ⟨k1, k2, k3⟩ := hk
  obtain ⟨s1, s2, s3⟩ := hs
  obtain ⟨f1, f2⟩ := hf
  have hc : c ∈ piecesT to st n := hc
  have hl := pieces_small hc
  refine ⟨⟨k1, k2, k3⟩, by show c.length ≤ 300; omega, fun d hd => ?_⟩
  have hm := (pieces_mem k3).mp (List.mem_flatten.mpr ⟨c, hc, hd⟩)
  exact ⟨by omega, by omega, by omega, by omega⟩
 | put to sg =>
  have hk' := hk
  obtain ⟨k1, k2, k3, k4⟩ := hk
  have s2 : sg.length ≤ 9 := hs.2
  have f1 : to + sg.length ≤ new := hf
  have hc : c ∈ [rngI to sg.length] := hc
  rw [List.mem_singleton.mp hc]
  refine ⟨hk', by show (rngI to sg.length).length ≤ 300; rw [rngI_length]; omega, fun d hd => ?_⟩
  have hm := mem_rngI.mp hd
  exact ⟨by omega, by omega, by omega, by omega⟩
theorem due_ok {H : Hp} {us : List Addr} {rs : List RowD} {old new : Int} {L : Nat} (hp : Paired (GT K H) us rs) (hf : ∀ r ∈ rs, FitO old new r) (h1 : old ≤ L) (h2 : new ≤ L) : ∀ x ∈ dueL rs, PieceOk L x := by
 intro x hx
 unfold dueL at hx
 obtain ⟨r, hr, hx⟩ := List.mem_flatMap.mp hx
 obtain ⟨c, hc, rfl⟩ := List.mem_map.mp hx
 obtain ⟨u, _, hg⟩ := Paired.mem2 hp hr
 exact piece_ok hg.2.1 hg.2.2 (hf r hr) h1 h2 hc
theorem rngI_lt (lo : Int) (n : Nat) : (rngI lo n).Pairwise (· < ·) := by
 rw [List.pairwise_iff_getElem]
 intro i j hi hj hij
 have h1 := get_rngI (List.getElem?_eq_getElem hi)
 have h2 := get_rngI (List.getElem?_eq_getElem hj)
 omega
theorem mem_cv {r : RowD} {c : Int} : c ∈ r.cv ↔ r.to ≤ c ∧ c < r.to + r.cnt := by
 cases r with
 | take to st n => exact mem_rngI
 | put to sg => exact mem_rngI
theorem wrs_cv {r : RowD} {c : Int} (h : c ∈ r.wrs) : c ∈ r.cv := by
 cases r with
 | take to st n =>
  simp only [RowD.wrs] at h
  split at h
  ·cases h
  ·exact h
 | put to sg => exact h
theorem cv_nd (r : RowD) : r.cv.Nodup := by
 have h : ∀ lo n, (rngI lo n).Nodup := fun lo n => (rngI_lt lo n).imp (fun h => by omega)
 cases r with
 | take to st n => exact h _ _
 | put to sg => exact h _ _
theorem Tl.facts {old at' : Int} {rs : List RowD} (h : Tl old rs at') : 0 ≤ at' ∧ (rs.map RowD.cv).flatten.Nodup ∧ (∀ x, x ∈ (rs.map RowD.cv).flatten ↔ 0 ≤ x ∧ x < at') ∧ ∀ r ∈ rs, Good old r ∧ r.to + r.cnt ≤ at' := by
 induction h with
 | nil => exact ⟨Int.le_refl _, List.nodup_nil, fun x => ⟨fun z => by simp at z, fun z => by omega⟩, fun r z => by cases z⟩
 | @snoc rs at' n r _ hg ht hn ih =>
  obtain ⟨h1, h2, h3, h4⟩ := ih
  have e : ((rs ++ [r]).map RowD.cv).flatten = (rs.map RowD.cv).flatten ++ r.cv := by simp
  have hc : ∀ x, x ∈ r.cv ↔ at' ≤ x ∧ x < at' + n := fun x => by rw [mem_cv, ht, hn]
  refine ⟨by omega, ?_, fun x => ?_, fun s hs => ?_⟩
  ·rw [e, List.nodup_append]
   exact ⟨h2, cv_nd r, fun x hx y hy => by have := (h3 x).mp hx; have := (hc y).mp hy; omega⟩
  ·rw [e, List.mem_append, h3, hc]; omega
  ·rcases List.mem_append.mp hs with hs | hs
   ·obtain ⟨z1, z2⟩ := h4 s hs
    exact ⟨z1, by omega⟩
   ·rw [List.mem_singleton.mp hs]; exact ⟨hg, by omega⟩
theorem tw_none : ∀ (l : List (Nat × Int)) (seen : List Int), (l.map Prod.snd).Nodup → (∀ x ∈ l.map Prod.snd, x ∉ seen) → tw l seen = none
 | [], _, _, _ => rfl
 | (k, c) :: r, seen, h1, h2 => by
  have h3 : c ∉ r.map Prod.snd ∧ (r.map Prod.snd).Nodup := List.nodup_cons.mp h1
  have h4 : c ∉ seen := h2 c (by simp)
  show (if c ∈ seen then some (k, c) else tw r (c :: seen)) = none
  rw [if_neg h4]
  refine tw_none r (c :: seen) h3.2 fun x hx z => ?_
  rcases List.mem_cons.mp z with rfl | z
  ·exact h3.1 hx
  ·exact h2 x (List.mem_cons_of_mem _ hx) z
theorem num_snd : ∀ (k : Nat) (xss : List (List Int)), (num k xss).map Prod.snd = xss.flatten
 | _, [] => rfl
 | k, cs :: r => by simp [num, num_snd (k + 1) r, Function.comp_def]
def Dis (rs : List RowD) : Prop := ∀ (i j : Nat) (r s : RowD), rs[i]? = some r → rs[j]? = some s → ∀ c, c ∈ r.cv → c ∈ s.cv → i = j
theorem dis_of {rs : List RowD} (h : (rs.map RowD.cv).flatten.Nodup) : Dis rs := by
 have h1 := (List.pairwise_flatten.mp h).2
 rw [List.pairwise_map, List.pairwise_iff_getElem] at h1
 have key : ∀ (i j : Nat) (r s : RowD), rs[i]? = some r → rs[j]? = some s → ∀ c, c ∈ r.cv → c ∈ s.cv → ¬ i < j := by
  intro i j r s hi hj c hc1 hc2 hij
  obtain ⟨li, ei⟩ := List.getElem?_eq_some_iff.mp hi
  obtain ⟨lj, ej⟩ := List.getElem?_eq_some_iff.mp hj
  exact h1 i j li lj hij c (by rw [ei]; exact hc1) c (by rw [ej]; exact hc2) rfl
 intro i j r s hi hj c hc1 hc2
 have h2 := key i j r s hi hj c hc1 hc2
 have h3 := key j i s r hj hi c hc2 hc1
 omega
def Wr (wr : List Int) (rs : List RowD) (k : Nat) (x : Int) : Prop := x ∈ wr ∨ ∃ j r, j < k ∧ rs[j]? = some r ∧ x ∈ r.wrs
theorem Wr.step {wr : List Int} {r : RowD} {rs : List RowD} {k : Nat} {x : Int} : Wr wr (r :: rs) (k + 1) x ↔ Wr (wr ++ r.wrs) rs k x := by
 unfold Wr
 constructor
 ·rintro (h | ⟨j, s, h1, h2, h3⟩)
  ·exact .inl (List.mem_append_left _ h)
  ·cases j with
   | zero => cases h2; exact .inl (List.mem_append_right _ h3)
   | succ j => exact .inr ⟨j, s, by omega, h2, h3⟩
 ·rintro (h | ⟨j, s, h1, h2, h3⟩)
  ·rcases List.mem_append.mp h with h | h
   ·exact .inl h
   ·exact .inr ⟨0, r, by omega, rfl, h⟩
  ·exact .inr ⟨j + 1, s, by omega, h2, h3⟩
theorem Wr.zero {wr : List Int} {rs : List RowD} {x : Int} : Wr wr rs 0 x ↔ x ∈ wr := ⟨fun h => h.elim id fun ⟨_, _, z, _⟩ => absurd z (Nat.not_lt_zero _), .inl⟩
theorem find_least {p : Int → Bool} {c : Int} : ∀ {l : List Int}, l.Pairwise (· < ·) → l.find? p = some c → ∀ x ∈ l, p x = true → c ≤ x
 | [], _, h, _, _, _ => by cases h
 | y :: l, hp, h, x, hx, hpx => by
  obtain ⟨h1, h2⟩ := List.pairwise_cons.mp hp
  rw [List.find?_cons] at h
  cases e : p y with
  | true =>
   rw [e] at h; cases h
   rcases List.mem_cons.mp hx with rfl | hx
   ·omega
   ·have := h1 x hx; omega
  | false =>
   rw [e] at h
   rcases List.mem_cons.mp hx with rfl | hx
   ·rw [e] at hpx; cases hpx
   ·exact find_least h2 h x hx hpx
theorem rds_lt (r : RowD) : r.rds.Pairwise (· < ·) := by
 cases r with
 | take to st n =>
  simp only [RowD.rds]
  split
  ·exact List.Pairwise.nil
  ·exact rngI_lt _ _
 | put to sg => exact List.Pairwise.nil
theorem lateS_none : ∀ {rs : List RowD} {n : Nat} {wr : List Int}, lateS n rs wr = none → ∀ k r, rs[k]? = some r → ∀ x ∈ r.rds, ¬ Wr wr rs k x
 | [], _, _, _, _, _, h, _, _ => by simp at h
 | r0 :: rs, n, wr, h, k, r, hr, x, hx => by
  simp only [lateS] at h
  split at h
  ·cases h
  ·rename_i hf
   cases k with
   | zero =>
    cases hr
    rw [Wr.zero]
    simpa using List.find?_eq_none.mp hf x hx
   | succ k =>
    rw [Wr.step]
    exact lateS_none h k r hr x hx
theorem lateS_some : ∀ {rs : List RowD} {n m : Nat} {wr : List Int} {c : Int}, lateS n rs wr = some (m, c) → ∃ k r, m = n + k ∧ rs[k]? = some r ∧ c ∈ r.rds ∧ Wr wr rs k c ∧ (∀ x ∈ r.rds, Wr wr rs k x → c ≤ x) ∧ ∀ k' r', k' < k → rs[k']? = some r' → ∀ x ∈ r'.rds, ¬ Wr wr rs k' x
 | [], _, _, _, _, h => by cases h
 | r0 :: rs, n, m, wr, c, h => by
  simp only [lateS] at h
  split at h
  ·rename_i c' hf
   cases h
   refine ⟨0, r0, rfl, rfl, List.mem_of_find?_eq_some hf, ?_, ?_, fun k' r' z => absurd z (Nat.not_lt_zero _)⟩
   ·rw [Wr.zero]; simpa using List.find?_some hf
   ·intro x hx hw
    rw [Wr.zero] at hw
    exact find_least (rds_lt r0) hf x hx (by simpa using hw)
  ·rename_i hf
   obtain ⟨k, r, h1, h2, h3, h4, h5, h6⟩ := lateS_some h
   refine ⟨k + 1, r, by omega, h2, h3, Wr.step.mpr h4, fun x hx z => h5 x hx (Wr.step.mp z), fun k' r' hk hr x hx => ?_⟩
   cases k' with
   | zero =>
    cases hr
    rw [Wr.zero]
    simpa using List.find?_eq_none.mp hf x hx
   | succ k' =>
    rw [Wr.step]
    exact h6 k' r' (by omega) hr x hx
theorem mem_pcs {r : RowD} (ok : r.ok) {x : Int} : x ∈ (pcs r).flatten ↔ x ∈ r.wrs := by
 cases r with
 | take to st c =>
  obtain ⟨k1, k2, k3⟩ := ok
  show x ∈ (piecesT to st c).flatten ↔ _
  rw [pieces_mem k3]
  simp only [RowD.wrs]
  split
  ·rename_i h; simp [h]
  ·rename_i h
   rw [mem_rngI, Int.toNat_of_nonneg (by omega)]
   exact ⟨fun z => z.2, fun z => ⟨h, z⟩⟩
 | put to sg => simp [pcs, RowD.wrs]
structure Scene (es C0 : List Int) (rs : List RowD) (Cs : Nat → List Int) : Prop where
 z : ∃ z, C0 = es ++ List.replicate z 0
 run : RunTo rs C0 Cs rs.length
 good : ∀ r ∈ rs, Good es.length r ∧ r.to + r.cnt ≤ C0.length
 dis : Dis rs
 pos : ∀ (i : Nat) (v : Int), es[i]? = some v → 0 ≤ v
 inj : ∀ (i j : Nat) (v : Int), es[i]? = some v → es[j]? = some v → i = j
theorem Scene.keep {es C0 : List Int} {rs : List RowD} {Cs : Nat → List Int} (h : Scene es C0 rs Cs) {x : Nat} (hx : x < C0.length) : ∀ {k : Nat}, k ≤ rs.length → ¬ Wr [] rs k x → (Cs k)[x]? = C0[x]?
 | 0, _, _ => by rw [h.run.1]
 | k + 1, hk, hw => by
  obtain ⟨r, hr⟩ : ∃ r, rs[k]? = some r := ⟨_, List.getElem?_eq_getElem (by omega)⟩
  have ok := (h.good r (List.mem_of_getElem? hr)).1.1
  have h1 := (h.run.2.2 k r (by omega) hr).2 x (by rw [h.run.2.1]; exact hx)
  rw [h1, if_neg (fun z => hw (.inr ⟨k, r, by omega, hr, (mem_pcs ok).mp z⟩))]
  refine h.keep hx (by omega) fun z => hw ?_
  rcases z with z | ⟨j, s, z1, z2, z3⟩
  ·cases z
  ·exact .inr ⟨j, s, by omega, z2, z3⟩
theorem Scene.wrote {es C0 : List Int} {rs : List RowD} {Cs : Nat → List Int} (h : Scene es C0 rs Cs) {x : Nat} (hx : x < C0.length) {j : Nat} {r : RowD} (hr : rs[j]? = some r) (hw : (x : Int) ∈ r.wrs) : ∀ {k : Nat}, j < k → k ≤ rs.length → (Cs k)[x]? = newV (Cs j) r x
 | 0, z, _ => absurd z (Nat.not_lt_zero _)
 | k + 1, hj, hk => by
  obtain ⟨s, hs⟩ : ∃ r, rs[k]? = some r := ⟨_, List.getElem?_eq_getElem (by omega)⟩
  have ok := (h.good s (List.mem_of_getElem? hs)).1.1
  have h1 := (h.run.2.2 k s (by omega) hs).2 x (by rw [h.run.2.1]; exact hx)
  by_cases e : j = k
  ·subst e
   rw [hr] at hs; cases hs
   rw [h1, if_pos ((mem_pcs ok).mpr hw)]
  ·rw [h1, if_neg (fun z => e (h.dis j k r s hr hs x (wrs_cv hw) (wrs_cv ((mem_pcs ok).mp z))))]
   exact h.wrote hx hr hw (by omega) (by omega)
theorem Scene.told {es C0 : List Int} {rs : List RowD} {Cs : Nat → List Int} (h : Scene es C0 rs Cs) {x : Nat} {j : Nat} {r : RowD} (hr : rs[j]? = some r) (hw : (x : Int) ∈ r.wrs) (hno : ∀ y ∈ r.rds, ¬ Wr [] rs j y) : newV (Cs j) r x = (r.sg es)[((x : Int) - r.to).toNat]? := by
 obtain ⟨⟨ok, _, hin⟩, hto⟩ := h.good r (List.mem_of_getElem? hr)
 obtain ⟨z, hz⟩ := h.z
 have hj : j < rs.length := (List.getElem?_eq_some_iff.mp hr).1
 cases r with
 | put to sg => rfl
 | take to st c =>
  obtain ⟨k1, k2, k3⟩ := ok
  have hin : st + c ≤ es.length := hin
  simp only [RowD.wrs] at hw
  split at hw
  ·cases hw
  rename_i hne
  have hx := mem_rngI.mp hw
  have hy : st + x - to ∈ RowD.rds (.take to st c) := by
   simp only [RowD.rds]
   rw [if_neg hne]
   exact mem_rngI.mpr (by omega)
  have e1 : ((st + x - to).toNat : Int) = st + x - to := by omega
  have h1 := h.keep (x := (st + x - to).toNat) (by rw [hz, List.length_append]; omega) (Nat.le_of_lt hj) (by rw [e1]; exact hno _ hy)
  show (Cs j)[(st + x - to).toNat]? = ((es.drop st.toNat).take c.toNat)[((x : Int) - to).toNat]?
  rw [h1, hz, List.getElem?_append_left (by omega), List.getElem?_take, if_pos (by omega), List.getElem?_drop]
  congr 1; omega
theorem Scene.strange {es C0 : List Int} {rs : List RowD} {Cs : Nat → List Int} (h : Scene es C0 rs Cs) {k : Nat} (hk : k ≤ rs.length) (hno : ∀ k' r', k' < k → rs[k']? = some r' → ∀ x ∈ r'.rds, ¬ Wr [] rs k' x) {x v w : Int} (h0 : 0 ≤ x) (hv : (Cs k)[x.toNat]? = some v) (hw : es[x.toNat]? = some w) : v ≠ w ↔ Wr [] rs k x := by
 obtain ⟨z, hz⟩ := h.z
 have ex : (x.toNat : Int) = x := by omega
 have hxe : x.toNat < es.length := (List.getElem?_eq_some_iff.mp hw).1
 have hx : x.toNat < C0.length := by rw [hz, List.length_append]; omega
 constructor
 ·intro hne
  apply Classical.byContradiction
  intro hn
  have h1 := h.keep hx hk (by rw [ex]; exact hn)
  rw [hv, hz, List.getElem?_append_left hxe, hw] at h1
  exact hne (Option.some.inj h1)
 ·rintro (z | ⟨j, s, h1, h2, h3⟩)
  ·cases z
  have h3' : ((x.toNat : Nat) : Int) ∈ s.wrs := by rw [ex]; exact h3
  have e1 := h.wrote hx h2 h3' h1 hk
  rw [h.told h2 h3' (hno j s h1 h2), hv, ex] at e1
  obtain ⟨⟨ok, hneg, hin⟩, _⟩ := h.good s (List.mem_of_getElem? h2)
  have hp := h.pos _ _ hw
  cases s with
  | put to sg =>
   have h4 := hneg v (List.mem_of_getElem? e1.symm)
   omega
  | take to st c =>
   obtain ⟨k1, k2, k3⟩ := ok
   simp only [RowD.wrs] at h3
   split at h3
   ·cases h3
   rename_i hne
   have hr := mem_rngI.mp h3
   have e1 : some v = ((es.drop st.toNat).take c.toNat)[(x - to).toNat]? := e1
   rw [List.getElem?_take, if_pos (by omega), List.getElem?_drop] at e1
   intro evw
   subst evw
   have := h.inj _ _ _ e1.symm hw
   omega
theorem Scene.fine {es C0 nw : List Int} {rs : List RowD} {Cs : Nat → List Int} (h : Scene es C0 rs Cs) (hl : lateF rs = none) (hC : nw.length ≤ C0.length) (ht : ∀ r ∈ rs, Tells es nw r) (hc : ∀ j, j < nw.length → ∃ r ∈ rs, Covers r j) : (Cs rs.length).take nw.length = nw := by
 have hno := lateS_none (n := 0) (wr := []) hl
 obtain ⟨z, hz⟩ := h.z
 have hzl : C0.length = es.length + z := by rw [hz]; simp
 apply List.ext_getElem?
 intro j
 rw [List.getElem?_take]
 by_cases hj : j < nw.length
 ·rw [if_pos hj]
  obtain ⟨r, hr, hcv⟩ := hc j hj
  obtain ⟨i, hi⟩ := List.mem_iff_getElem?.mp hr
  have hil : i < rs.length := (List.getElem?_eq_some_iff.mp hi).1
  obtain ⟨t1, t2, t3, t4⟩ := ht r hr
  have hto := t1.to
  have e2 := t4 ((j : Int) - r.to).toNat (by have := hcv.1; have := hcv.2; omega)
  rw [show (r.to + (((j : Int) - r.to).toNat : Nat)).toNat = j by have := hcv.1; omega] at e2
  rw [e2]
  by_cases hw : (j : Int) ∈ r.wrs
  ·rw [h.wrote (by omega) hi hw hil (Nat.le_refl _), h.told hi hw (hno i r hi)]
  ·have hn : ¬ Wr [] rs rs.length (j : Int) := by
    rintro (z | ⟨i', s, _, h2, h3⟩)
    ·cases z
    have := h.dis i i' r s hi h2 j (mem_cv.mpr hcv) (wrs_cv h3)
    subst this
    rw [hi] at h2; cases h2
    exact hw h3
   rw [h.keep (by omega) (Nat.le_refl _) hn]
   cases r with
   | put to sg => exact absurd (mem_rngI.mpr hcv) hw
   | take to st c =>
    simp only [RowD.wrs] at hw
    split at hw
    ·rename_i est
     subst est
     obtain ⟨c1, c2⟩ := hcv
     have c1 : st ≤ (j : Int) := c1
     have c2 : (j : Int) < st + (c.toNat : Nat) := c2
     have t2 : st + c ≤ es.length := t2
     have hto : 0 ≤ st := hto
     show _ = ((es.drop st.toNat).take c.toNat)[((j : Int) - st).toNat]?
     rw [hz, List.getElem?_append_left (by omega), List.getElem?_take, if_pos (by omega), List.getElem?_drop]
     congr 1; omega
    ·exact absurd (mem_rngI.mpr hcv) hw
 ·rw [if_neg hj, List.getElem?_eq_none (by omega)]
theorem Scene.late {es C0 nw : List Int} {rs : List RowD} {Cs : Nat → List Int} {k : Nat} {c : Int} (h : Scene es C0 rs Cs) (hl : lateF rs = some (k, c)) (ht : ∀ r ∈ rs, Tells es nw r) : ∃ to st cn v w, rs[k]? = some (.take to st cn) ∧ 0 ≤ c - st + to ∧ (Cs rs.length)[(c - st + to).toNat]? = some v ∧ nw[(c - st + to).toNat]? = some w ∧ v ≠ w := by
 obtain ⟨k', r, e, hr, hcr, hwr, hmin, hno⟩ := lateS_some (n := 0) (wr := []) hl
 have e : k' = k := by omega
 subst e
 have hk : k' < rs.length := (List.getElem?_eq_some_iff.mp hr).1
 obtain ⟨z, hz⟩ := h.z
 have hzl : C0.length = es.length + z := by rw [hz]; simp
 obtain ⟨⟨ok, hneg, hin⟩, hto⟩ := h.good r (List.mem_of_getElem? hr)
 obtain ⟨t1, t2, t3, t4⟩ := ht r (List.mem_of_getElem? hr)
 cases r with
 | put to sg => cases hcr
 | take to st cn =>
  obtain ⟨k1, k2, k3⟩ := ok
  have hcr' := hcr
  simp only [RowD.rds] at hcr'
  split at hcr'
  ·cases hcr'
  rename_i hne
  have hc2 := mem_rngI.mp hcr'
  have hin : st + cn ≤ es.length := hin
  have hto : to + (cn.toNat : Nat) ≤ C0.length := hto
  have h0 : 0 ≤ c := by omega
  obtain ⟨v, hv⟩ : ∃ v, (Cs k')[c.toNat]? = some v := ⟨_, List.getElem?_eq_getElem (by rw [h.run.2.1]; omega)⟩
  obtain ⟨w, hw⟩ : ∃ w, es[c.toNat]? = some w := ⟨_, List.getElem?_eq_getElem (by omega)⟩
  have hvw := (h.strange (Nat.le_of_lt hk) hno h0 hv hw).mpr hwr
  refine ⟨to, st, cn, v, w, hr, by omega, ?_, ?_, hvw⟩
  ·have hw2 : (((c - st + to).toNat : Nat) : Int) ∈ RowD.wrs (.take to st cn) := by
    simp only [RowD.wrs]
    rw [if_neg hne]
    exact mem_rngI.mpr (by omega)
   rw [h.wrote (by omega) hr hw2 hk (Nat.le_refl _)]
   show (Cs k')[(st + ((c - st + to).toNat : Nat) - to).toNat]? = some v
   rw [← hv]; congr 1; omega
  ·have h4 := t4 (c - st).toNat (by show _ < cn.toNat; omega)
   have h4 : nw[(to + ((c - st).toNat : Nat)).toNat]? = ((es.drop st.toNat).take cn.toNat)[(c - st).toNat]? := h4
   rw [List.getElem?_take, if_pos (by omega), List.getElem?_drop] at h4
   rw [show (c - st + to).toNat = (to + ((c - st).toNat : Nat)).toNat by omega, h4, ← hw]
   congr 1; omega
theorem Tl.nw {old at' : Int} {rs : List RowD} {es : List Int} (h : Tl old rs at') (he : (es.length : Int) = old) : ∃ nw : List Int, (nw.length : Int) = at' ∧ ∀ r ∈ rs, Tells es nw r := by
 induction h with
 | nil => exact ⟨[], rfl, fun r z => by cases z⟩
 | @snoc rs at' n r h1 hg ht hn ih =>
  obtain ⟨nw, i1, i2⟩ := ih
  have fit : r.fits es := by
   cases r with
   | put to sg => trivial
   | take to st c => have := hg.2.2; have : st + c ≤ old := this; show st + c ≤ _; omega
  have hsl := RowD.sg_len hg.1 fit
  refine ⟨nw ++ r.sg es, by rw [List.length_append]; omega, fun s hs => ?_⟩
  rcases List.mem_append.mp hs with hs | hs
  ·obtain ⟨t1, t2, t3, t4⟩ := i2 s hs
   refine ⟨t1, t2, by rw [List.length_append]; omega, fun i hi => ?_⟩
   have := t1.to
   rw [List.getElem?_append_left (by omega)]
   exact t4 i hi
  ·rw [List.mem_singleton.mp hs]
   refine ⟨hg.1, fit, by rw [List.length_append]; omega, fun i hi => ?_⟩
   have h0 : (r.to + i).toNat = nw.length + i := by omega
   rw [h0, List.getElem?_append_right (by omega)]
   congr 1; omega
theorem tiled {old new : Int} {rs rs0 : List RowD} {es : List Int} (hp : rs.Perm rs0) (h : Tl old rs0 new) (he : (es.length : Int) = old) : ∃ nw : List Int, (nw.length : Int) = new ∧ (∀ r ∈ rs, Tells es nw r) ∧ (∀ j, j < nw.length → ∃ r ∈ rs, Covers r j) ∧ (∀ r ∈ rs, Good old r ∧ r.to + r.cnt ≤ new) ∧ Dis rs ∧ twiceF rs = none ∧ lacksF rs new.toNat = none := by
 obtain ⟨nw, h1, h2⟩ := h.nw he
 obtain ⟨f1, f2, f3, f4⟩ := h.facts
 have hpf : ((rs.map RowD.cv).flatten).Perm ((rs0.map RowD.cv).flatten) := (hp.map RowD.cv).flatten
 have hnd : (rs.map RowD.cv).flatten.Nodup := hpf.nodup_iff.mpr f2
 have hm : ∀ x, x ∈ (rs.map RowD.cv).flatten ↔ 0 ≤ x ∧ x < new := fun x => by rw [hpf.mem_iff, f3]
 refine ⟨nw, h1, fun r hr => h2 r (hp.mem_iff.mp hr), fun j hj => ?_, fun r hr => f4 r (hp.mem_iff.mp hr), dis_of hnd, ?_, ?_⟩
 ·have := (hm j).mpr ⟨by omega, by omega⟩
  obtain ⟨cs, hc1, hc2⟩ := List.mem_flatten.mp this
  obtain ⟨r, hr, rfl⟩ := List.mem_map.mp hc1
  exact ⟨r, hr, mem_cv.mp hc2⟩
 ·exact tw_none _ _ (by rw [num_snd]; exact hnd) fun x _ z => by cases z
 ·unfold lacksF
  rw [List.find?_eq_none]
  intro c hc
  obtain ⟨i, hi, rfl⟩ := List.mem_map.mp hc
  have := List.mem_range.mp hi
  simp only [Bool.not_eq_true', decide_eq_false_iff_not, Classical.not_not]
  exact (hm _).mpr (by omega)
theorem part_step {C cur : List Int} {r : RowD} {D : List Int} {d : Int} (h : Part C r D cur) (hc : CellsIn r C.length d) (hs : ∀ to st c, r = .take to st c → st + d - to ∉ D) : Part C r (D ++ [d]) (stepP r cur d) := by
 obtain ⟨hl, hv⟩ := h
 obtain ⟨h0, h1, h2⟩ := hc
 have key : ∀ v : Int, newV C r d = some v → stepP r cur d = cur.set d.toNat v → Part C r (D ++ [d]) (stepP r cur d) := fun v e1 e2 => by
  rw [e2]
  refine ⟨by rw [List.length_set]; exact hl, fun j hj => ?_⟩
  rw [List.getElem?_set]
  by_cases e : d.toNat = j
  ·have ej : (j : Int) = d := by omega
   rw [if_pos e, if_pos (by omega), if_pos (List.mem_append_right _ (by simp [ej])), ej, e1]
  ·rw [if_neg e, hv j hj]
   by_cases hm : (j : Int) ∈ D
   ·rw [if_pos hm, if_pos (List.mem_append_left _ hm)]
   ·rw [if_neg hm, if_neg]
    intro z
    rcases List.mem_append.mp z with z | z
    ·exact hm z
    ·have := List.mem_singleton.mp z; omega
 cases r with
 | take to st c =>
  obtain ⟨h3, h4⟩ := h2
  have hlt : (st + d - to).toNat < C.length := by omega
  have e := hv (st + d - to).toNat hlt
  rw [Int.toNat_of_nonneg h3, if_neg (hs to st c rfl), List.getElem?_eq_getElem hlt] at e
  refine key C[(st + d - to).toNat] (List.getElem?_eq_getElem hlt) ?_
  show cur.set d.toNat (cur.getD (st + d - to).toNat 0) = _
  rw [List.getD_eq_getElem?_getD, e]; rfl
 | put to sg =>
  obtain ⟨h3, h4⟩ := h2
  have hlt : (d - to).toNat < sg.length := by omega
  refine key sg[(d - to).toNat] (List.getElem?_eq_getElem hlt) ?_
  show cur.set d.toNat (sg.getD (d - to).toNat 0) = _
  rw [List.getD_eq_getElem?_getD, List.getElem?_eq_getElem hlt]; rfl
theorem part_list {C : List Int} {r : RowD} : ∀ (ds : List Int) {D cur : List Int}, Part C r D cur → (∀ d ∈ ds, CellsIn r C.length d) → (∀ (i : Nat) (d : Int), ds[i]? = some d → ∀ to st c, r = .take to st c → st + d - to ∉ D ++ ds.take i) → Part C r (D ++ ds) (doP r cur ds)
 | [], D, cur, h, _, _ => by rw [List.append_nil]; exact h
 | d :: ds, D, cur, h, hc, ho => by
  have h1 := part_step h (hc d List.mem_cons_self) fun to st c e => by
   have := ho 0 d rfl to st c e
   simpa using this
  have h2 := part_list ds h1 (fun x hx => hc x (List.mem_cons_of_mem _ hx)) fun i x hx to st c e => by
   have := ho (i + 1) x hx to st c e
   simpa using this
  rw [List.append_assoc] at h2
  exact h2
theorem flat_at : ∀ {xss : List (List Int)} {i : Nat} {d : Int}, xss.flatten[i]? = some d → ∃ (k m : Nat) (p : List Int), xss[k]? = some p ∧ p[m]? = some d ∧ xss.flatten.take i = (xss.take k).flatten ++ p.take m
 | [], i, d, h => by simp at h
 | p :: xss, i, d, h => by
  rw [List.flatten_cons] at h ⊢
  by_cases hi : i < p.length
  ·rw [List.getElem?_append_left hi] at h
   exact ⟨0, i, p, rfl, h, by rw [List.take_append_of_le_length (Nat.le_of_lt hi)]; rfl⟩
  ·rw [List.getElem?_append_right (by omega)] at h
   obtain ⟨k, m, q, h1, h2, h3⟩ := flat_at h
   refine ⟨k + 1, m, q, h1, h2, ?_⟩
   rw [List.take_append, h3, List.take_of_length_le (by omega), List.take_succ_cons, List.flatten_cons, List.append_assoc]
theorem doL_row (r : RowD) : ∀ (cs : List (List Int)) (C : List Int), doL C (cs.map fun c => (r, c)) = doP r C cs.flatten
 | [], _ => rfl
 | c :: cs, C => by
  rw [List.flatten_cons]
  show doL (doP r C c) (cs.map fun c => (r, c)) = (c ++ cs.flatten).foldl (stepP r) C
  rw [List.foldl_append, doL_row r cs]; rfl
theorem doL_append (C : List Int) (xs ys : List (RowD × List Int)) : doL C (xs ++ ys) = doL (doL C xs) ys := by
 unfold doL; rw [List.foldl_append]
theorem pcs_eq (r : RowD) : piecesR r = pcs r := by cases r <;> rfl
theorem row_part {C : List Int} {r : RowD} (hk : r.ok) (hc : ∀ c ∈ piecesR r, PieceOk C.length (r, c)) : Part C r (pcs r).flatten (doL C ((piecesR r).map fun c => (r, c))) := by
 rw [doL_row, pcs_eq]
 have := part_list (C := C) (r := r) (pcs r).flatten (D := []) (cur := C) ⟨rfl, fun j hj => by simp⟩ (fun d hd => by
  obtain ⟨p, hp, hd⟩ := List.mem_flatten.mp hd
  exact (hc p (by rw [pcs_eq]; exact hp)).2.2 d hd) fun i d hd to st c e => by
   subst e
   obtain ⟨k, m, p, h1, h2, h3⟩ := flat_at hd
   rw [List.nil_append, h3]
   intro z
   exact pieces_ord hk.2.2 h1 h2 z rfl
 rw [List.nil_append] at this
 exact this
theorem due_take {rs : List RowD} {j : Nat} {r : RowD} (h : rs[j]? = some r) : dueL (rs.take (j + 1)) = dueL (rs.take j) ++ (piecesR r).map fun c => (r, c) := by
 unfold dueL
 rw [List.take_succ, h, List.flatMap_append]; simp
theorem run_do {rs : List RowD} {C0 : List Int} (hk : ∀ r ∈ rs, r.ok) (hc : ∀ x ∈ dueL rs, PieceOk C0.length x) : RunTo rs C0 (fun k => doL C0 (dueL (rs.take k))) rs.length := by
 refine ⟨rfl, fun j => doL_len _ _, fun j r _ hr => ?_⟩
 show Part (doL C0 (dueL (rs.take j))) r _ (doL C0 (dueL (rs.take (j + 1))))
 rw [due_take hr, doL_append]
 have hm := List.mem_of_getElem? hr
 refine row_part (hk r hm) fun c h => ?_
 rw [doL_len]
 exact hc (r, c) (List.mem_flatMap.mpr ⟨r, hm, List.mem_map.mpr ⟨c, h, rfl⟩⟩)
theorem late_of {rs : List RowD} {k : Nat} {r : RowD} {c : Int} (hr : rs[k]? = some r) (hc : c ∈ r.rds) (hw : Wr [] rs k c) (hm : ∀ x ∈ r.rds, Wr [] rs k x → c ≤ x) (hno : ∀ k' r', k' < k → rs[k']? = some r' → ∀ x ∈ r'.rds, ¬ Wr [] rs k' x) : lateF rs = some (k, c) := by
 cases e : lateF rs with
 | none => exact absurd hw (lateS_none (n := 0) (wr := []) e k r hr c hc)
 | some kc =>
  obtain ⟨k2, c2⟩ := kc
  obtain ⟨k', r', e1, h1, h2, h3, h4, h5⟩ := lateS_some (n := 0) (wr := []) e
  have e1 : k' = k2 := by omega
  subst e1
  have ek : k' = k := by
   rcases Nat.lt_trichotomy k' k with z | z | z
   ·exact absurd h3 (hno k' r' z h1 c2 h2)
   ·exact z
   ·exact absurd hw (h5 k r z hr c hc)
  subst ek
  rw [hr] at h1; cases h1
  have a1 := hm c2 h2 h3
  have a2 := h4 c hc hw
  rw [show c2 = c by omega]
theorem late_no {rs : List RowD} (hno : ∀ k r, rs[k]? = some r → ∀ x ∈ r.rds, ¬ Wr [] rs k x) : lateF rs = none := by
 cases e : lateF rs with
 | none => rfl
 | some kc =>
  obtain ⟨k2, c2⟩ := kc
  obtain ⟨k', r', e1, h1, h2, h3, h4, h5⟩ := lateS_some (n := 0) (wr := []) e
  exact absurd h3 (hno k' r' h1 c2 h2)
def sp_Lcovers (K : W.Frag) : Sp := fun vs H Q _ => ∃ (t : Addr) (r : RowD) (c : Int), vs = [.ref t, .int c] ∧ TupAt K H t r ∧ r.ok ∧ Q (.bl (decide (c ∈ r.wrs))) H
theorem ok_covers (T : Txt K mg a) : FnOk P w K mg base CX0 1 a.f_covers a.d_covers ["_law_row", "_law_cell"] (sp_Lcovers K) := by
 refine T.F_covers.ok sc_covers (fun vs H Q E h => ?_) (fun cdv A outer s H vs Q E hr h => ?_)
 ·obtain ⟨t, r, c, rfl, _⟩ := h; rfl
 ·obtain ⟨t, r, c, rfl, ht, hk, q⟩ := h
  have nd := sc_covers.nd
  refine ⟨_, (pss_cons (cs_if (ct_cmp o_eqS (pe_ix ix_tup (cv 0) pe_int (fun _ _ => rfl)) pe_str) (pss_one (ps_ret (ce_and (ce_cmp o_le (pe_ix ix_tup (cv 0) pe_int (fun _ _ => rfl)) (cv 1)) (pe_one (ce_cmp o_lt (cv 1) (pe_op o_add (pe_ix ix_tup (cv 0) pe_int (fun _ _ => rfl)) (pe_callB call_len_seq (by rfl) T.n_len bt_len (pa_cons (pe_ix ix_tup (cv 0) pe_int (fun _ _ => rfl)) pa_nil)))))))) pss_nil)
  (pss_one (ps_ret (ce_and (ce_cmp o_neI (pe_ix ix_tup (cv 0) pe_int (fun _ _ => rfl)) (pe_ix ix_tup (cv 0) pe_int (fun _ _ => rfl))) (ce_and (ce_cmp o_le (pe_ix ix_tup (cv 0) pe_int (fun _ _ => rfl)) (cv 1)) (pe_one (ce_cmp o_lt (cv 1) (pe_op o_add (pe_ix ix_tup (cv 0) pe_int (fun _ _ => rfl)) (pe_ix ix_tup (cv 0) pe_int (fun _ _ => rfl)))))))))), ?_⟩
  walk_at "w"
  cases r with
  | put to sg =>
   obtain ⟨u, h1, h2⟩ := ht
   have hm : (c ∈ RowD.wrs (.put to sg)) ↔ to ≤ c ∧ c < to + sg.length := mem_rngI
   refine ⟨t, _, _, .str "put", rfl, rfl, SqT.of h1, rfl, ?_⟩
   walk_at "w"
   refine ⟨fun _ => ?_, by walk_at "no"⟩
   walk_at "w"
   refine ⟨t, _, _, .int to, rfl, rfl, SqT.of h1, rfl, ?_⟩
   walk_at "w"
   refine ⟨fun e1 => ?_, fun e1 => ?_⟩
   ·walk_at "w"
    refine ⟨t, _, _, .int to, rfl, rfl, SqT.of h1, rfl, ?_⟩
    walk_at "w"
    refine ⟨t, _, _, .ref u, rfl, rfl, SqT.of h1, rfl, ?_⟩
    walk_at "w"
    refine ⟨u, _, rfl, .inr (SqT.of h2), ?_⟩
    walk_at "w"
    have e1 : to ≤ c := of_decide_eq_true e1
    have ed : decide (c ∈ RowD.wrs (.put to sg)) = decide (c < to + ((sg.map V.int).length : Nat)) := by
     rw [decide_eq_decide, hm, List.length_map]; omega
    rw [ed] at q
    exact q
   ·have e1 : ¬ to ≤ c := of_decide_eq_false e1
    rw [decide_eq_false (fun z => e1 (hm.mp z).1)] at q
    exact q
  | take to st n =>
   have h1 : H t = some (.tup [.str "take", .int to, .int st, .int n]) := ht
   have hn : 1 ≤ n := hk.2.2
   have hm : (c ∈ RowD.wrs (.take to st n)) ↔ to ≠ st ∧ to ≤ c ∧ c < to + n := by
    simp only [RowD.wrs]
    split
    ·rename_i h; simp [h]
    ·rename_i h
     rw [mem_rngI, Int.toNat_of_nonneg (by omega)]
     exact ⟨fun z => ⟨fun y => h y.symm, z⟩, fun z => z.2⟩
   refine ⟨t, _, _, .str "take", rfl, rfl, SqT.of h1, rfl, ?_⟩
   walk_at "w"
   refine ⟨by walk_at "no", fun _ => ?_⟩
   walk_at "w"
   refine ⟨t, _, _, .int to, rfl, rfl, SqT.of h1, rfl, ?_⟩
   walk_at "w"
   refine ⟨t, _, _, .int st, rfl, rfl, SqT.of h1, rfl, ?_⟩
   walk_at "w"
   refine ⟨fun e1 => ?_, fun e1 => ?_⟩
   ·have e1 : to ≠ st := by simpa using e1
    walk_at "w"
    refine ⟨t, _, _, .int to, rfl, rfl, SqT.of h1, rfl, ?_⟩
    walk_at "w"
    refine ⟨fun e2 => ?_, fun e2 => ?_⟩
    ·have e2 : to ≤ c := of_decide_eq_true e2
     walk_at "w"
     refine ⟨t, _, _, .int to, rfl, rfl, SqT.of h1, rfl, ?_⟩
     walk_at "w"
     refine ⟨t, _, _, .int n, rfl, rfl, SqT.of h1, rfl, ?_⟩
     walk_at "w"
     have ed : decide (c ∈ RowD.wrs (.take to st n)) = decide (c < to + n) := by
      rw [decide_eq_decide, hm]; exact ⟨fun z => z.2.2, fun z => ⟨e1, e2, z⟩⟩
     rw [ed] at q
     exact q
    ·have e2 : ¬ to ≤ c := of_decide_eq_false e2
     rw [decide_eq_false (fun z => e2 (hm.mp z).2.1)] at q
     exact q
   ·have e1 : to = st := by simpa using e1
    rw [decide_eq_false (fun z => (hm.mp z).1 e1)] at q
    exact q
def sp_first (K : W.Frag) : Sp := fun vs H Q _ => ∃ (tt : Addr) (us : List Addr) (rs : List RowD), vs = [.ref tt] ∧ H tt = some (.tup (us.map V.ref)) ∧ Paired (TupAt K H) us rs ∧ (∀ r ∈ rs, r.ok ∧ r.cnt ≤ 1000) ∧ us.length ≤ 300 ∧ resKC H Q "late" (lateF rs)
theorem TupAt.uniq {H : Hp} {t : Addr} {r r' : RowD} (h : TupAt K H t r) (h' : TupAt K H t r') : r = r' := by
 cases r with
 | take to st c => cases r' with
  | take to' st' c' =>
   have h1 : H t = some (.tup [.str "take", .int to, .int st, .int c]) := h
   have h2 : H t = some (.tup [.str "take", .int to', .int st', .int c']) := h'
   rw [h1] at h2; cases h2; rfl
  | put to' sg' =>
   obtain ⟨u, h2, _⟩ := h'
   have h1 : H t = some (.tup [.str "take", .int to, .int st, .int c]) := h
   rw [h1] at h2; cases h2
 | put to sg =>
  obtain ⟨u, h1, h1'⟩ := h
  cases r' with
  | take to' st' c' =>
   have h2 : H t = some (.tup [.str "take", .int to', .int st', .int c']) := h'
   rw [h1] at h2; cases h2
  | put to' sg' =>
   obtain ⟨u', h2, h2'⟩ := h'
   rw [h1] at h2; cases h2
   rw [h1'] at h2'
   have h3 : sg.map V.int = sg'.map V.int := by injection h2' with z; injection z
   rw [List.map_inj_right (fun x y z => by injection z)] at h3
   rw [h3]
noncomputable def wrP (K : W.Frag) (H : Hp) (c : Int) (v : V) : Bool := @decide (∃ (t : Addr) (r : RowD), v = .ref t ∧ TupAt K H t r ∧ c ∈ r.wrs) (Classical.propDecidable _)
theorem wrP_at {H : Hp} {t : Addr} {r : RowD} {c : Int} (h : TupAt K H t r) : wrP K H c (.ref t) = decide (c ∈ r.wrs) := by
 unfold wrP
 by_cases hc : c ∈ r.wrs
 ·rw [decide_eq_true hc]
  exact @decide_eq_true _ (Classical.propDecidable _) ⟨t, r, rfl, h, hc⟩
 ·rw [decide_eq_false hc]
  refine @decide_eq_false _ (Classical.propDecidable _) ?_
  rintro ⟨t', r', e, h', hc'⟩
  cases e
  rw [h.uniq h'] at hc
  exact hc hc'
theorem paired_take {α β : Type} {F : α → β → Prop} : ∀ {l₁ : List α} {l₂ : List β} (n : Nat), Paired F l₁ l₂ → Paired F (l₁.take n) (l₂.take n)
 | _, _, 0, _ => .nil
 | _, _, _ + 1, .nil => .nil
 | _, _, n + 1, .cons r t => .cons r (paired_take n t)
theorem wr_filter {H : Hp} (c : Int) : ∀ {us : List Addr} {rs : List RowD}, Paired (TupAt K H) us rs → ∃ fs es, (us.map V.ref).filter (wrP K H c) = fs.map V.ref ∧ Paired (TupAt K H) fs es ∧ (es ≠ [] ↔ ∃ r ∈ rs, c ∈ r.wrs)
 | _, _, .nil => ⟨[], [], rfl, .nil, by simp⟩
 | u :: us, r :: rs, .cons h t => by
  obtain ⟨fs, es, h1, h2, h3⟩ := wr_filter c t
  rw [List.map_cons, List.filter_cons, wrP_at h, h1]
  by_cases hc : c ∈ r.wrs
  ·rw [decide_eq_true hc, if_pos rfl]
   exact ⟨u :: fs, r :: es, rfl, .cons h h2, by simp [hc]⟩
  ·rw [decide_eq_false hc, if_neg (by simp)]
   exact ⟨fs, es, rfl, h2, by rw [h3]; simp [hc]⟩
theorem wr_take {rs : List RowD} {i : Nat} {c : Int} : (∃ r ∈ rs.take i, c ∈ r.wrs) ↔ Wr [] rs i c := by
 constructor
 ·rintro ⟨r, hr, hc⟩
  obtain ⟨j, hj⟩ := List.mem_iff_getElem?.mp hr
  rw [List.getElem?_take] at hj
  split at hj
  ·rename_i hlt; exact .inr ⟨j, r, hlt, hj, hc⟩
  ·cases hj
 ·rintro (z | ⟨j, r, h1, h2, h3⟩)
  ·cases z
  ·exact ⟨r, List.mem_of_getElem? (i := j) (by rw [List.getElem?_take, if_pos h1]; exact h2), h3⟩
theorem cut_toV (xs : List V) (i : Nat) : cutV xs none (some (i : Int)) = xs.take i := by
 unfold cutV
 rw [sIx_nn (by omega), HT.sIx_none, Int.toNat_natCast, List.drop_zero]
 simp [← List.take_eq_take_min]
theorem ok_first (T : Txt K mg a) : FnOk P w K mg base CX0 2 a.f_first a.d_first ["_law_rows"] (sp_first K) := by
 refine T.F_first.ok sc_first (fun vs H Q E h => ?_) (fun cdv A outer s H vs Q E hr h => ?_)
 ·obtain ⟨tt, us, rs, rfl, _⟩ := h; rfl
 ·obtain ⟨tt, us, rs, rfl, ht, hus, hok, hul, q⟩ := h
  have nd := sc_first.nd
  refine ⟨_, (pss_cons (cs_for PassesOwn.never rfl (ci_range1 (by rfl) T.n_range (pa_cons (pe_callB call_len_seq (by rfl) T.n_len bt_len (pa_cons (cv 0) pa_nil)) pa_nil)) (pg_name (i := 1) nd rfl (Or.inl rfl)) (pss_one (cs_if (PW.pt (cw_and (ct_cmp o_eqS (pe_ix ix_tup (pe_ix ix_tup (cv 0) (cv 1) (fun _ _ => rfl)) pe_int (fun _ _ => rfl)) pe_str) (pw_and1 (ct_cmp o_neI (pe_ix ix_tup (pe_ix ix_tup (cv 0) (cv 1) (fun _ _ => rfl)) pe_int (fun _ _ => rfl)) (pe_ix ix_tup (pe_ix ix_tup (cv 0) (cv 1) (fun _ _ => rfl)) pe_int (fun _ _ => rfl)))))) (pss_one (cs_for PassesOwn.never rfl (ci_range2 (by rfl) T.n_range (pa_cons (pe_ix ix_tup (pe_ix ix_tup (cv 0) (cv 1) (fun _ _ => rfl)) pe_int (fun _ _ => rfl)) (pa_cons (pe_op o_add (pe_ix ix_tup (pe_ix ix_tup (cv 0) (cv 1) (fun _ _ => rfl)) pe_int (fun _ _ => rfl)) (pe_ix ix_tup (pe_ix ix_tup (cv 0) (cv 1) (fun _ _ => rfl)) pe_int (fun _ _ => rfl))) pa_nil))) (pg_name (i := 2) nd rfl (Or.inr rfl)) (pss_one (cs_if (ct_cmp (o_dne hr.units) (pe_comp (blk_mk (cap := [2]) (ys := ["_law_cell"]) rfl rfl rfl rfl rfl ⟨⟨rfl, rfl, .inl rfl⟩, trivial⟩ (by decide +kernel)) rfl (pi_tup (pe_slice sl_tup (cv 0) po_none (po_some (cv 1)))) (fun _ _ _ _ => (cv 0)) (fun _ _ _ _ => (cts_one (ct_val (pe_call (ok_covers T) (hr.mono (by decide)) (by rfl) T.m_covers T.F_covers.kp T.b_covers .nil pass0 (pa_cons (cv 0) (pa_cons (cv 1) pa_nil))))))) (pe_lst pa_nil)) (pss_one (ps_ret (pe_tup (pa_cons pe_str (pa_cons (cv 1) (pa_cons (cv 2) pa_nil)))))) pss_nil)))) pss_nil)))
  (pss_one (ps_ret pe_non))), ?_⟩
  have hel : us.length = rs.length := hus.length
  walk_at "w"
  refine ⟨tt, _, rfl, .inr (SqT.of ht), ?_⟩
  walk_at "w"
  rw [List.length_map]
  have er : rngN 0 (us.length : Int) 1 = us.length := by rw [rngN_one]; omega
  rw [er]
  refine forAt_its (fun i σ G => Same H G ∧ (∃ x1 x2 : Option V, σ = [some (.ref tt), x1, x2]) ∧ ∀ k r, k < i → rs[k]? = some r → ∀ x ∈ r.rds, ¬ Wr [] rs k x)
   ⟨Same.refl _, ⟨_, _, rfl⟩, fun k r z => absurd z (Nat.not_lt_zero _)⟩ (fun i σ G hi hP => ?_) (fun σ G hP => ?_)
  ·obtain ⟨sG, ⟨x1, x2, rfl⟩, hno⟩ := hP
   obtain ⟨t, htu⟩ : ∃ t, us[i]? = some t := ⟨_, List.getElem?_eq_getElem hi⟩
   obtain ⟨r, hr', hT⟩ := Paired.nth hus htu
   have hT := hT.same sG
   have a1 : atI (us.map V.ref) (0 + (i : Int) * 1) = some (.ref t) := by
    rw [show 0 + (i : Int) * 1 = (i : Int) by omega]; exact atI_nat (by rw [List.getElem?_map, htu]; rfl)
   have stay : r.rds = [] → ∀ k r, k < i + 1 → rs[k]? = some r → ∀ x ∈ r.rds, ¬ Wr [] rs k x := fun e k r2 hk h2 x hx => by
    by_cases ek : k = i
    ·subst ek
     rw [hr'] at h2; cases h2
     rw [e] at hx; cases hx
    ·exact hno k r2 (by omega) h2 x hx
   walk_at "w"
   refine ⟨tt, _, _, _, rfl, rfl, SqT.of (sG.at ht), a1, ?_⟩
   walk_at "w"
   cases r with
   | put to sg =>
    obtain ⟨u, h1, h2⟩ := hT
    refine ⟨t, _, _, .str "put", rfl, rfl, SqT.of h1, rfl, ?_⟩
    walk_at "w"
    refine ⟨by walk_at "no", fun _ => ?_⟩
    exact ⟨by walk_at "no", fun _ => ⟨sG, ⟨_, _, rfl⟩, stay rfl⟩⟩
   | take to st n =>
    have h1 : G t = some (.tup [.str "take", .int to, .int st, .int n]) := hT
    refine ⟨t, _, _, .str "take", rfl, rfl, SqT.of h1, rfl, ?_⟩
    walk_at "w"
    refine ⟨fun _ => ?_, by walk_at "no"⟩
    walk_at "w"
    refine ⟨tt, _, _, _, rfl, rfl, SqT.of (sG.at ht), a1, ?_⟩
    walk_at "w"
    refine ⟨t, _, _, .int to, rfl, rfl, SqT.of h1, rfl, ?_⟩
    walk_at "w"
    refine ⟨tt, _, _, _, rfl, rfl, SqT.of (sG.at ht), a1, ?_⟩
    walk_at "w"
    refine ⟨t, _, _, .int st, rfl, rfl, SqT.of h1, rfl, ?_⟩
    walk_at "w"
    refine ⟨fun e1 => ?_, fun e1 => ?_⟩
    rotate_left
    ·have e1 : to = st := by simpa using e1
     exact ⟨sG, ⟨_, _, rfl⟩, stay (by simp [RowD.rds, e1])⟩
    have e1 : to ≠ st := by simpa using e1
    obtain ⟨hk, hcn⟩ := hok _ (List.mem_of_getElem? hr')
    have hn : 1 ≤ n := hk.2.2
    have hcn : n.toNat ≤ 1000 := hcn
    have hrd : ∀ x, x ∈ RowD.rds (.take to st n) ↔ st ≤ x ∧ x < st + n := fun x => by
     simp only [RowD.rds]
     rw [if_neg (fun z => e1 z.symm), mem_rngI, Int.toNat_of_nonneg (by omega)]
    walk_at "w"
    refine ⟨tt, _, _, _, rfl, rfl, SqT.of (sG.at ht), a1, ?_⟩
    walk_at "w"
    refine ⟨t, _, _, .int st, rfl, rfl, SqT.of h1, rfl, ?_⟩
    walk_at "w"
    refine ⟨tt, _, _, _, rfl, rfl, SqT.of (sG.at ht), a1, ?_⟩
    walk_at "w"
    refine ⟨t, _, _, .int st, rfl, rfl, SqT.of h1, rfl, ?_⟩
    walk_at "w"
    refine ⟨tt, _, _, _, rfl, rfl, SqT.of (sG.at ht), a1, ?_⟩
    walk_at "w"
    refine ⟨t, _, _, .int n, rfl, rfl, SqT.of h1, rfl, ?_⟩
    walk_at "w"
    have er2 : rngN st (st + n) 1 = n.toNat := by rw [rngN_one]; omega
    rw [er2]
    refine forAt_its (fun j σ G => Same H G ∧ (∃ x2 : Option V, σ = [some (.ref tt), some (.int (0 + (i : Int) * 1)), x2]) ∧ ∀ x, st ≤ x → x < st + j → ¬ Wr [] rs i x)
     ⟨sG, ⟨_, rfl⟩, fun x z1 z2 => by omega⟩ (fun j σ G2 hj hP => ?_) (fun σ G2 hP => ?_)
    ·obtain ⟨sG2, ⟨x3, rfl⟩, hnj⟩ := hP
     walk_at "w"
     refine ⟨_, rfl, ?_⟩
     walk_at "w"
     refine ⟨tt, _, rfl, SqT.of (sG2.at ht), ?_⟩
     have ei : (0 : Int) + (i : Int) * 1 = (i : Int) := by omega
     have e0 : cutV (us.map V.ref) none (some (0 + (i : Int) * 1)) = (us.take i).map V.ref := by rw [ei, cut_toV, List.map_take]
     refine And.intro (fun z => ?_) ?_
     ·have z2 := z.2
      rw [ei, sIx_nn (by omega), Int.toNat_natCast, List.length_map] at z2
      omega
     intro sl hsl
     generalize hUsl : upd G2 sl _ = G3
     have sG3 := Same.of_eq hsl hUsl
     have esl := at_of_eq hUsl
     clear hUsl
     walk_at "w"
     rw [e0] at esl
     have sG3 : Same H G3 := sG2.trans sG3
     obtain ⟨c, hc⟩ : ∃ c : Int, c = st + (j : Int) * 1 := ⟨_, rfl⟩
     rw [← hc]
     have husi : Paired (TupAt K H) (us.take i) (rs.take i) := paired_take i hus
     refine ⟨sl, rfl, ⟨_, SqT.of esl⟩, ?_⟩
     refine comp_tupF (wrP K H c) id (SqT.of esl) (by rw [List.length_map, List.length_take, sizeLine_eq]; omega) (fun v G5 hv s5 R hR => ?_) (fun v G5 hv _ s5 R hR => ?_) (fun D G5 hD s5 eD => ?_)
     ·obtain ⟨u, hu, rfl⟩ := List.mem_map.mp hv
      obtain ⟨r', hr2, hT2⟩ := Paired.mem husi hu
      walk_at "w"
      refine ⟨u, r', c, rfl, hT2.same (sG3.trans s5), (hok r' (List.mem_of_mem_take hr2)).1, ?_⟩
      have := hR G5 (Same.refl _)
      rw [wrP_at hT2] at this
      exact this
     ·exact hR _ (Same.refl _)
     rw [List.map_id] at eD
     obtain ⟨fs, es, hfs, hps, hmem⟩ := wr_filter c husi
     rw [hfs] at eD
     have sG5 : Same H G5 := sG3.trans s5
     walk_at "w"
     walk_at "ss"
     intro em hem
     generalize hUem : upd G5 em _ = G6
     have sG6 := Same.of_eq hem hUem
     have eem := at_of_eq hUem
     clear hUem
     walk_at "w"
     have hpe : Paired (TupAt K G6) fs es := L2.Paired.imp' (fun _ _ z => z.same (sG5.trans sG6)) hps
     cases es with
     | nil =>
      cases hpe
      refine deq_same (f := fun b => !b) (d := .list []) (.lst (SqL.of (sG6.at eD)) .nil) (.lst (SqL.of eem) .nil) (by decide +kernel) ?_
      walk_at "w"
      refine ⟨by walk_at "no", fun _ => ?_⟩
      refine ⟨sG5.trans sG6, ⟨_, rfl⟩, fun x z1 z2 => ?_⟩
      by_cases ex : x = c
      ·subst ex
       exact fun z => hmem.mpr (wr_take.mpr z) rfl
      ·exact hnj x z1 (by omega)
     | cons e0' es' =>
      refine ⟨_, _, .lst (SqL.of (sG6.at eD)) (tups_rp hpe), .lst (SqL.of eem) .nil, dats_shaped _, by decide +kernel, ?_⟩
      have ev : PyData.eqv (.list ((e0' :: es').map RowD.dat)) (.list []) = false := by simp [PyData.eqv, PyData.eqvAll]
      rw [ev]
      walk_at "w"
      refine ⟨fun _ => ?_, by walk_at "no"⟩
      walk_at "w"
      walk_at "ss"
      intro rt hrt
      generalize hUrt : upd G6 rt _ = G7
      have sG7 := Same.of_eq hrt hUrt
      have ert := at_of_eq hUrt
      clear hUrt
      walk_at "w"
      have hw : Wr [] rs i c := wr_take.mp (hmem.mp (by simp))
      rw [late_of hr' ((hrd c).mpr (by omega)) hw (fun x hx z => by
       have hx := (hrd x).mp hx
       apply Classical.byContradiction
       intro hlt
       exact hnj x hx.1 (by omega) z) (fun k r2 hk h2 x hx => hno k r2 hk h2 x hx)] at q
      exact q rt G7 ((sG5.trans sG6).trans sG7) (by rw [ert, ei])
    ·obtain ⟨sG2, ⟨x3, rfl⟩, hnj⟩ := hP
     refine ⟨sG2, ⟨_, _, rfl⟩, fun k r2 hk h2 x hx => ?_⟩
     by_cases ek : k = i
     ·subst ek
      rw [hr'] at h2; cases h2
      have hx := (hrd x).mp hx
      exact hnj x hx.1 (by omega)
     ·exact hno k r2 (by omega) h2 x hx
  ·obtain ⟨sG, ⟨x1, x2, rfl⟩, hno⟩ := hP
   walk_at "w"
   rw [late_no (fun k r hk => hno k r (by have := (List.getElem?_eq_some_iff.mp hk).1; omega) hk)] at q
   exact q G sG
def AgreeV (S : Nat → Prop) (ys : List V) (nw : List Int) : Prop := ys.length = nw.length ∧ ∀ j, S j → ys[j]? = (nw.map V.int)[j]?
theorem AgreeV.set {S S' : Nat → Prop} {ys : List V} {nw : List Int} {c : Nat} {v : Int} (h : AgreeV S ys nw) (hv : nw[c]? = some v) (hS : ∀ j, S' j → S j ∨ j = c) : AgreeV S' (ys.set c (.int v)) nw := by
 refine ⟨by rw [List.length_set]; exact h.1, fun j hj => ?_⟩
 have hc : c < nw.length := (List.getElem?_eq_some_iff.mp hv).1
 rw [List.getElem?_set]
 by_cases e : c = j
 ·subst e
  rw [if_pos rfl, if_pos (by rw [h.1]; exact hc), List.getElem?_map, hv]; rfl
 ·rw [if_neg e]
  rcases hS j hj with z | z
  ·exact h.2 j z
  ·exact absurd z.symm e
theorem AgreeV.all {S : Nat → Prop} {ys : List V} {nw : List Int} (h : AgreeV S ys nw) (k : ∀ j, j < nw.length → S j) : ys = nw.map V.int := by
 apply List.ext_getElem?
 intro j
 by_cases hj : j < nw.length
 ·exact h.2 j (k j hj)
 ·rw [List.getElem?_eq_none (by rw [h.1]; omega), List.getElem?_eq_none (by rw [List.length_map]; omega)]
def sp_Lmeant (K : W.Frag) : Sp := fun vs H Q _ => ∃ (p e : Addr) (o : Int) (rs : List RowD) (es nw : List Int), vs = [.ref p, .ref e] ∧ PapAt K H p o nw.length rs ∧ H e = some (.lst (es.map V.int)) ∧ (∀ r ∈ rs, Tells es nw r) ∧ (∀ j, j < nw.length → ∃ r ∈ rs, Covers r j) ∧ nw.length ≤ 1000 ∧ newL H Q nw
theorem ok_meant (T : Txt K mg a) : FnOk P w K mg base CX0 1 a.f_meant a.d_meant ["_law_paper_here", "_law_elder"] (sp_Lmeant K) := by
 refine T.F_meant.ok sc_meant (fun vs H Q E h => ?_) (fun cdv A outer s H vs Q E hr h => ?_)
 ·obtain ⟨p, e, o, rs, es, nw, rfl, _⟩ := h; rfl
 ·obtain ⟨p, e, o, rs, es, nw, rfl, ⟨t, ts, hp, ht, hts⟩, he, htl, hcv, hnw, k⟩ := h
  have nd := sc_meant.nd
  refine ⟨_, (pss_cons (ps_set (i := 2) nd rfl (Or.inl rfl) (pe_op op_rep (pe_lst (pa_cons pe_non pa_nil)) (pe_ix ix_tup (cv 0) pe_int (fun _ _ => rfl))))
  (pss_cons (cs_for PassesOwn.never rfl (pi_tup (pe_ix ix_tup (cv 0) pe_int (fun _ _ => rfl))) (pg_name (i := 3) nd rfl (Or.inl rfl)) (pss_one (cs_if (ct_cmp o_eqS (pe_ix ix_tup (cv 3) pe_int (fun _ _ => rfl)) pe_str) (pss_one (cs_for PassesOwn.never rfl (ci_range1 (by rfl) T.n_range (pa_cons (pe_ix ix_tup (cv 3) pe_int (fun _ _ => rfl)) pa_nil)) (pg_name (i := 4) nd rfl (Or.inl rfl)) (pss_one (ps_asg (pe_ix ix_list (cv 1) (pe_op o_add (pe_ix ix_tup (cv 3) pe_int (fun _ _ => rfl)) (cv 4)) (fun _ _ => rfl)) (pg_sub (cv 2) (pe_op o_add (pe_ix ix_tup (cv 3) pe_int (fun _ _ => rfl)) (cv 4)) set_list))))) (pss_one (cs_for PassesOwn.never rfl (ci_range1 (by rfl) T.n_range (pa_cons (pe_callB call_len_seq (by rfl) T.n_len bt_len (pa_cons (pe_ix ix_tup (cv 3) pe_int (fun _ _ => rfl)) pa_nil)) pa_nil)) (pg_name (i := 4) nd rfl (Or.inl rfl)) (pss_one (ps_asg (pe_ix ix_tup (pe_ix ix_tup (cv 3) pe_int (fun _ _ => rfl)) (cv 4) (fun _ _ => rfl)) (pg_sub (cv 2) (pe_op o_add (pe_ix ix_tup (cv 3) pe_int (fun _ _ => rfl)) (cv 4)) set_list))))))))
  (pss_one (ps_ret (cv 2))))), ?_⟩
  have tl : ts.length = rs.length := hts.length
  walk_at "w"
  walk_at "ss"
  intro l0 hl0
  generalize hUl0 : upd H l0 _ = H1
  have sH1 := Same.of_eq hl0 hUl0
  have el0 := at_of_eq hUl0
  clear hUl0
  walk_at "w"
  refine ⟨p, _, _, .int nw.length, rfl, rfl, SqT.of (sH1.at hp), rfl, ?_⟩
  walk_at "w"
  refine ⟨l0, _, _, rfl, rfl, el0, by omega, by omega, by simp [sizeLine_eq]; omega, ?_⟩
  intro nl hnl
  generalize hUnl : upd H1 nl _ = H2
  have sH2 := Same.of_eq hnl hUnl
  have enl := at_of_eq hUnl
  clear hUnl
  walk_at "w"
  have ef : (List.replicate ((nw.length : Nat) : Int).toNat [V.non]).flatten = List.replicate nw.length V.non := by
   rw [List.flatten_replicate_singleton, Int.toNat_natCast]
  rw [ef] at enl
  have s2 : Same H H2 := sH1.trans sH2
  have hnl0 : H nl = none := sH1.back hnl
  refine ⟨p, _, _, .ref t, rfl, rfl, SqT.of (s2.at hp), rfl, ?_⟩
  walk_at "w"
  refine ⟨t, rfl, ⟨_, SqT.of (s2.at ht)⟩, ?_⟩
  refine forAt_tup (xs := ts.map V.ref) (fun k σ G => Same H G ∧ ∃ ys x3 x4, σ = [some (.ref p), some (.ref e), some (.ref nl), x3, x4] ∧ G nl = some (.lst ys) ∧ AgreeV (fun j => ∃ r ∈ rs.take k, Covers r j) ys nw) ⟨s2, _, _, _, rfl, enl, by simp, fun j hj => ?_⟩ (fun i σ G hi hP1 => ?_) (fun k0 x σ G hx hP1 => ?_) (fun σ G hP1 => ?_)
  ·obtain ⟨r, hr1, _⟩ := hj; simp at hr1
  ·exact SqT.of (hP1.1.at ht)
  ·obtain ⟨sG, ys, x3, x4, rfl, enl', hag⟩ := hP1
   rw [List.getElem?_map] at hx
   obtain ⟨t0, hb, rfl⟩ := Option.map_eq_some_iff.mp hx
   obtain ⟨r, hr0, pr⟩ := Paired.nth hts hb
   obtain ⟨g1, g2, g3, g4⟩ := htl r (List.mem_of_getElem? hr0)
   have gto := g1.to
   have tk : rs.take (k0 + 1) = rs.take k0 ++ [r] := by rw [List.take_succ, hr0]; rfl
   have stp : ∀ {G5 : Hp} {ys5 : List V} {i : Nat}, Same H G5 → G5 nl = some (.lst ys5) → AgreeV (fun j => (∃ r ∈ rs.take k0, Covers r j) ∨ (r.to ≤ j ∧ (j : Int) < r.to + i)) ys5 nw → ∀ v, (r.sg es)[i]? = some v → i < r.cnt → ∀ G6, upd G5 nl (.lst (ys5.set (r.to + i).toNat (.int v))) = G6 →
     Same H G6 ∧ G6 nl = some (.lst (ys5.set (r.to + i).toNat (.int v))) ∧ AgreeV (fun j => (∃ r ∈ rs.take k0, Covers r j) ∨ (r.to ≤ j ∧ (j : Int) < r.to + ((i + 1 : Nat) : Int))) (ys5.set (r.to + i).toNat (.int v)) nw := fun {G5 ys5 i} s5 e5 hag5 v hv hil G6 hU => by
    refine ⟨Same.wr s5 hnl0 hU, by rw [← hU, upd_same], hag5.set ((g4 i hil).trans hv) fun j hj => ?_⟩
    rcases hj with z | z
    ·exact .inl (.inl z)
    ·by_cases hlt : (j : Int) < r.to + i
     ·exact .inl (.inr ⟨z.1, hlt⟩)
     ·exact .inr (by omega)
   have fin : ∀ {G5 : Hp} {ys5 : List V}, Same H G5 → G5 nl = some (.lst ys5) → AgreeV (fun j => (∃ r ∈ rs.take k0, Covers r j) ∨ (r.to ≤ j ∧ (j : Int) < r.to + r.cnt)) ys5 nw → AgreeV (fun j => ∃ r ∈ rs.take (k0 + 1), Covers r j) ys5 nw := fun {G5 ys5} s5 e5 hag5 => by
    refine ⟨hag5.1, fun j hj => ?_⟩
    obtain ⟨r', hr', hc'⟩ := hj
    rw [tk] at hr'
    rcases List.mem_append.mp hr' with z | z
    ·exact hag5.2 j (.inl ⟨r', z, hc'⟩)
    ·rw [List.mem_singleton.mp z] at hc'
     exact hag5.2 j (.inr ⟨hc'.1, hc'.2⟩)
   have h00 : AgreeV (fun j => (∃ r ∈ rs.take k0, Covers r j) ∨ (r.to ≤ j ∧ (j : Int) < r.to + ((0 : Nat) : Int))) ys nw := ⟨hag.1, fun j hj => by
    rcases hj with z | z
    ·exact hag.2 j z
    ·omega⟩
   walk_at "w"
   cases r with
   | put to sg =>
    obtain ⟨u, q1, q2⟩ := pr
    refine ⟨t0, _, _, .str "put", rfl, rfl, SqT.of (sG.at q1), rfl, ?_⟩
    walk_at "w"
    refine ⟨by walk_at "no", fun _ => ?_⟩
    walk_at "w"
    refine ⟨t0, _, _, .ref u, rfl, rfl, SqT.of (sG.at q1), rfl, ?_⟩
    walk_at "w"
    refine ⟨u, _, rfl, .inr (SqT.of (sG.at q2)), ?_⟩
    walk_at "w"
    have er : rngN 0 (((sg.map V.int).length : Nat) : Int) 1 = sg.length := by rw [rngN_one, List.length_map]; omega
    rw [er]
    refine forAt_its (fun i σ G => Same H G ∧ ∃ ys x4, σ = [some (.ref p), some (.ref e), some (.ref nl), some (.ref t0), x4] ∧ G nl = some (.lst ys) ∧ AgreeV (fun j => (∃ r ∈ rs.take k0, Covers r j) ∨ (to ≤ j ∧ (j : Int) < to + i)) ys nw)
     ⟨sG, ys, _, rfl, enl', h00⟩ (fun i σ G5 hi hP2 => ?_) (fun σ G5 hP2 => ?_)
    ·obtain ⟨s5, ys5, y4, rfl, enl5, hag5⟩ := hP2
     have ei : (0 : Int) + (i : Int) * 1 = (i : Int) := by omega
     obtain ⟨v, hv⟩ : ∃ v, sg[i]? = some v := ⟨_, List.getElem?_eq_getElem hi⟩
     walk_at "w"
     rw [ei]
     refine ⟨t0, _, _, .ref u, rfl, rfl, SqT.of (s5.at q1), rfl, ?_⟩
     walk_at "w"
     refine ⟨u, _, _, .int v, rfl, rfl, SqT.of (s5.at q2), atI_nat (by rw [List.getElem?_map, hv]; rfl), ?_⟩
     walk_at "w"
     refine ⟨t0, _, _, .int to, rfl, rfl, SqT.of (s5.at q1), rfl, ?_⟩
     walk_at "w"
     refine ⟨nl, _, _, (to + i).toNat, rfl, rfl, enl5, ixN_in (by have : 0 ≤ to := gto; omega) (by rw [hag5.1]; have : to + (sg.length : Nat) ≤ nw.length := g3; omega), ?_⟩
     generalize hU : upd G5 nl _ = G6
     obtain ⟨k1, k2, k3⟩ := stp s5 enl5 hag5 v hv hi G6 hU
     exact ⟨k1, _, _, rfl, k2, k3⟩
    ·obtain ⟨s5, ys5, y4, rfl, enl5, hag5⟩ := hP2
     exact ⟨s5, _, _, _, rfl, enl5, fin s5 enl5 hag5⟩
   | take to st c =>
    obtain ⟨b1, b2, b3⟩ := g1
    have q1 : H t0 = some (.tup [.str "take", .int to, .int st, .int c]) := pr
    refine ⟨t0, _, _, .str "take", rfl, rfl, SqT.of (sG.at q1), rfl, ?_⟩
    walk_at "w"
    refine ⟨fun _ => ?_, by walk_at "no"⟩
    walk_at "w"
    refine ⟨t0, _, _, .int c, rfl, rfl, SqT.of (sG.at q1), rfl, ?_⟩
    walk_at "w"
    have er : rngN 0 c 1 = c.toNat := by rw [rngN_one]; omega
    rw [er]
    refine forAt_its (fun i σ G => Same H G ∧ ∃ ys x4, σ = [some (.ref p), some (.ref e), some (.ref nl), some (.ref t0), x4] ∧ G nl = some (.lst ys) ∧ AgreeV (fun j => (∃ r ∈ rs.take k0, Covers r j) ∨ (to ≤ j ∧ (j : Int) < to + i)) ys nw)
     ⟨sG, ys, _, rfl, enl', h00⟩ (fun i σ G5 hi hP2 => ?_) (fun σ G5 hP2 => ?_)
    ·obtain ⟨s5, ys5, y4, rfl, enl5, hag5⟩ := hP2
     have ei : (0 : Int) + (i : Int) * 1 = (i : Int) := by omega
     obtain ⟨v, hv⟩ : ∃ v, (RowD.sg es (.take to st c))[i]? = some v := ⟨_, List.getElem?_eq_getElem (by rw [RowD.sg_len (r := .take to st c) ⟨b1, b2, b3⟩ g2]; exact hi)⟩
     have hv2 : es[(st + i).toNat]? = some v := by
      have hv : ((es.drop st.toNat).take c.toNat)[i]? = some v := hv
      rw [List.getElem?_take_of_lt hi, List.getElem?_drop] at hv
      rw [← hv]; congr 1; omega
     walk_at "w"
     rw [ei]
     refine ⟨t0, _, _, .int st, rfl, rfl, SqT.of (s5.at q1), rfl, ?_⟩
     walk_at "w"
     refine ⟨e, _, _, .int v, rfl, rfl, SqL.of (s5.at he), atI_in (by omega) hv2, ?_⟩
     walk_at "w"
     refine ⟨t0, _, _, .int to, rfl, rfl, SqT.of (s5.at q1), rfl, ?_⟩
     walk_at "w"
     refine ⟨nl, _, _, (to + i).toNat, rfl, rfl, enl5, ixN_in (by omega) (by rw [hag5.1]; have : to + (c.toNat : Nat) ≤ nw.length := g3; omega), ?_⟩
     generalize hU : upd G5 nl _ = G6
     obtain ⟨k1, k2, k3⟩ := stp s5 enl5 hag5 v hv hi G6 hU
     exact ⟨k1, _, _, rfl, k2, k3⟩
    ·obtain ⟨s5, ys5, y4, rfl, enl5, hag5⟩ := hP2
     exact ⟨s5, _, _, _, rfl, enl5, fin s5 enl5 hag5⟩
  ·obtain ⟨sG, ys, x3, x4, rfl, enl', hag⟩ := hP1
   have e : ys = nw.map V.int := hag.all fun j hj => by
    obtain ⟨r, h1, h2⟩ := hcv j hj
    refine ⟨r, ?_, h2⟩
    rw [List.take_of_length_le (by simp; omega)]
    exact h1
   rw [e] at enl'
   exact k nl G sG hnl0 enl'
theorem made_same {G H' : Hp} {x dx : Addr} {C : Addr} (hx : G x = none) (hd : G dx = none) (k : Kp [x] (upd (upd G dx (.own x)) x (.ins C dx [])) H') : Same G H' := fun b u e =>
 k b u (by rw [upd_ne (ne_of_none e hx), upd_ne (ne_of_none e hd)]; exact e) (by simp; exact ne_of_none e hx)
theorem made_back {G : Hp} {x dx b : Addr} {C : Addr} (hx : G x = none) (hd : G dx = none) (e : upd (upd G dx (.own x)) x (.ins C dx []) b = none) : G b = none := by
 by_cases h : b = x
 ·rw [h]; exact hx
 ·rw [upd_ne h] at e
  by_cases h2 : b = dx
  ·rw [h2]; exact hd
  ·rw [upd_ne h2] at e; exact e
theorem same_kp {H G G' : Hp} {L : List Addr} (s : Same H G) (k : Kp L G G') (f : ∀ b ∈ L, H b = none) : Same H G' := fun b u e =>
 k b u (s b u e) fun z => by rw [f b z] at e; cases e
def sp_law (K : W.Frag) : Sp := fun vs H Q _ => ∃ (l : Addr) (ns : List Int), vs = [.ref l] ∧ SqL K H l (ns.map V.int) ∧ ns.length ≤ 63 ∧ H P_do_piece = some (.tbl qs_do_piece) ∧ H P_Store_write = some (.tbl qs_Store_write) ∧ H P_Store_note_down = some (.tbl qs_Store_note_down) ∧ ∀ H', Q (.bl true) H'
def elder (n : Nat) (d : Int) : List Int := (List.range n).map fun (k : Nat) => (k : Int) * k * 1000003 + 17 * k + d
theorem elder_len (n : Nat) (d : Int) : (elder n d).length = n := by simp [elder]
theorem elder_get {n i : Nat} {d v : Int} (h : (elder n d)[i]? = some v) : v = (i : Int) * i * 1000003 + 17 * i + d := by
 unfold elder at h
 rw [List.getElem?_map] at h
 obtain ⟨j, hj, rfl⟩ := Option.map_eq_some_iff.mp h
 have hi : i < n := by
  have := (List.getElem?_eq_some_iff.mp hj).1
  simpa using this
 rw [List.getElem?_range hi] at hj
 cases hj
 rfl
theorem elder_snoc (n : Nat) (d : Int) : elder (n + 1) d = elder n d ++ [(n : Int) * n * 1000003 + 17 * n + d] := by simp [elder, List.range_succ]
theorem zeros_map (n : Nat) : (List.replicate n [V.int 0]).flatten = (List.replicate n (0 : Int)).map V.int := by
 rw [List.flatten_replicate_singleton, List.map_replicate]
theorem cut_to (sg : List Int) {n : Int} (h : 0 ≤ n) : cutV (sg.map V.int) none (some n) = (sg.take n.toNat).map V.int := by
 rw [cutV_ints, sIx_nn h, HT.sIx_none]
 simp [← List.take_eq_take_min]
theorem fit_of {old new : Int} {r : RowD} (g : Good old r) (h : r.to + r.cnt ≤ new) : Fit old new r := by
 cases r with
 | take to st c =>
  have h1 : st + c ≤ old := g.2.2
  have h2 : to + (c.toNat : Nat) ≤ new := h
  exact ⟨h1, by omega⟩
 | put to sg => exact h
theorem sq_inj {i j : Nat} {d v : Int} (h1 : v = (i : Int) * i * 1000003 + 17 * i + d) (h2 : v = (j : Int) * j * 1000003 + 17 * j + d) : i = j := by
 rcases Nat.lt_trichotomy i j with z | z | z
 ·exfalso
  have := Nat.mul_le_mul (Nat.le_of_lt z) (Nat.le_of_lt z)
  have : ((i * i : Nat) : Int) ≤ ((j * j : Nat) : Int) := Int.ofNat_le.mpr this
  rw [Int.natCast_mul, Int.natCast_mul] at this
  omega
 ·exact z
 ·exfalso
  have := Nat.mul_le_mul (Nat.le_of_lt z) (Nat.le_of_lt z)
  have : ((j * j : Nat) : Int) ≤ ((i * i : Nat) : Int) := Int.ofNat_le.mpr this
  rw [Int.natCast_mul, Int.natCast_mul] at this
  omega
theorem scene_of {new : Int} {rs : List RowD} {C0 : List Int} {Cs : Nat → List Int} {n z : Nat} {d : Int} (hd : 0 ≤ d) (hz : C0 = elder n d ++ List.replicate z 0) (hn : new ≤ C0.length) (run : RunTo rs C0 Cs rs.length) (hg : ∀ r ∈ rs, Good n r ∧ r.to + r.cnt ≤ new) (dis : Dis rs) : Scene (elder n d) C0 rs Cs := by
 refine ⟨⟨_, hz⟩, run, fun r hr => ?_, dis, fun i v h => ?_, fun i j v h1 h2 => sq_inj (elder_get h1) (elder_get h2)⟩
 ·obtain ⟨g1, g2⟩ := hg r hr
  exact ⟨by rw [elder_len]; exact g1, by omega⟩
 ·rw [elder_get h]
  have := Int.mul_nonneg (Int.natCast_nonneg i) (Int.natCast_nonneg i)
  omega
def lateD (k : Nat) (c : Int) : PyData := .tuple [.str "late", .int k, .int c]
theorem late_rp {H : Hp} {t : Addr} {k : Nat} {c : Int} (h : H t = some (.tup [.str "late", .int k, .int c])) : Rp K H (.ref t) (lateD k c) := .tup (SqT.of h) (.cons (.str _) (.cons (.int _) (.cons (.int _) .nil)))
theorem late_sh (k : Nat) (c : Int) : SeqAt.shaped (lateD k c) = true := by
 unfold SeqAt.shaped lateD
 have h1 : PyData.canLay0 (.tuple [.str "late", .int k, .int c]) = true := by simp [PyData.canLay0, PyData.canLayAll0]; decide +kernel
 have h2 : PyData.depth (.tuple [.str "late", .int k, .int c]) ≤ 64 := by simp [PyData.depth, PyData.depthAll]
 rw [h1, decide_eq_true h2]; rfl
theorem paired_nth2 {α β : Type} {F : α → β → Prop} : ∀ {l₁ : List α} {l₂ : List β} {i : Nat} {y : β}, Paired F l₁ l₂ → l₂[i]? = some y → ∃ x, l₁[i]? = some x ∧ F x y
 | _, _, _, _, .nil, e => by simp at e
 | _, _, 0, _, .cons r _, e => by simp at e; subst e; exact ⟨_, rfl, r⟩
 | _, _, i + 1, _, .cons _ t, e => by
  obtain ⟨y, h1, h2⟩ := paired_nth2 (i := i) t (by simpa using e)
  exact ⟨y, by simpa using h1, h2⟩
theorem ok_law (T : Txt K mg a) : FnOk P w K mg base CX0 9 a.f_law a.d_law ["_law_script"] (sp_law K) := by
 refine T.F_law.ok sc_law (fun vs H Q E h => ?_) (fun cdv A outer s H vs Q E hr h => ?_)
 ·obtain ⟨l, ns, rfl, _⟩ := h; rfl
 ·obtain ⟨l, ns, rfl, hl, hns, hPd, hPw, hPn, q⟩ := h
  have nd := sc_law.nd
  refine ⟨_, (pss_cons (ps_set (i := 1) nd rfl (Or.inl rfl) (pe_call (ok_paper T) (hr.mono (by decide)) (by rfl) T.m_paper T.F_paper.kp T.b_paper .nil pass0 (pa_cons (cv 0) pa_nil)))
  (pss_cons (ps_set (i := 2) nd rfl (Or.inl rfl) (pe_call (ok_judge T) (hr.mono (by decide)) (by rfl) T.m_judge T.F_judge.kp T.b_judge .nil pass0 (pa_cons (cv 1) pa_nil)))
  (pss_cons (cs_if (PW.pt (cw_or (PW.pt (cw_and (ct_notN (cv 2)) (pw_and1 (pt_not (ct_val (pe_callB call_isi (by rfl) T.n_isinstance bt_isinstance (pa_cons (cv 2) (pa_cons (pe_bltn (v := .ty "tuple") (by rfl) T.n_tuple bt_tuple rfl) pa_nil)))))))) (pw_or1 (ct_cmp (o_dne hr.units) (cv 2) (pe_call (ok_first T) (hr.mono (by decide)) (by rfl) T.m_first T.F_first.kp T.b_first .nil pass0 (pa_cons (pe_ix ix_tup (cv 1) pe_int (fun _ _ => rfl)) pa_nil)))))) (pss_one (ps_ret pe_bl)) pss_nil)
  (pss_cons (ps_setComp (i := 3) (blk_mk (cap := [0]) (ys := ["_law_script"]) rfl rfl rfl rfl rfl ⟨⟨rfl, rfl, .inl rfl⟩, trivial⟩ (by decide +kernel)) rfl nd rfl rfl (ci_range1 (by rfl) T.n_range (pa_cons (pe_ix ix_tup (cv 1) pe_int (fun _ _ => rfl)) pa_nil)) (fun _ _ _ _ => (pe_op o_add (pe_op o_add (pe_op o_mul (pe_op o_mul (cv 0) (cv 0)) pe_int) (pe_op o_mul pe_int (cv 0))) (pe_op o_mod (pe_call (ok_cell_at T) (hr.mono (by decide)) (by rfl) T.m_cell_at T.F_cell_at.kp T.b_cell_at .nil pass0 (pa_cons (cv 1) (pa_cons pe_int pa_nil))) (pe_op o_pow pe_int pe_int)))) (fun _ _ _ _ => cts_nil))
  (pss_cons (ps_set (i := 4) nd rfl (Or.inl rfl) (pe_call (ok_meant T) (hr.mono (by decide)) (by rfl) T.m_meant T.F_meant.kp T.b_meant .nil pass0 (pa_cons (cv 1) (pa_cons (cv 3) pa_nil))))
  (pss_cons (ps_set (i := 5) nd rfl (Or.inl rfl) (pe_make (dvs := [.non]) T.mk_Store (ok_Store_init T) (hr.mono (by decide)) (by rfl) T.m_Store T.bd_Store_init (.cons rfl .nil) pass0 (pa_cons (pe_op op_cat (cv 3) (pe_op op_rep (pe_lst (pa_cons pe_int pa_nil)) (pe_op o_add (pe_ix ix_tup (cv 1) pe_int (fun _ _ => rfl)) (pe_op o_mod (pe_call (ok_cell_at T) (hr.mono (by decide)) (by rfl) T.m_cell_at T.F_cell_at.kp T.b_cell_at .nil pass0 (pa_cons (cv 0) (pa_cons pe_int pa_nil))) pe_int)))) pa_nil)))
  (pss_cons (ps_expr (pe_call (ok_go_on T) (hr.mono (by decide)) (by rfl) T.m_go_on T.F_go_on.kp T.b_go_on .nil pass0 (pa_cons (cv 5) (pa_cons (cv 1) pa_nil))))
  (pss_cons (ps_set (i := 6) nd rfl (Or.inl rfl) (pe_slice sl_list (pe_ix ix_tup (pe_meth0 (cv 5) T.c_Store T.me_Store_told (ok_Store_told T) (hr.mono (by decide)) T.b_Store_told .nil pass0) pe_int (fun _ _ => rfl)) po_none (po_some (pe_ix ix_tup (cv 1) pe_int (fun _ _ => rfl)))))
  (pss_cons (cs_if (ct_isN (cv 2)) (pss_one (ps_ret (ce_cmp (o_deq hr.units) (cv 6) (cv 4)))) pss_nil)
  (pss_cons (ps_set (i := 7) nd rfl (Or.inl rfl) (pe_ix ix_tup (pe_ix ix_tup (cv 1) pe_int (fun _ _ => rfl)) (pe_ix ix_tup (cv 2) pe_int (fun _ _ => rfl)) (fun _ _ => rfl)))
  (pss_cons (ps_set (i := 8) nd rfl (Or.inl rfl) (pe_op o_sub (pe_op o_add (pe_ix ix_tup (cv 7) pe_int (fun _ _ => rfl)) (pe_ix ix_tup (cv 2) pe_int (fun _ _ => rfl))) (pe_ix ix_tup (cv 7) pe_int (fun _ _ => rfl))))
  (pss_one (ps_ret (ce_cmp o_neI (pe_ix ix_list (cv 6) (cv 8) (fun _ _ => rfl)) (pe_ix ix_list (cv 4) (cv 8) (fun _ _ => rfl)))))))))))))))), ?_⟩
  walk_at "w"
  refine ⟨l, ns, rfl, hl, fun p tt us rs old new H1 s1 ep ett hus hul hfit hpt o0 o1 n0 n1 => ?_⟩
  obtain ⟨rs0, hpm, hTl⟩ := hpt
  have hd0 : (0 : Int) ≤ cellAt ns 2 % 10 ^ Int.toNat 50 := Int.emod_nonneg _ (by decide)
  obtain ⟨d, hd⟩ : ∃ d, d = cellAt ns 2 % 10 ^ Int.toNat 50 := ⟨_, rfl⟩
  rw [← hd] at hd0
  obtain ⟨nw, hnw, htell, hcov, hgood, hdis, htw, hlk⟩ := tiled (es := elder old.toNat d) hpm hTl (by rw [elder_len]; omega)
  have hus' : Paired (TupAt K H1) us rs := L2.Paired.imp' (fun _ _ z => z.1) hus
  have hel : us.length = rs.length := hus.length
  have hpap : PapAt K H1 p old new rs := ⟨tt, us, ep, ett, hus'⟩
  walk_at "w"
  refine ⟨p, old, new, rs, rfl, hpap, ⟨o0, by omega⟩, ⟨n0, by omega⟩, by omega, fun r hr => ⟨(hgood r hr).1.1, fit_of (hgood r hr).1 (hgood r hr).2⟩, htw, hlk, ?_⟩
  cases hlt : lateF rs with
  | none =>
   intro H2 s2
   walk_at "w"
   refine ⟨by walk_at "no", fun _ => ⟨by walk_at "no", fun _ => ?_⟩⟩
   walk_at "w"
   refine ⟨p, _, _, .ref tt, rfl, rfl, SqT.of (s2.at ep), rfl, ?_⟩
   walk_at "w"
   refine ⟨tt, us, rs, rfl, s2.at ett, L2.Paired.imp' (fun _ _ z => z.same s2) hus', fun r hr => ⟨(hgood r hr).1.1, by have := (hgood r hr).2; have := (hgood r hr).1.1.to; omega⟩, by omega, ?_⟩
   rw [hlt]
   intro H3 s3
   refine deq_same (f := fun b => !b) (d := .none) .non .non (by decide +kernel) ?_
   have s13 : Same H1 H3 := s2.trans s3
   have s03 : Same H H3 := s1.trans s13
   walk_at "w"
   refine ⟨by walk_at "no", fun _ => ?_⟩
   walk_at "w"
   refine ⟨p, _, _, .int old, rfl, rfl, SqT.of (s13.at ep), rfl, ?_⟩
   walk_at "w"
   have er : rngN 0 old 1 = old.toNat := by rw [rngN_one]; omega
   rw [er]
   refine comp_itsP (fun i acc _ => acc = (elder i d).map V.int) (by rw [sizeLine_eq]; omega) rfl (fun i acc G G' hi sg sg' hP R hR => ?_) (fun el acc H4 H4' hD hD3 s4 s4' hP hacc eel => ?_)
   ·subst hP
    have ei : (0 : Int) + (i : Int) * 1 = (i : Int) := by omega
    walk_at "w"
    rw [ei]
    refine And.intro (.inl ⟨by omega, by omega⟩) ?_
    walk_at "w"
    refine And.intro (.inr ⟨by omega, by omega⟩) ?_
    walk_at "w"
    refine And.intro (.inl ⟨by omega, by omega⟩) ?_
    walk_at "w"
    refine ⟨l, ns, 2, rfl, (s03.trans (sg.trans sg')).seq hl, by decide, ?_⟩
    walk_at "w"
    walk_at "ss"
    refine hR _ _ (Same.refl _) fun H6 _ _ => ?_
    rw [elder_snoc, List.map_append, hd]; rfl
   subst hP
   have s04 : Same H H4' := s03.trans (s4.trans s4')
   have s14 : Same H1 H4' := s13.trans (s4.trans s4')
   have s34 : Same H3 H4' := s4.trans s4'
   clear hacc hD3 s4 s4' hD
   walk_at "w"
   refine ⟨p, el, old, rs, elder old.toNat d, nw, rfl, by rw [hnw]; exact hpap.same s14, eel, htell, hcov, by omega, fun du H5 s5 hdu edu => ?_⟩
   have s15 := s14.trans s5
   walk_at "w"
   walk_at "ss"
   intro z0 hz0
   generalize hUz0 : upd H5 z0 _ = H6
   have sH6 := Same.of_eq hz0 hUz0
   have ez0 := at_of_eq hUz0
   clear hUz0
   walk_at "w"
   refine ⟨p, _, _, .int new, rfl, rfl, SqT.of ((s15.trans sH6).at ep), rfl, ?_⟩
   walk_at "w"
   refine ⟨l, ns, 3, rfl, (s04.trans (s5.trans sH6)).seq hl, by decide, ?_⟩
   walk_at "w"
   walk_at "ss"
   have m0 := Int.emod_nonneg (cellAt ns 3) (show (5 : Int) ≠ 0 by decide)
   have m1 := Int.emod_lt_of_pos (cellAt ns 3) (show (0 : Int) < 5 by decide)
   refine ⟨z0, _, _, rfl, rfl, ez0, by omega, by omega, by rw [sizeLine_eq]; simp; omega, ?_⟩
   intro zz hzz
   generalize hUzz : upd H6 zz _ = H7
   have sH7 := Same.of_eq hzz hUzz
   have ezz := at_of_eq hUzz
   clear hUzz
   walk_at "w"
   rw [zeros_map] at ezz
   have s47 : Same H4' H7 := s5.trans (sH6.trans sH7)
   refine ⟨el, zz, _, _, rfl, rfl, s47.at eel, ezz, by rw [sizeLine_eq]; simp [elder_len]; omega, ?_⟩
   intro cl hcl
   generalize hUcl : upd H7 cl _ = H8
   have sH8 := Same.of_eq hcl hUcl
   have ecl := at_of_eq hUcl
   clear hUcl
   walk_at "w"
   obtain ⟨C0, hC0⟩ : ∃ C0, C0 = elder old.toNat d ++ List.replicate (new + cellAt ns 3 % 5).toNat 0 := ⟨_, rfl⟩
   rw [← List.map_append, ← hC0] at ecl
   have hC0l : (C0.length : Int) = old + new + cellAt ns 3 % 5 := by rw [hC0, List.length_append, elder_len, List.length_replicate]; omega
   have s48 : Same H4' H8 := s47.trans sH8
   intro x dx hx hdx nx
   refine ⟨x, dx, cl, C0, .non, rfl, upd_same, by rw [upd_ne (ne_of_none ecl hx), upd_ne (ne_of_none ecl hdx)]; exact ecl, fun S H9 hst kp hS b1 b2 b3 => ⟨rfl, ?_⟩⟩
   have s89 : Same H8 H9 := made_same hx hdx kp
   have f1 := made_back hx hdx b1
   have f2 := made_back hx hdx b2
   have f3 := made_back hx hdx b3
   have fS : ∀ b ∈ SS S, H8 b = none := by
    intro b hb
    simp only [List.mem_cons, List.not_mem_nil, or_false] at hb
    rcases hb with rfl | rfl | rfl
    ·exact f1
    ·exact f2
    ·exact f3
   clear kp b1 b2 b3 f1 f2 f3 hx hdx nx
   subst hst
   have s19 : Same H1 H9 := s14.trans (s48.trans s89)
   have s09 : Same H H9 := s04.trans (s48.trans s89)
   have hdue := due_ok hus hfit (L := C0.length) (by omega) (by omega)
   walk_at "w"
   refine ⟨S, p, tt, old, new, us, rs, C0, _, 0, 0, rfl, s09.at hPd, s09.at hPw, s09.at hPn, hS, s19.at ep, s19.at ett, L2.Paired.imp' (fun _ _ z => z.same s19) hus, hul, rfl, by simp [IsMax], by omega, by omega, hdue, fun H10 k10 hS10 => ?_⟩
   rw [List.drop_zero] at hS10
   have s810 : Same H8 H10 := same_kp s89 k10 fS
   have run := run_do (C0 := C0) (fun r hr => (hgood r hr).1.1) hdue
   have sc : Scene (elder old.toNat d) C0 rs _ := scene_of (new := new) hd0 hC0 (by omega) run (fun r hr => ⟨by rw [Int.toNat_of_nonneg o0]; exact (hgood r hr).1, (hgood r hr).2⟩) hdis
   walk_at "w"
   refine ⟨S.st, S.dx, _, rfl, hS10.st, rfl, ?_⟩
   walk_at "w"
   refine ⟨S, _, _, _, .non, rfl, hS10, fun ta ca ma H11 s11 hca hma ncm eta eca ema => ?_⟩
   have s811 := s810.trans s11
   have s111 : Same H1 H11 := s14.trans (s48.trans s811)
   have s311 : Same H3 H11 := s34.trans (s48.trans s811)
   walk_at "w"
   refine ⟨ta, _, _, .ref ca, rfl, rfl, SqT.of eta, rfl, ?_⟩
   walk_at "w"
   refine ⟨p, _, _, .int new, rfl, rfl, SqT.of (s111.at ep), rfl, ?_⟩
   walk_at "w"
   refine ⟨new, rfl, ?_⟩
   walk_at "w"
   refine ⟨ca, _, rfl, SqL.of eca, ?_⟩
   intro cc hcc
   generalize hUcc : upd H11 cc _ = H12
   have sH12 := Same.of_eq hcc hUcc
   have ecc := at_of_eq hUcc
   clear hUcc
   walk_at "w"
   rw [cut_to _ n0] at ecc
   have edu12 := sH12.at (s811.at ((sH6.trans (sH7.trans sH8)).at edu))
   have s112 : Same H1 H12 := s111.trans sH12
   have hrt : rs.take rs.length = rs := List.take_length
   have hnn : new.toNat = nw.length := by omega
   refine ⟨fun _ => ?_, by walk_at "no"⟩
   have fine := sc.fine hlt (by omega) htell hcov
   simp only [hrt] at fine
   rw [hnn, fine] at ecc
   walk_at "w"
   refine leq_imp (f := fun b => b) ⟨cc, du, nw, nw, rfl, rfl, SqL.of ecc, SqL.of edu12, ?_⟩
   rw [decide_eq_true rfl]
   exact q _
  | some kc =>
   obtain ⟨k, c⟩ := kc
   intro t H2 s2 et
   walk_at "w"
   refine ⟨fun _ => ?_, by walk_at "no"⟩
   walk_at "w"
   refine ⟨_, _, _, _, true, rfl, rfl, TyOf.tup et, rfl, ?_⟩
   walk_at "w"
   refine ⟨by walk_at "no", fun _ => ?_⟩
   walk_at "w"
   refine ⟨p, _, _, .ref tt, rfl, rfl, SqT.of (s2.at ep), rfl, ?_⟩
   walk_at "w"
   refine ⟨tt, us, rs, rfl, s2.at ett, L2.Paired.imp' (fun _ _ z => z.same s2) hus', fun r hr => ⟨(hgood r hr).1.1, by have := (hgood r hr).2; have := (hgood r hr).1.1.to; omega⟩, by omega, ?_⟩
   rw [hlt]
   intro t2 H3 s3 et2
   refine deq_same (f := fun b => !b) (late_rp (s3.at et)) (late_rp et2) (late_sh _ _) ?_
   have s13 : Same H1 H3 := s2.trans s3
   have s03 : Same H H3 := s1.trans s13
   walk_at "w"
   refine ⟨by walk_at "no", fun _ => ?_⟩
   walk_at "w"
   refine ⟨p, _, _, .int old, rfl, rfl, SqT.of (s13.at ep), rfl, ?_⟩
   walk_at "w"
   have er : rngN 0 old 1 = old.toNat := by rw [rngN_one]; omega
   rw [er]
   refine comp_itsP (fun i acc _ => acc = (elder i d).map V.int) (by rw [sizeLine_eq]; omega) rfl (fun i acc G G' hi sg sg' hP R hR => ?_) (fun el acc H4 H4' hD hD3 s4 s4' hP hacc eel => ?_)
   ·subst hP
    have ei : (0 : Int) + (i : Int) * 1 = (i : Int) := by omega
    walk_at "w"
    rw [ei]
    refine And.intro (.inl ⟨by omega, by omega⟩) ?_
    walk_at "w"
    refine And.intro (.inr ⟨by omega, by omega⟩) ?_
    walk_at "w"
    refine And.intro (.inl ⟨by omega, by omega⟩) ?_
    walk_at "w"
    refine ⟨l, ns, 2, rfl, (s03.trans (sg.trans sg')).seq hl, by decide, ?_⟩
    walk_at "w"
    walk_at "ss"
    refine hR _ _ (Same.refl _) fun H6 _ _ => ?_
    rw [elder_snoc, List.map_append, hd]; rfl
   subst hP
   have s04 : Same H H4' := s03.trans (s4.trans s4')
   have s14 : Same H1 H4' := s13.trans (s4.trans s4')
   have s34 : Same H3 H4' := s4.trans s4'
   clear hacc hD3 s4 s4' hD
   walk_at "w"
   refine ⟨p, el, old, rs, elder old.toNat d, nw, rfl, by rw [hnw]; exact hpap.same s14, eel, htell, hcov, by omega, fun du H5 s5 hdu edu => ?_⟩
   have s15 := s14.trans s5
   walk_at "w"
   walk_at "ss"
   intro z0 hz0
   generalize hUz0 : upd H5 z0 _ = H6
   have sH6 := Same.of_eq hz0 hUz0
   have ez0 := at_of_eq hUz0
   clear hUz0
   walk_at "w"
   refine ⟨p, _, _, .int new, rfl, rfl, SqT.of ((s15.trans sH6).at ep), rfl, ?_⟩
   walk_at "w"
   refine ⟨l, ns, 3, rfl, (s04.trans (s5.trans sH6)).seq hl, by decide, ?_⟩
   walk_at "w"
   walk_at "ss"
   have m0 := Int.emod_nonneg (cellAt ns 3) (show (5 : Int) ≠ 0 by decide)
   have m1 := Int.emod_lt_of_pos (cellAt ns 3) (show (0 : Int) < 5 by decide)
   refine ⟨z0, _, _, rfl, rfl, ez0, by omega, by omega, by rw [sizeLine_eq]; simp; omega, ?_⟩
   intro zz hzz
   generalize hUzz : upd H6 zz _ = H7
   have sH7 := Same.of_eq hzz hUzz
   have ezz := at_of_eq hUzz
   clear hUzz
   walk_at "w"
   rw [zeros_map] at ezz
   have s47 : Same H4' H7 := s5.trans (sH6.trans sH7)
   refine ⟨el, zz, _, _, rfl, rfl, s47.at eel, ezz, by rw [sizeLine_eq]; simp [elder_len]; omega, ?_⟩
   intro cl hcl
   generalize hUcl : upd H7 cl _ = H8
   have sH8 := Same.of_eq hcl hUcl
   have ecl := at_of_eq hUcl
   clear hUcl
   walk_at "w"
   obtain ⟨C0, hC0⟩ : ∃ C0, C0 = elder old.toNat d ++ List.replicate (new + cellAt ns 3 % 5).toNat 0 := ⟨_, rfl⟩
   rw [← List.map_append, ← hC0] at ecl
   have hC0l : (C0.length : Int) = old + new + cellAt ns 3 % 5 := by rw [hC0, List.length_append, elder_len, List.length_replicate]; omega
   have s48 : Same H4' H8 := s47.trans sH8
   intro x dx hx hdx nx
   refine ⟨x, dx, cl, C0, .non, rfl, upd_same, by rw [upd_ne (ne_of_none ecl hx), upd_ne (ne_of_none ecl hdx)]; exact ecl, fun S H9 hst kp hS b1 b2 b3 => ⟨rfl, ?_⟩⟩
   have s89 : Same H8 H9 := made_same hx hdx kp
   have f1 := made_back hx hdx b1
   have f2 := made_back hx hdx b2
   have f3 := made_back hx hdx b3
   have fS : ∀ b ∈ SS S, H8 b = none := by
    intro b hb
    simp only [List.mem_cons, List.not_mem_nil, or_false] at hb
    rcases hb with rfl | rfl | rfl
    ·exact f1
    ·exact f2
    ·exact f3
   clear kp b1 b2 b3 f1 f2 f3 hx hdx nx
   subst hst
   have s19 : Same H1 H9 := s14.trans (s48.trans s89)
   have s09 : Same H H9 := s04.trans (s48.trans s89)
   have hdue := due_ok hus hfit (L := C0.length) (by omega) (by omega)
   walk_at "w"
   refine ⟨S, p, tt, old, new, us, rs, C0, _, 0, 0, rfl, s09.at hPd, s09.at hPw, s09.at hPn, hS, s19.at ep, s19.at ett, L2.Paired.imp' (fun _ _ z => z.same s19) hus, hul, rfl, by simp [IsMax], by omega, by omega, hdue, fun H10 k10 hS10 => ?_⟩
   rw [List.drop_zero] at hS10
   have s810 : Same H8 H10 := same_kp s89 k10 fS
   have run := run_do (C0 := C0) (fun r hr => (hgood r hr).1.1) hdue
   have sc : Scene (elder old.toNat d) C0 rs _ := scene_of (new := new) hd0 hC0 (by omega) run (fun r hr => ⟨by rw [Int.toNat_of_nonneg o0]; exact (hgood r hr).1, (hgood r hr).2⟩) hdis
   walk_at "w"
   refine ⟨S.st, S.dx, _, rfl, hS10.st, rfl, ?_⟩
   walk_at "w"
   refine ⟨S, _, _, _, .non, rfl, hS10, fun ta ca ma H11 s11 hca hma ncm eta eca ema => ?_⟩
   have s811 := s810.trans s11
   have s111 : Same H1 H11 := s14.trans (s48.trans s811)
   have s311 : Same H3 H11 := s34.trans (s48.trans s811)
   walk_at "w"
   refine ⟨ta, _, _, .ref ca, rfl, rfl, SqT.of eta, rfl, ?_⟩
   walk_at "w"
   refine ⟨p, _, _, .int new, rfl, rfl, SqT.of (s111.at ep), rfl, ?_⟩
   walk_at "w"
   refine ⟨new, rfl, ?_⟩
   walk_at "w"
   refine ⟨ca, _, rfl, SqL.of eca, ?_⟩
   intro cc hcc
   generalize hUcc : upd H11 cc _ = H12
   have sH12 := Same.of_eq hcc hUcc
   have ecc := at_of_eq hUcc
   clear hUcc
   walk_at "w"
   rw [cut_to _ n0] at ecc
   have edu12 := sH12.at (s811.at ((sH6.trans (sH7.trans sH8)).at edu))
   have s112 : Same H1 H12 := s111.trans sH12
   have hrt : rs.take rs.length = rs := List.take_length
   have hnn : new.toNat = nw.length := by omega
   refine ⟨by walk_at "no", fun _ => ?_⟩
   obtain ⟨to, st, cn, v, w', l4, l5, l6, l7, l8⟩ := sc.late hlt htell
   simp only [hrt] at l6
   obtain ⟨u, hu, hT⟩ := paired_nth2 hus' l4
   have hT : H1 u = some (.tup [.str "take", .int to, .int st, .int cn]) := hT
   have et12 := sH12.at (s311.at (s3.at et))
   have hlt7 := (List.getElem?_eq_some_iff.mp l7).1
   have hix : to + c - st = ((c - st + to).toNat : Nat) := by omega
   walk_at "w"
   refine ⟨p, _, _, .ref tt, rfl, rfl, SqT.of (s112.at ep), rfl, ?_⟩
   walk_at "w"
   refine ⟨t, _, _, .int k, rfl, rfl, SqT.of et12, rfl, ?_⟩
   walk_at "w"
   refine ⟨tt, _, _, .ref u, rfl, rfl, SqT.of (s112.at ett), atI_nat (by rw [List.getElem?_map, hu]; rfl), ?_⟩
   walk_at "w"
   refine ⟨u, _, _, .int to, rfl, rfl, SqT.of (s112.at hT), rfl, ?_⟩
   walk_at "w"
   refine ⟨t, _, _, .int c, rfl, rfl, SqT.of et12, rfl, ?_⟩
   walk_at "w"
   refine ⟨u, _, _, .int st, rfl, rfl, SqT.of (s112.at hT), rfl, ?_⟩
   walk_at "w"
   refine ⟨cc, _, to + c - st, .int v, rfl, rfl, SqL.of ecc, by rw [hix]; exact atI_nat (by rw [List.getElem?_map, List.getElem?_take, if_pos (by omega), l6]; rfl), ?_⟩
   walk_at "w"
   refine ⟨du, _, to + c - st, .int w', rfl, rfl, SqL.of edu12, by rw [hix]; exact atI_nat (by rw [List.getElem?_map, l7]; rfl), ?_⟩
   show Q (.bl (!decide (v = w'))) H12
   rw [decide_eq_false l8]
   exact q _
end
theorem bn_Row_init (kV doc pm : Value) (an : Option Addr) (cdv ct : Value) (us : List Value) (hl : us.length = 2) : bindArgs (W.fnOf "__init__" "Row.__init__" (defArgs s_Row_init) (defBody s_Row_init) (defScope s_Row_init) .none kV doc pm an cdv ct) ⟨us, []⟩ = pure ((["self", "to"] : List Str).zip us) := match us, hl with | [_, _], _ => rfl
theorem bn_Row_covers (kV doc pm : Value) (an : Option Addr) (cdv ct : Value) (us : List Value) (hl : us.length = 1) : bindArgs (W.fnOf "covers" "Row.covers" (defArgs s_Row_covers) (defBody s_Row_covers) (defScope s_Row_covers) .none kV doc pm an cdv ct) ⟨us, []⟩ = pure ((["self"] : List Str).zip us) := match us, hl with | [_], _ => rfl
theorem bn_Row_covered (kV doc pm : Value) (an : Option Addr) (cdv ct : Value) (us : List Value) (hl : us.length = 1) : bindArgs (W.fnOf "covered" "Row.covered" (defArgs s_Row_covered) (defBody s_Row_covered) (defScope s_Row_covered) .none kV doc pm an cdv ct) ⟨us, []⟩ = pure ((["self"] : List Str).zip us) := match us, hl with | [_], _ => rfl
theorem bn_Take_init (kV doc pm : Value) (an : Option Addr) (cdv ct : Value) (us : List Value) (hl : us.length = 4) : bindArgs (W.fnOf "__init__" "Take.__init__" (defArgs s_Take_init) (defBody s_Take_init) (defScope s_Take_init) .none kV doc pm an cdv ct) ⟨us, []⟩ = pure ((["self", "to", "start", "count"] : List Str).zip us) := match us, hl with | [_, _, _, _], _ => rfl
theorem bn_Take_stays (kV doc pm : Value) (an : Option Addr) (cdv ct : Value) (us : List Value) (hl : us.length = 1) : bindArgs (W.fnOf "stays" "Take.stays" (defArgs s_Take_stays) (defBody s_Take_stays) (defScope s_Take_stays) .none kV doc pm an cdv ct) ⟨us, []⟩ = pure ((["self"] : List Str).zip us) := match us, hl with | [_], _ => rfl
theorem bn_Take_reads (kV doc pm : Value) (an : Option Addr) (cdv ct : Value) (us : List Value) (hl : us.length = 1) : bindArgs (W.fnOf "reads" "Take.reads" (defArgs s_Take_reads) (defBody s_Take_reads) (defScope s_Take_reads) .none kV doc pm an cdv ct) ⟨us, []⟩ = pure ((["self"] : List Str).zip us) := match us, hl with | [_], _ => rfl
theorem bn_Take_writes (kV doc pm : Value) (an : Option Addr) (cdv ct : Value) (us : List Value) (hl : us.length = 1) : bindArgs (W.fnOf "writes" "Take.writes" (defArgs s_Take_writes) (defBody s_Take_writes) (defScope s_Take_writes) .none kV doc pm an cdv ct) ⟨us, []⟩ = pure ((["self"] : List Str).zip us) := match us, hl with | [_], _ => rfl
theorem bn_Take_pieces (kV doc pm : Value) (an : Option Addr) (cdv ct : Value) (us : List Value) (hl : us.length = 1) : bindArgs (W.fnOf "pieces" "Take.pieces" (defArgs s_Take_pieces) (defBody s_Take_pieces) (defScope s_Take_pieces) .none kV doc pm an cdv ct) ⟨us, []⟩ = pure ((["self"] : List Str).zip us) := match us, hl with | [_], _ => rfl
theorem bn_Take_source_for (kV doc pm : Value) (an : Option Addr) (cdv ct : Value) (us : List Value) (hl : us.length = 2) : bindArgs (W.fnOf "source_for" "Take.source_for" (defArgs s_Take_source_for) (defBody s_Take_source_for) (defScope s_Take_source_for) .none kV doc pm an cdv ct) ⟨us, []⟩ = pure ((["self", "cell"] : List Str).zip us) := match us, hl with | [_, _], _ => rfl
theorem bn_Take_sign_for (kV doc pm : Value) (an : Option Addr) (cdv ct : Value) (us : List Value) (hl : us.length = 3) : bindArgs (W.fnOf "sign_for" "Take.sign_for" (defArgs s_Take_sign_for) (defBody s_Take_sign_for) (defScope s_Take_sign_for) .none kV doc pm an cdv ct) ⟨us, []⟩ = pure ((["self", "cell", "read"] : List Str).zip us) := match us, hl with | [_, _, _], _ => rfl
theorem bn_Take_told (kV doc pm : Value) (an : Option Addr) (cdv ct : Value) (us : List Value) (hl : us.length = 1) : bindArgs (W.fnOf "told" "Take.told" (defArgs s_Take_told) (defBody s_Take_told) (defScope s_Take_told) .none kV doc pm an cdv ct) ⟨us, []⟩ = pure ((["self"] : List Str).zip us) := match us, hl with | [_], _ => rfl
theorem bn_Put_init (kV doc pm : Value) (an : Option Addr) (cdv ct : Value) (us : List Value) (hl : us.length = 3) : bindArgs (W.fnOf "__init__" "Put.__init__" (defArgs s_Put_init) (defBody s_Put_init) (defScope s_Put_init) .none kV doc pm an cdv ct) ⟨us, []⟩ = pure ((["self", "to", "signs"] : List Str).zip us) := match us, hl with | [_, _, _], _ => rfl
theorem bn_Put_reads (kV doc pm : Value) (an : Option Addr) (cdv ct : Value) (us : List Value) (hl : us.length = 1) : bindArgs (W.fnOf "reads" "Put.reads" (defArgs s_Put_reads) (defBody s_Put_reads) (defScope s_Put_reads) .none kV doc pm an cdv ct) ⟨us, []⟩ = pure ((["self"] : List Str).zip us) := match us, hl with | [_], _ => rfl
theorem bn_Put_writes (kV doc pm : Value) (an : Option Addr) (cdv ct : Value) (us : List Value) (hl : us.length = 1) : bindArgs (W.fnOf "writes" "Put.writes" (defArgs s_Put_writes) (defBody s_Put_writes) (defScope s_Put_writes) .none kV doc pm an cdv ct) ⟨us, []⟩ = pure ((["self"] : List Str).zip us) := match us, hl with | [_], _ => rfl
theorem bn_Put_pieces (kV doc pm : Value) (an : Option Addr) (cdv ct : Value) (us : List Value) (hl : us.length = 1) : bindArgs (W.fnOf "pieces" "Put.pieces" (defArgs s_Put_pieces) (defBody s_Put_pieces) (defScope s_Put_pieces) .none kV doc pm an cdv ct) ⟨us, []⟩ = pure ((["self"] : List Str).zip us) := match us, hl with | [_], _ => rfl
theorem bn_Put_sign_for (kV doc pm : Value) (an : Option Addr) (cdv ct : Value) (us : List Value) (hl : us.length = 3) : bindArgs (W.fnOf "sign_for" "Put.sign_for" (defArgs s_Put_sign_for) (defBody s_Put_sign_for) (defScope s_Put_sign_for) .none kV doc pm an cdv ct) ⟨us, []⟩ = pure ((["self", "cell", "read"] : List Str).zip us) := match us, hl with | [_, _, _], _ => rfl
theorem bn_Put_told (kV doc pm : Value) (an : Option Addr) (cdv ct : Value) (us : List Value) (hl : us.length = 1) : bindArgs (W.fnOf "told" "Put.told" (defArgs s_Put_told) (defBody s_Put_told) (defScope s_Put_told) .none kV doc pm an cdv ct) ⟨us, []⟩ = pure ((["self"] : List Str).zip us) := match us, hl with | [_], _ => rfl
theorem bn_row_of (kV doc pm : Value) (an : Option Addr) (cdv ct : Value) (us : List Value) (hl : us.length = 1) : bindArgs (W.fnOf "row_of" "row_of" (defArgs s_row_of) (defBody s_row_of) (defScope s_row_of) .none kV doc pm an cdv ct) ⟨us, []⟩ = pure ((["told"] : List Str).zip us) := match us, hl with | [_], _ => rfl
theorem bn_tells_take (kV doc pm : Value) (an : Option Addr) (cdv ct : Value) (us : List Value) (hl : us.length = 1) : bindArgs (W.fnOf "tells_take" "tells_take" (defArgs s_tells_take) (defBody s_tells_take) (defScope s_tells_take) .none kV doc pm an cdv ct) ⟨us, []⟩ = pure ((["told"] : List Str).zip us) := match us, hl with | [_], _ => rfl
theorem bn_tells_put (kV doc pm : Value) (an : Option Addr) (cdv ct : Value) (us : List Value) (hl : us.length = 1) : bindArgs (W.fnOf "tells_put" "tells_put" (defArgs s_tells_put) (defBody s_tells_put) (defScope s_tells_put) .none kV doc pm an cdv ct) ⟨us, []⟩ = pure ((["told"] : List Str).zip us) := match us, hl with | [_], _ => rfl
theorem bn_are_signs (kV doc pm : Value) (an : Option Addr) (cdv ct : Value) (us : List Value) (hl : us.length = 1) : bindArgs (W.fnOf "are_signs" "are_signs" (defArgs s_are_signs) (defBody s_are_signs) (defScope s_are_signs) .none kV doc pm an cdv ct) ⟨us, []⟩ = pure ((["signs"] : List Str).zip us) := match us, hl with | [_], _ => rfl
theorem bn_is_sign (kV doc pm : Value) (an : Option Addr) (cdv ct : Value) (us : List Value) (hl : us.length = 1) : bindArgs (W.fnOf "is_sign" "is_sign" (defArgs s_is_sign) (defBody s_is_sign) (defScope s_is_sign) .none kV doc pm an cdv ct) ⟨us, []⟩ = pure ((["value"] : List Str).zip us) := match us, hl with | [_], _ => rfl
theorem bn_is_whole_from (kV doc pm : Value) (an : Option Addr) (cdv ct : Value) (us : List Value) (hl : us.length = 2) : bindArgs (W.fnOf "is_whole_from" "is_whole_from" (defArgs s_is_whole_from) (defBody s_is_whole_from) (defScope s_is_whole_from) .none kV doc pm an cdv ct) ⟨us, []⟩ = pure ((["least", "value"] : List Str).zip us) := match us, hl with | [_, _], _ => rfl
theorem bn_is_whole (kV doc pm : Value) (an : Option Addr) (cdv ct : Value) (us : List Value) (hl : us.length = 1) : bindArgs (W.fnOf "is_whole" "is_whole" (defArgs s_is_whole) (defBody s_is_whole) (defScope s_is_whole) .none kV doc pm an cdv ct) ⟨us, []⟩ = pure ((["value"] : List Str).zip us) := match us, hl with | [_], _ => rfl
theorem bn_judge (kV doc pm : Value) (an : Option Addr) (cdv ct : Value) (us : List Value) (hl : us.length = 1) : bindArgs (W.fnOf "judge" "judge" (defArgs s_judge) (defBody s_judge) (defScope s_judge) .none kV doc pm an cdv ct) ⟨us, []⟩ = pure ((["paper"] : List Str).zip us) := match us, hl with | [_], _ => rfl
theorem bn_fits_in_size (kV doc pm : Value) (an : Option Addr) (cdv ct : Value) (us : List Value) (hl : us.length = 1) : bindArgs (W.fnOf "fits_in_size" "fits_in_size" (defArgs s_fits_in_size) (defBody s_fits_in_size) (defScope s_fits_in_size) .none kV doc pm an cdv ct) ⟨us, []⟩ = pure ((["paper"] : List Str).zip us) := match us, hl with | [_], _ => rfl
theorem bn_is_length (kV doc pm : Value) (an : Option Addr) (cdv ct : Value) (us : List Value) (hl : us.length = 1) : bindArgs (W.fnOf "is_length" "is_length" (defArgs s_is_length) (defBody s_is_length) (defScope s_is_length) .none kV doc pm an cdv ct) ⟨us, []⟩ = pure ((["value"] : List Str).zip us) := match us, hl with | [_], _ => rfl
theorem bn_first_wrong_row (kV doc pm : Value) (an : Option Addr) (cdv ct : Value) (us : List Value) (hl : us.length = 1) : bindArgs (W.fnOf "first_wrong_row" "first_wrong_row" (defArgs s_first_wrong_row) (defBody s_first_wrong_row) (defScope s_first_wrong_row) .none kV doc pm an cdv ct) ⟨us, []⟩ = pure ((["paper"] : List Str).zip us) := match us, hl with | [_], _ => rfl
theorem bn_is_fitting_row (kV doc pm : Value) (an : Option Addr) (cdv ct : Value) (us : List Value) (hl : us.length = 3) : bindArgs (W.fnOf "is_fitting_row" "is_fitting_row" (defArgs s_is_fitting_row) (defBody s_is_fitting_row) (defScope s_is_fitting_row) .none kV doc pm an cdv ct) ⟨us, []⟩ = pure ((["told", "old", "new"] : List Str).zip us) := match us, hl with | [_, _, _], _ => rfl
theorem bn_covered_twice (kV doc pm : Value) (an : Option Addr) (cdv ct : Value) (us : List Value) (hl : us.length = 1) : bindArgs (W.fnOf "covered_twice" "covered_twice" (defArgs s_covered_twice) (defBody s_covered_twice) (defScope s_covered_twice) .none kV doc pm an cdv ct) ⟨us, []⟩ = pure ((["rows"] : List Str).zip us) := match us, hl with | [_], _ => rfl
theorem bn_lacking (kV doc pm : Value) (an : Option Addr) (cdv ct : Value) (us : List Value) (hl : us.length = 2) : bindArgs (W.fnOf "lacking" "lacking" (defArgs s_lacking) (defBody s_lacking) (defScope s_lacking) .none kV doc pm an cdv ct) ⟨us, []⟩ = pure ((["rows", "new"] : List Str).zip us) := match us, hl with | [_, _], _ => rfl
theorem bn_read_late (kV doc pm : Value) (an : Option Addr) (cdv ct : Value) (us : List Value) (hl : us.length = 1) : bindArgs (W.fnOf "read_late" "read_late" (defArgs s_read_late) (defBody s_read_late) (defScope s_read_late) .none kV doc pm an cdv ct) ⟨us, []⟩ = pure ((["rows"] : List Str).zip us) := match us, hl with | [_], _ => rfl
theorem bn_pieces_of (kV doc pm : Value) (an : Option Addr) (cdv ct : Value) (us : List Value) (hl : us.length = 1) : bindArgs (W.fnOf "pieces_of" "pieces_of" (defArgs s_pieces_of) (defBody s_pieces_of) (defScope s_pieces_of) .none kV doc pm an cdv ct) ⟨us, []⟩ = pure ((["paper"] : List Str).zip us) := match us, hl with | [_], _ => rfl
theorem bn_go_on (kV doc pm : Value) (an : Option Addr) (cdv ct : Value) (us : List Value) (hl : us.length = 2) : bindArgs (W.fnOf "go_on" "go_on" (defArgs s_go_on) (defBody s_go_on) (defScope s_go_on) .none kV doc pm an cdv ct) ⟨us, []⟩ = pure ((["store", "paper"] : List Str).zip us) := match us, hl with | [_, _], _ => rfl
theorem bn_refuse_lengths (kV doc pm : Value) (an : Option Addr) (cdv ct : Value) (us : List Value) (hl : us.length = 2) : bindArgs (W.fnOf "refuse_lengths" "refuse_lengths" (defArgs s_refuse_lengths) (defBody s_refuse_lengths) (defScope s_refuse_lengths) .none kV doc pm an cdv ct) ⟨us, []⟩ = pure ((["size", "paper"] : List Str).zip us) := match us, hl with | [_, _], _ => rfl
theorem bn_refuse_beyond (kV doc pm : Value) (an : Option Addr) (cdv ct : Value) (us : List Value) (hl : us.length = 2) : bindArgs (W.fnOf "refuse_beyond" "refuse_beyond" (defArgs s_refuse_beyond) (defBody s_refuse_beyond) (defScope s_refuse_beyond) .none kV doc pm an cdv ct) ⟨us, []⟩ = pure ((["size", "pieces"] : List Str).zip us) := match us, hl with | [_, _], _ => rfl
theorem bn_places_needed (kV doc pm : Value) (an : Option Addr) (cdv ct : Value) (us : List Value) (hl : us.length = 2) : bindArgs (W.fnOf "places_needed" "places_needed" (defArgs s_places_needed) (defBody s_places_needed) (defScope s_places_needed) .none kV doc pm an cdv ct) ⟨us, []⟩ = pure ((["row", "cells"] : List Str).zip us) := match us, hl with | [_, _], _ => rfl
theorem bn_do_piece (kV doc pm : Value) (an : Option Addr) (cdv ct : Value) (us : List Value) (hl : us.length = 3) : bindArgs (W.fnOf "do_piece" "do_piece" (defArgs s_do_piece) (defBody s_do_piece) (defScope s_do_piece) .none kV doc pm an cdv ct) ⟨us, []⟩ = pure ((["store", "row", "cells"] : List Str).zip us) := match us, hl with | [_, _, _], _ => rfl
theorem bn_Pen_init (kV doc pm : Value) (an : Option Addr) (cdv ct : Value) (us : List Value) (hl : us.length = 2) : bindArgs (W.fnOf "__init__" "Pen.__init__" (defArgs s_Pen_init) (defBody s_Pen_init) (defScope s_Pen_init) .none kV doc pm an cdv ct) ⟨us, []⟩ = pure ((["self", "fall"] : List Str).zip us) := match us, hl with | [_, _], _ => rfl
theorem bn_Pen_write_into (kV doc pm : Value) (an : Option Addr) (cdv ct : Value) (us : List Value) (hl : us.length = 5) : bindArgs (W.fnOf "write_into" "Pen.write_into" (defArgs s_Pen_write_into) (defBody s_Pen_write_into) (defScope s_Pen_write_into) .none kV doc pm an cdv ct) ⟨us, []⟩ = pure ((["self", "kept", "at", "value", "torn"] : List Str).zip us) := match us, hl with | [_, _, _, _, _], _ => rfl
theorem bn_Pen_answer_of_fall (kV doc pm : Value) (an : Option Addr) (cdv ct : Value) (us : List Value) (hl : us.length = 2) : bindArgs (W.fnOf "answer_of_fall" "Pen.answer_of_fall" (defArgs s_Pen_answer_of_fall) (defBody s_Pen_answer_of_fall) (defScope s_Pen_answer_of_fall) .none kV doc pm an cdv ct) ⟨us, []⟩ = pure ((["self", "count"] : List Str).zip us) := match us, hl with | [_, _], _ => rfl
theorem bn_Store_read (kV doc pm : Value) (an : Option Addr) (cdv ct : Value) (us : List Value) (hl : us.length = 2) : bindArgs (W.fnOf "read" "Store.read" (defArgs s_Store_read) (defBody s_Store_read) (defScope s_Store_read) .none kV doc pm an cdv ct) ⟨us, []⟩ = pure ((["self", "at"] : List Str).zip us) := match us, hl with | [_, _], _ => rfl
theorem bn_Store_write (kV doc pm : Value) (an : Option Addr) (cdv ct : Value) (us : List Value) (hl : us.length = 3) : bindArgs (W.fnOf "write" "Store.write" (defArgs s_Store_write) (defBody s_Store_write) (defScope s_Store_write) .none kV doc pm an cdv ct) ⟨us, []⟩ = pure ((["self", "at", "sign"] : List Str).zip us) := match us, hl with | [_, _, _], _ => rfl
theorem bn_Store_mark (kV doc pm : Value) (an : Option Addr) (cdv ct : Value) (us : List Value) (hl : us.length = 2) : bindArgs (W.fnOf "mark" "Store.mark" (defArgs s_Store_mark) (defBody s_Store_mark) (defScope s_Store_mark) .none kV doc pm an cdv ct) ⟨us, []⟩ = pure ((["self", "number"] : List Str).zip us) := match us, hl with | [_, _], _ => rfl
theorem bn_Store_noted (kV doc pm : Value) (an : Option Addr) (cdv ct : Value) (us : List Value) (hl : us.length = 1) : bindArgs (W.fnOf "noted" "Store.noted" (defArgs s_Store_noted) (defBody s_Store_noted) (defScope s_Store_noted) .none kV doc pm an cdv ct) ⟨us, []⟩ = pure ((["self"] : List Str).zip us) := match us, hl with | [_], _ => rfl
theorem bn_Store_told (kV doc pm : Value) (an : Option Addr) (cdv ct : Value) (us : List Value) (hl : us.length = 1) : bindArgs (W.fnOf "told" "Store.told" (defArgs s_Store_told) (defBody s_Store_told) (defScope s_Store_told) .none kV doc pm an cdv ct) ⟨us, []⟩ = pure ((["self"] : List Str).zip us) := match us, hl with | [_], _ => rfl
theorem bn_Store_refuse_lacking (kV doc pm : Value) (an : Option Addr) (cdv ct : Value) (us : List Value) (hl : us.length = 2) : bindArgs (W.fnOf "refuse_lacking" "Store.refuse_lacking" (defArgs s_Store_refuse_lacking) (defBody s_Store_refuse_lacking) (defScope s_Store_refuse_lacking) .none kV doc pm an cdv ct) ⟨us, []⟩ = pure ((["self", "at"] : List Str).zip us) := match us, hl with | [_, _], _ => rfl
theorem bn_Store_note_down (kV doc pm : Value) (an : Option Addr) (cdv ct : Value) (us : List Value) (hl : us.length = 3) : bindArgs (W.fnOf "note_down" "Store.note_down" (defArgs s_Store_note_down) (defBody s_Store_note_down) (defScope s_Store_note_down) .none kV doc pm an cdv ct) ⟨us, []⟩ = pure ((["self", "at", "number"] : List Str).zip us) := match us, hl with | [_, _, _], _ => rfl
theorem bn_cell_at (kV doc pm : Value) (an : Option Addr) (cdv ct : Value) (us : List Value) (hl : us.length = 2) : bindArgs (W.fnOf "_law_cell_at" "_law_cell_at" (defArgs s_cell_at) (defBody s_cell_at) (defScope s_cell_at) .none kV doc pm an cdv ct) ⟨us, []⟩ = pure ((["_law_script", "_law_k"] : List Str).zip us) := match us, hl with | [_, _], _ => rfl
theorem bn_mixed (kV doc pm : Value) (an : Option Addr) (cdv ct : Value) (us : List Value) (hl : us.length = 2) : bindArgs (W.fnOf "_law_mixed" "_law_mixed" (defArgs s_mixed) (defBody s_mixed) (defScope s_mixed) .none kV doc pm an cdv ct) ⟨us, []⟩ = pure ((["_law_cell", "_law_k"] : List Str).zip us) := match us, hl with | [_, _], _ => rfl
theorem bn_cuts (kV doc pm : Value) (an : Option Addr) (cdv ct : Value) (us : List Value) (hl : us.length = 2) : bindArgs (W.fnOf "_law_cuts" "_law_cuts" (defArgs s_cuts) (defBody s_cuts) (defScope s_cuts) .none kV doc pm an cdv ct) ⟨us, []⟩ = pure ((["_law_size", "_law_cell"] : List Str).zip us) := match us, hl with | [_, _], _ => rfl
theorem bn_tiles (kV doc pm : Value) (an : Option Addr) (cdv ct : Value) (us : List Value) (hl : us.length = 3) : bindArgs (W.fnOf "_law_tiles" "_law_tiles" (defArgs s_tiles) (defBody s_tiles) (defScope s_tiles) .none kV doc pm an cdv ct) ⟨us, []⟩ = pure ((["_law_old", "_law_new", "_law_cell"] : List Str).zip us) := match us, hl with | [_, _, _], _ => rfl
theorem bn_ordered (kV doc pm : Value) (an : Option Addr) (cdv ct : Value) (us : List Value) (hl : us.length = 2) : bindArgs (W.fnOf "_law_ordered" "_law_ordered" (defArgs s_ordered) (defBody s_ordered) (defScope s_ordered) .none kV doc pm an cdv ct) ⟨us, []⟩ = pure ((["_law_rows", "_law_cell"] : List Str).zip us) := match us, hl with | [_, _], _ => rfl
theorem bn_paper (kV doc pm : Value) (an : Option Addr) (cdv ct : Value) (us : List Value) (hl : us.length = 1) : bindArgs (W.fnOf "_law_paper" "_law_paper" (defArgs s_paper) (defBody s_paper) (defScope s_paper) .none kV doc pm an cdv ct) ⟨us, []⟩ = pure ((["_law_script"] : List Str).zip us) := match us, hl with | [_], _ => rfl
theorem bn_meant (kV doc pm : Value) (an : Option Addr) (cdv ct : Value) (us : List Value) (hl : us.length = 2) : bindArgs (W.fnOf "_law_meant" "_law_meant" (defArgs s_meant) (defBody s_meant) (defScope s_meant) .none kV doc pm an cdv ct) ⟨us, []⟩ = pure ((["_law_paper_here", "_law_elder"] : List Str).zip us) := match us, hl with | [_, _], _ => rfl
theorem bn_covers (kV doc pm : Value) (an : Option Addr) (cdv ct : Value) (us : List Value) (hl : us.length = 2) : bindArgs (W.fnOf "_law_covers" "_law_covers" (defArgs s_covers) (defBody s_covers) (defScope s_covers) .none kV doc pm an cdv ct) ⟨us, []⟩ = pure ((["_law_row", "_law_cell"] : List Str).zip us) := match us, hl with | [_, _], _ => rfl
theorem bn_first (kV doc pm : Value) (an : Option Addr) (cdv ct : Value) (us : List Value) (hl : us.length = 1) : bindArgs (W.fnOf "_law_first" "_law_first" (defArgs s_first) (defBody s_first) (defScope s_first) .none kV doc pm an cdv ct) ⟨us, []⟩ = pure ((["_law_rows"] : List Str).zip us) := match us, hl with | [_], _ => rfl
theorem bn_law (kV doc pm : Value) (an : Option Addr) (cdv ct : Value) (us : List Value) (hl : us.length = 1) : bindArgs (W.fnOf "law" "law" (defArgs s_law) (defBody s_law) (defScope s_law) .none kV doc pm an cdv ct) ⟨us, []⟩ = pure ((["_law_script"] : List Str).zip us) := match us, hl with | [_], _ => rfl
theorem txt_mk {l : W.OpenLaw} {w : World} {K : W.Frag} {h : Heap} {mg : Str → Option Value} {fa : Addr} {f_Row_init f_Row_covers f_Row_covered f_Take_init f_Take_stays f_Take_reads f_Take_writes f_Take_pieces f_Take_source_for f_Take_sign_for f_Take_told f_Put_init f_Put_reads f_Put_writes f_Put_pieces f_Put_sign_for f_Put_told f_row_of f_tells_take f_tells_put f_are_signs f_is_sign f_is_whole_from f_is_whole f_judge f_fits_in_size f_is_length f_first_wrong_row f_is_fitting_row f_covered_twice f_lacking f_read_late f_pieces_of f_go_on f_refuse_lengths f_refuse_beyond f_places_needed f_do_piece f_Pen_init f_Pen_write_into f_Pen_answer_of_fall f_Store_init f_Store_read f_Store_write f_Store_mark f_Store_noted f_Store_told f_Store_refuse_lacking f_Store_note_down f_cell_at f_mixed f_cuts f_tiles f_ordered f_paper f_meant f_covers f_first f_law C_Row C_Take C_Put C_Pen C_Store : Addr} {t_MOST : Tok} {dT_Store_init : Addr} {dod_Store_init : Option Addr} {dn_Store_init : Nat} {dsl_Store_init : Array (Option Value)} {ddc_Store_init : Value} {od0 an0 od1 an1 od2 an2 od3 an3 od4 an4 od5 an5 od6 an6 od7 an7 od8 an8 od9 an9 od10 an10 od11 an11 od12 an12 od13 an13 od14 an14 od15 an15 od16 an16 od17 an17 od18 an18 od19 an19 od20 an20 od21 an21 od22 an22 od23 an23 od24 an24 od25 an25 od26 an26 od27 an27 od28 an28 od29 an29 od30 an30 od31 an31 od32 an32 od33 an33 od34 an34 od35 an35 od36 an36 od37 an37 od38 an38 od39 an39 od40 an40 od41 an41 od42 an42 od43 an43 od44 an44 od45 an45 od46 an46 od47 an47 od48 an48 od49 an49 od50 an50 od51 an51 od52 an52 od53 an53 od54 an54 od55 an55 od56 an56 od57 an57 od58 an58 : Option Addr} {sl0 sl1 sl2 sl3 sl4 sl5 sl6 sl7 sl8 sl9 sl10 sl11 sl12 sl13 sl14 sl15 sl16 sl17 sl18 sl19 sl20 sl21 sl22 sl23 sl24 sl25 sl26 sl27 sl28 sl29 sl30 sl31 sl32 sl33 sl34 sl35 sl36 sl37 sl38 sl39 sl40 sl41 sl42 sl43 sl44 sl45 sl46 sl47 sl48 sl49 sl50 sl51 sl52 sl53 sl54 sl55 sl56 sl57 sl58 : Array (Option Value)} {oc0 kV0 dc0 pm0 cd0 ct0 oc1 kV1 dc1 pm1 cd1 ct1 oc2 kV2 dc2 pm2 cd2 ct2 oc3 kV3 dc3 pm3 cd3 ct3 oc4 kV4 dc4 pm4 cd4 ct4 oc5 kV5 dc5 pm5 cd5 ct5 oc6 kV6 dc6 pm6 cd6 ct6 oc7 kV7 dc7 pm7 cd7 ct7 oc8 kV8 dc8 pm8 cd8 ct8 oc9 kV9 dc9 pm9 cd9 ct9 oc10 kV10 dc10 pm10 cd10 ct10 oc11 kV11 dc11 pm11 cd11 ct11 oc12 kV12 dc12 pm12 cd12 ct12 oc13 kV13 dc13 pm13 cd13 ct13 oc14 kV14 dc14 pm14 cd14 ct14 oc15 kV15 dc15 pm15 cd15 ct15 oc16 kV16 dc16 pm16 cd16 ct16 oc17 kV17 dc17 pm17 cd17 ct17 oc18 kV18 dc18 pm18 cd18 ct18 oc19 kV19 dc19 pm19 cd19 ct19 oc20 kV20 dc20 pm20 cd20 ct20 oc21 kV21 dc21 pm21 cd21 ct21 oc22 kV22 dc22 pm22 cd22 ct22 oc23 kV23 dc23 pm23 cd23 ct23 oc24 kV24 dc24 pm24 cd24 ct24 oc25 kV25 dc25 pm25 cd25 ct25 oc26 kV26 dc26 pm26 cd26 ct26 oc27 kV27 dc27 pm27 cd27 ct27 oc28 kV28 dc28 pm28 cd28 ct28 oc29 kV29 dc29 pm29 cd29 ct29 oc30 kV30 dc30 pm30 cd30 ct30 oc31 kV31 dc31 pm31 cd31 ct31 oc32 kV32 dc32 pm32 cd32 ct32 oc33 kV33 dc33 pm33 cd33 ct33 oc34 kV34 dc34 pm34 cd34 ct34 oc35 kV35 dc35 pm35 cd35 ct35 oc36 kV36 dc36 pm36 cd36 ct36 oc37 kV37 dc37 pm37 ct37 oc38 kV38 dc38 pm38 cd38 ct38 oc39 kV39 dc39 pm39 cd39 ct39 oc40 kV40 dc40 pm40 cd40 ct40 oc41 kV41 dc41 pm41 cd41 ct41 oc42 kV42 dc42 pm42 cd42 ct42 oc43 kV43 dc43 pm43 ct43 oc44 kV44 dc44 pm44 cd44 ct44 oc45 kV45 dc45 pm45 cd45 ct45 oc46 kV46 dc46 pm46 cd46 ct46 oc47 kV47 dc47 pm47 cd47 ct47 oc48 kV48 dc48 pm48 ct48 oc49 kV49 dc49 pm49 cd49 ct49 oc50 kV50 dc50 pm50 cd50 ct50 oc51 kV51 dc51 pm51 cd51 ct51 oc52 kV52 dc52 pm52 cd52 ct52 oc53 kV53 dc53 pm53 cd53 ct53 oc54 kV54 dc54 pm54 cd54 ct54 oc55 kV55 dc55 pm55 cd55 ct55 oc56 kV56 dc56 pm56 cd56 ct56 oc57 kV57 dc57 pm57 cd57 ct57 oc58 kV58 dc58 pm58 cd58 ct58 : Value} (X : K.In h) (G : h.Ns mainGlobals mg) (hfa : mg "law" = some (.ref fa))
  (aC_Row : W.nsIn K mainGlobals "Row" = some (some (.ref C_Row)))
  (aC_Take : W.nsIn K mainGlobals "Take" = some (some (.ref C_Take)))
  (aC_Put : W.nsIn K mainGlobals "Put" = some (some (.ref C_Put)))
  (aC_Pen : W.nsIn K mainGlobals "Pen" = some (some (.ref C_Pen)))
  (aC_Store : W.nsIn K mainGlobals "Store" = some (some (.ref C_Store)))
  (a_Row_init : W.findIn K (.ref C_Row) "__init__" = some (some (.ref f_Row_init)))
  (l_Row_init : K.lookup f_Row_init = some ⟨oc0, od0, .func (W.fnOf "__init__" "Row.__init__" (defArgs s_Row_init) (defBody s_Row_init) (defScope s_Row_init) .none kV0 dc0 pm0 an0 cd0 ct0), sl0⟩)
  (c_Row_init : W.codeIn K cd0 "Row.__init__" = true)
  (k_Row_init : W.keepIn K (.ref f_Row_init) = true)
  (a_Row_covers : W.findIn K (.ref C_Row) "covers" = some (some (.ref f_Row_covers)))
  (l_Row_covers : K.lookup f_Row_covers = some ⟨oc1, od1, .func (W.fnOf "covers" "Row.covers" (defArgs s_Row_covers) (defBody s_Row_covers) (defScope s_Row_covers) .none kV1 dc1 pm1 an1 cd1 ct1), sl1⟩)
  (c_Row_covers : W.codeIn K cd1 "Row.covers" = true)
  (k_Row_covers : W.keepIn K (.ref f_Row_covers) = true)
  (a_Row_covered : W.findIn K (.ref C_Row) "covered" = some (some (.ref f_Row_covered)))
  (l_Row_covered : K.lookup f_Row_covered = some ⟨oc2, od2, .func (W.fnOf "covered" "Row.covered" (defArgs s_Row_covered) (defBody s_Row_covered) (defScope s_Row_covered) .none kV2 dc2 pm2 an2 cd2 ct2), sl2⟩)
  (c_Row_covered : W.codeIn K cd2 "Row.covered" = true)
  (k_Row_covered : W.keepIn K (.ref f_Row_covered) = true)
  (a_Take_init : W.findIn K (.ref C_Take) "__init__" = some (some (.ref f_Take_init)))
  (l_Take_init : K.lookup f_Take_init = some ⟨oc3, od3, .func (W.fnOf "__init__" "Take.__init__" (defArgs s_Take_init) (defBody s_Take_init) (defScope s_Take_init) .none kV3 dc3 pm3 an3 cd3 ct3), sl3⟩)
  (c_Take_init : W.codeIn K cd3 "Take.__init__" = true)
  (k_Take_init : W.keepIn K (.ref f_Take_init) = true)
  (a_Take_stays : W.findIn K (.ref C_Take) "stays" = some (some (.ref f_Take_stays)))
  (l_Take_stays : K.lookup f_Take_stays = some ⟨oc4, od4, .func (W.fnOf "stays" "Take.stays" (defArgs s_Take_stays) (defBody s_Take_stays) (defScope s_Take_stays) .none kV4 dc4 pm4 an4 cd4 ct4), sl4⟩)
  (c_Take_stays : W.codeIn K cd4 "Take.stays" = true)
  (k_Take_stays : W.keepIn K (.ref f_Take_stays) = true)
  (a_Take_reads : W.findIn K (.ref C_Take) "reads" = some (some (.ref f_Take_reads)))
  (l_Take_reads : K.lookup f_Take_reads = some ⟨oc5, od5, .func (W.fnOf "reads" "Take.reads" (defArgs s_Take_reads) (defBody s_Take_reads) (defScope s_Take_reads) .none kV5 dc5 pm5 an5 cd5 ct5), sl5⟩)
  (c_Take_reads : W.codeIn K cd5 "Take.reads" = true)
  (k_Take_reads : W.keepIn K (.ref f_Take_reads) = true)
  (a_Take_writes : W.findIn K (.ref C_Take) "writes" = some (some (.ref f_Take_writes)))
  (l_Take_writes : K.lookup f_Take_writes = some ⟨oc6, od6, .func (W.fnOf "writes" "Take.writes" (defArgs s_Take_writes) (defBody s_Take_writes) (defScope s_Take_writes) .none kV6 dc6 pm6 an6 cd6 ct6), sl6⟩)
  (c_Take_writes : W.codeIn K cd6 "Take.writes" = true)
  (k_Take_writes : W.keepIn K (.ref f_Take_writes) = true)
  (a_Take_pieces : W.findIn K (.ref C_Take) "pieces" = some (some (.ref f_Take_pieces)))
  (l_Take_pieces : K.lookup f_Take_pieces = some ⟨oc7, od7, .func (W.fnOf "pieces" "Take.pieces" (defArgs s_Take_pieces) (defBody s_Take_pieces) (defScope s_Take_pieces) .none kV7 dc7 pm7 an7 cd7 ct7), sl7⟩)
  (c_Take_pieces : W.codeIn K cd7 "Take.pieces" = true)
  (k_Take_pieces : W.keepIn K (.ref f_Take_pieces) = true)
  (a_Take_source_for : W.findIn K (.ref C_Take) "source_for" = some (some (.ref f_Take_source_for)))
  (l_Take_source_for : K.lookup f_Take_source_for = some ⟨oc8, od8, .func (W.fnOf "source_for" "Take.source_for" (defArgs s_Take_source_for) (defBody s_Take_source_for) (defScope s_Take_source_for) .none kV8 dc8 pm8 an8 cd8 ct8), sl8⟩)
  (c_Take_source_for : W.codeIn K cd8 "Take.source_for" = true)
  (k_Take_source_for : W.keepIn K (.ref f_Take_source_for) = true)
  (a_Take_sign_for : W.findIn K (.ref C_Take) "sign_for" = some (some (.ref f_Take_sign_for)))
  (l_Take_sign_for : K.lookup f_Take_sign_for = some ⟨oc9, od9, .func (W.fnOf "sign_for" "Take.sign_for" (defArgs s_Take_sign_for) (defBody s_Take_sign_for) (defScope s_Take_sign_for) .none kV9 dc9 pm9 an9 cd9 ct9), sl9⟩)
  (c_Take_sign_for : W.codeIn K cd9 "Take.sign_for" = true)
  (k_Take_sign_for : W.keepIn K (.ref f_Take_sign_for) = true)
  (a_Take_told : W.findIn K (.ref C_Take) "told" = some (some (.ref f_Take_told)))
  (l_Take_told : K.lookup f_Take_told = some ⟨oc10, od10, .func (W.fnOf "told" "Take.told" (defArgs s_Take_told) (defBody s_Take_told) (defScope s_Take_told) .none kV10 dc10 pm10 an10 cd10 ct10), sl10⟩)
  (c_Take_told : W.codeIn K cd10 "Take.told" = true)
  (k_Take_told : W.keepIn K (.ref f_Take_told) = true)
  (a_Put_init : W.findIn K (.ref C_Put) "__init__" = some (some (.ref f_Put_init)))
  (l_Put_init : K.lookup f_Put_init = some ⟨oc11, od11, .func (W.fnOf "__init__" "Put.__init__" (defArgs s_Put_init) (defBody s_Put_init) (defScope s_Put_init) .none kV11 dc11 pm11 an11 cd11 ct11), sl11⟩)
  (c_Put_init : W.codeIn K cd11 "Put.__init__" = true)
  (k_Put_init : W.keepIn K (.ref f_Put_init) = true)
  (a_Put_reads : W.findIn K (.ref C_Put) "reads" = some (some (.ref f_Put_reads)))
  (l_Put_reads : K.lookup f_Put_reads = some ⟨oc12, od12, .func (W.fnOf "reads" "Put.reads" (defArgs s_Put_reads) (defBody s_Put_reads) (defScope s_Put_reads) .none kV12 dc12 pm12 an12 cd12 ct12), sl12⟩)
  (c_Put_reads : W.codeIn K cd12 "Put.reads" = true)
  (k_Put_reads : W.keepIn K (.ref f_Put_reads) = true)
  (a_Put_writes : W.findIn K (.ref C_Put) "writes" = some (some (.ref f_Put_writes)))
  (l_Put_writes : K.lookup f_Put_writes = some ⟨oc13, od13, .func (W.fnOf "writes" "Put.writes" (defArgs s_Put_writes) (defBody s_Put_writes) (defScope s_Put_writes) .none kV13 dc13 pm13 an13 cd13 ct13), sl13⟩)
  (c_Put_writes : W.codeIn K cd13 "Put.writes" = true)
  (k_Put_writes : W.keepIn K (.ref f_Put_writes) = true)
  (a_Put_pieces : W.findIn K (.ref C_Put) "pieces" = some (some (.ref f_Put_pieces)))
  (l_Put_pieces : K.lookup f_Put_pieces = some ⟨oc14, od14, .func (W.fnOf "pieces" "Put.pieces" (defArgs s_Put_pieces) (defBody s_Put_pieces) (defScope s_Put_pieces) .none kV14 dc14 pm14 an14 cd14 ct14), sl14⟩)
  (c_Put_pieces : W.codeIn K cd14 "Put.pieces" = true)
  (k_Put_pieces : W.keepIn K (.ref f_Put_pieces) = true)
  (a_Put_sign_for : W.findIn K (.ref C_Put) "sign_for" = some (some (.ref f_Put_sign_for)))
  (l_Put_sign_for : K.lookup f_Put_sign_for = some ⟨oc15, od15, .func (W.fnOf "sign_for" "Put.sign_for" (defArgs s_Put_sign_for) (defBody s_Put_sign_for) (defScope s_Put_sign_for) .none kV15 dc15 pm15 an15 cd15 ct15), sl15⟩)
  (c_Put_sign_for : W.codeIn K cd15 "Put.sign_for" = true)
  (k_Put_sign_for : W.keepIn K (.ref f_Put_sign_for) = true)
  (a_Put_told : W.findIn K (.ref C_Put) "told" = some (some (.ref f_Put_told)))
  (l_Put_told : K.lookup f_Put_told = some ⟨oc16, od16, .func (W.fnOf "told" "Put.told" (defArgs s_Put_told) (defBody s_Put_told) (defScope s_Put_told) .none kV16 dc16 pm16 an16 cd16 ct16), sl16⟩)
  (c_Put_told : W.codeIn K cd16 "Put.told" = true)
  (k_Put_told : W.keepIn K (.ref f_Put_told) = true)
  (a_row_of : W.nsIn K mainGlobals "row_of" = some (some (.ref f_row_of)))
  (l_row_of : K.lookup f_row_of = some ⟨oc17, od17, .func (W.fnOf "row_of" "row_of" (defArgs s_row_of) (defBody s_row_of) (defScope s_row_of) .none kV17 dc17 pm17 an17 cd17 ct17), sl17⟩)
  (c_row_of : W.codeIn K cd17 "row_of" = true)
  (k_row_of : W.keepIn K (.ref f_row_of) = true)
  (a_tells_take : W.nsIn K mainGlobals "tells_take" = some (some (.ref f_tells_take)))
  (l_tells_take : K.lookup f_tells_take = some ⟨oc18, od18, .func (W.fnOf "tells_take" "tells_take" (defArgs s_tells_take) (defBody s_tells_take) (defScope s_tells_take) .none kV18 dc18 pm18 an18 cd18 ct18), sl18⟩)
  (c_tells_take : W.codeIn K cd18 "tells_take" = true)
  (k_tells_take : W.keepIn K (.ref f_tells_take) = true)
  (a_tells_put : W.nsIn K mainGlobals "tells_put" = some (some (.ref f_tells_put)))
  (l_tells_put : K.lookup f_tells_put = some ⟨oc19, od19, .func (W.fnOf "tells_put" "tells_put" (defArgs s_tells_put) (defBody s_tells_put) (defScope s_tells_put) .none kV19 dc19 pm19 an19 cd19 ct19), sl19⟩)
  (c_tells_put : W.codeIn K cd19 "tells_put" = true)
  (k_tells_put : W.keepIn K (.ref f_tells_put) = true)
  (a_are_signs : W.nsIn K mainGlobals "are_signs" = some (some (.ref f_are_signs)))
  (l_are_signs : K.lookup f_are_signs = some ⟨oc20, od20, .func (W.fnOf "are_signs" "are_signs" (defArgs s_are_signs) (defBody s_are_signs) (defScope s_are_signs) .none kV20 dc20 pm20 an20 cd20 ct20), sl20⟩)
  (c_are_signs : W.codeIn K cd20 "are_signs" = true)
  (k_are_signs : W.keepIn K (.ref f_are_signs) = true)
  (a_is_sign : W.nsIn K mainGlobals "is_sign" = some (some (.ref f_is_sign)))
  (l_is_sign : K.lookup f_is_sign = some ⟨oc21, od21, .func (W.fnOf "is_sign" "is_sign" (defArgs s_is_sign) (defBody s_is_sign) (defScope s_is_sign) .none kV21 dc21 pm21 an21 cd21 ct21), sl21⟩)
  (c_is_sign : W.codeIn K cd21 "is_sign" = true)
  (k_is_sign : W.keepIn K (.ref f_is_sign) = true)
  (a_is_whole_from : W.nsIn K mainGlobals "is_whole_from" = some (some (.ref f_is_whole_from)))
  (l_is_whole_from : K.lookup f_is_whole_from = some ⟨oc22, od22, .func (W.fnOf "is_whole_from" "is_whole_from" (defArgs s_is_whole_from) (defBody s_is_whole_from) (defScope s_is_whole_from) .none kV22 dc22 pm22 an22 cd22 ct22), sl22⟩)
  (c_is_whole_from : W.codeIn K cd22 "is_whole_from" = true)
  (k_is_whole_from : W.keepIn K (.ref f_is_whole_from) = true)
  (a_is_whole : W.nsIn K mainGlobals "is_whole" = some (some (.ref f_is_whole)))
  (l_is_whole : K.lookup f_is_whole = some ⟨oc23, od23, .func (W.fnOf "is_whole" "is_whole" (defArgs s_is_whole) (defBody s_is_whole) (defScope s_is_whole) .none kV23 dc23 pm23 an23 cd23 ct23), sl23⟩)
  (c_is_whole : W.codeIn K cd23 "is_whole" = true)
  (k_is_whole : W.keepIn K (.ref f_is_whole) = true)
  (a_judge : W.nsIn K mainGlobals "judge" = some (some (.ref f_judge)))
  (l_judge : K.lookup f_judge = some ⟨oc24, od24, .func (W.fnOf "judge" "judge" (defArgs s_judge) (defBody s_judge) (defScope s_judge) .none kV24 dc24 pm24 an24 cd24 ct24), sl24⟩)
  (c_judge : W.codeIn K cd24 "judge" = true)
  (k_judge : W.keepIn K (.ref f_judge) = true)
  (a_fits_in_size : W.nsIn K mainGlobals "fits_in_size" = some (some (.ref f_fits_in_size)))
  (l_fits_in_size : K.lookup f_fits_in_size = some ⟨oc25, od25, .func (W.fnOf "fits_in_size" "fits_in_size" (defArgs s_fits_in_size) (defBody s_fits_in_size) (defScope s_fits_in_size) .none kV25 dc25 pm25 an25 cd25 ct25), sl25⟩)
  (c_fits_in_size : W.codeIn K cd25 "fits_in_size" = true)
  (k_fits_in_size : W.keepIn K (.ref f_fits_in_size) = true)
  (a_is_length : W.nsIn K mainGlobals "is_length" = some (some (.ref f_is_length)))
  (l_is_length : K.lookup f_is_length = some ⟨oc26, od26, .func (W.fnOf "is_length" "is_length" (defArgs s_is_length) (defBody s_is_length) (defScope s_is_length) .none kV26 dc26 pm26 an26 cd26 ct26), sl26⟩)
  (c_is_length : W.codeIn K cd26 "is_length" = true)
  (k_is_length : W.keepIn K (.ref f_is_length) = true)
  (a_first_wrong_row : W.nsIn K mainGlobals "first_wrong_row" = some (some (.ref f_first_wrong_row)))
  (l_first_wrong_row : K.lookup f_first_wrong_row = some ⟨oc27, od27, .func (W.fnOf "first_wrong_row" "first_wrong_row" (defArgs s_first_wrong_row) (defBody s_first_wrong_row) (defScope s_first_wrong_row) .none kV27 dc27 pm27 an27 cd27 ct27), sl27⟩)
  (c_first_wrong_row : W.codeIn K cd27 "first_wrong_row" = true)
  (k_first_wrong_row : W.keepIn K (.ref f_first_wrong_row) = true)
  (a_is_fitting_row : W.nsIn K mainGlobals "is_fitting_row" = some (some (.ref f_is_fitting_row)))
  (l_is_fitting_row : K.lookup f_is_fitting_row = some ⟨oc28, od28, .func (W.fnOf "is_fitting_row" "is_fitting_row" (defArgs s_is_fitting_row) (defBody s_is_fitting_row) (defScope s_is_fitting_row) .none kV28 dc28 pm28 an28 cd28 ct28), sl28⟩)
  (c_is_fitting_row : W.codeIn K cd28 "is_fitting_row" = true)
  (k_is_fitting_row : W.keepIn K (.ref f_is_fitting_row) = true)
  (a_covered_twice : W.nsIn K mainGlobals "covered_twice" = some (some (.ref f_covered_twice)))
  (l_covered_twice : K.lookup f_covered_twice = some ⟨oc29, od29, .func (W.fnOf "covered_twice" "covered_twice" (defArgs s_covered_twice) (defBody s_covered_twice) (defScope s_covered_twice) .none kV29 dc29 pm29 an29 cd29 ct29), sl29⟩)
  (c_covered_twice : W.codeIn K cd29 "covered_twice" = true)
  (k_covered_twice : W.keepIn K (.ref f_covered_twice) = true)
  (a_lacking : W.nsIn K mainGlobals "lacking" = some (some (.ref f_lacking)))
  (l_lacking : K.lookup f_lacking = some ⟨oc30, od30, .func (W.fnOf "lacking" "lacking" (defArgs s_lacking) (defBody s_lacking) (defScope s_lacking) .none kV30 dc30 pm30 an30 cd30 ct30), sl30⟩)
  (c_lacking : W.codeIn K cd30 "lacking" = true)
  (k_lacking : W.keepIn K (.ref f_lacking) = true)
  (a_read_late : W.nsIn K mainGlobals "read_late" = some (some (.ref f_read_late)))
  (l_read_late : K.lookup f_read_late = some ⟨oc31, od31, .func (W.fnOf "read_late" "read_late" (defArgs s_read_late) (defBody s_read_late) (defScope s_read_late) .none kV31 dc31 pm31 an31 cd31 ct31), sl31⟩)
  (c_read_late : W.codeIn K cd31 "read_late" = true)
  (k_read_late : W.keepIn K (.ref f_read_late) = true)
  (a_pieces_of : W.nsIn K mainGlobals "pieces_of" = some (some (.ref f_pieces_of)))
  (l_pieces_of : K.lookup f_pieces_of = some ⟨oc32, od32, .func (W.fnOf "pieces_of" "pieces_of" (defArgs s_pieces_of) (defBody s_pieces_of) (defScope s_pieces_of) .none kV32 dc32 pm32 an32 cd32 ct32), sl32⟩)
  (c_pieces_of : W.codeIn K cd32 "pieces_of" = true)
  (k_pieces_of : W.keepIn K (.ref f_pieces_of) = true)
  (a_go_on : W.nsIn K mainGlobals "go_on" = some (some (.ref f_go_on)))
  (l_go_on : K.lookup f_go_on = some ⟨oc33, od33, .func (W.fnOf "go_on" "go_on" (defArgs s_go_on) (defBody s_go_on) (defScope s_go_on) .none kV33 dc33 pm33 an33 cd33 ct33), sl33⟩)
  (c_go_on : W.codeIn K cd33 "go_on" = true)
  (k_go_on : W.keepIn K (.ref f_go_on) = true)
  (a_refuse_lengths : W.nsIn K mainGlobals "refuse_lengths" = some (some (.ref f_refuse_lengths)))
  (l_refuse_lengths : K.lookup f_refuse_lengths = some ⟨oc34, od34, .func (W.fnOf "refuse_lengths" "refuse_lengths" (defArgs s_refuse_lengths) (defBody s_refuse_lengths) (defScope s_refuse_lengths) .none kV34 dc34 pm34 an34 cd34 ct34), sl34⟩)
  (c_refuse_lengths : W.codeIn K cd34 "refuse_lengths" = true)
  (k_refuse_lengths : W.keepIn K (.ref f_refuse_lengths) = true)
  (a_refuse_beyond : W.nsIn K mainGlobals "refuse_beyond" = some (some (.ref f_refuse_beyond)))
  (l_refuse_beyond : K.lookup f_refuse_beyond = some ⟨oc35, od35, .func (W.fnOf "refuse_beyond" "refuse_beyond" (defArgs s_refuse_beyond) (defBody s_refuse_beyond) (defScope s_refuse_beyond) .none kV35 dc35 pm35 an35 cd35 ct35), sl35⟩)
  (c_refuse_beyond : W.codeIn K cd35 "refuse_beyond" = true)
  (k_refuse_beyond : W.keepIn K (.ref f_refuse_beyond) = true)
  (a_places_needed : W.nsIn K mainGlobals "places_needed" = some (some (.ref f_places_needed)))
  (l_places_needed : K.lookup f_places_needed = some ⟨oc36, od36, .func (W.fnOf "places_needed" "places_needed" (defArgs s_places_needed) (defBody s_places_needed) (defScope s_places_needed) .none kV36 dc36 pm36 an36 cd36 ct36), sl36⟩)
  (c_places_needed : W.codeIn K cd36 "places_needed" = true)
  (k_places_needed : W.keepIn K (.ref f_places_needed) = true)
  (a_do_piece : W.nsIn K mainGlobals "do_piece" = some (some (.ref f_do_piece)))
  (tk_do_piece : TabK K c_do_piece P_do_piece)
  (l_do_piece : K.lookup f_do_piece = some ⟨oc37, od37, .func (W.fnOf "do_piece" "do_piece" (defArgs s_do_piece) (defBody s_do_piece) (defScope s_do_piece) .none kV37 dc37 pm37 an37 (.ref c_do_piece) ct37), sl37⟩)
  (c_do_piece : W.codeIn K (.ref c_do_piece) "do_piece" = true)
  (k_do_piece : W.keepIn K (.ref f_do_piece) = true)
  (a_Pen_init : W.findIn K (.ref C_Pen) "__init__" = some (some (.ref f_Pen_init)))
  (l_Pen_init : K.lookup f_Pen_init = some ⟨oc38, od38, .func (W.fnOf "__init__" "Pen.__init__" (defArgs s_Pen_init) (defBody s_Pen_init) (defScope s_Pen_init) .none kV38 dc38 pm38 an38 cd38 ct38), sl38⟩)
  (c_Pen_init : W.codeIn K cd38 "Pen.__init__" = true)
  (k_Pen_init : W.keepIn K (.ref f_Pen_init) = true)
  (a_Pen_write_into : W.findIn K (.ref C_Pen) "write_into" = some (some (.ref f_Pen_write_into)))
  (l_Pen_write_into : K.lookup f_Pen_write_into = some ⟨oc39, od39, .func (W.fnOf "write_into" "Pen.write_into" (defArgs s_Pen_write_into) (defBody s_Pen_write_into) (defScope s_Pen_write_into) .none kV39 dc39 pm39 an39 cd39 ct39), sl39⟩)
  (c_Pen_write_into : W.codeIn K cd39 "Pen.write_into" = true)
  (k_Pen_write_into : W.keepIn K (.ref f_Pen_write_into) = true)
  (a_Pen_answer_of_fall : W.findIn K (.ref C_Pen) "answer_of_fall" = some (some (.ref f_Pen_answer_of_fall)))
  (l_Pen_answer_of_fall : K.lookup f_Pen_answer_of_fall = some ⟨oc40, od40, .func (W.fnOf "answer_of_fall" "Pen.answer_of_fall" (defArgs s_Pen_answer_of_fall) (defBody s_Pen_answer_of_fall) (defScope s_Pen_answer_of_fall) .none kV40 dc40 pm40 an40 cd40 ct40), sl40⟩)
  (c_Pen_answer_of_fall : W.codeIn K cd40 "Pen.answer_of_fall" = true)
  (k_Pen_answer_of_fall : W.keepIn K (.ref f_Pen_answer_of_fall) = true)
  (a_Store_init : W.findIn K (.ref C_Store) "__init__" = some (some (.ref f_Store_init)))
  (l_Store_init : K.lookup f_Store_init = some ⟨oc41, od41, .func (W.fnOf "__init__" "Store.__init__" (defArgs s_Store_init) (defBody s_Store_init) (defScope s_Store_init) (.ref dT_Store_init) kV41 dc41 pm41 an41 cd41 ct41), sl41⟩)
  (ld_Store_init : K.lookup dT_Store_init = some ⟨ddc_Store_init, dod_Store_init, .seq #[.none] dn_Store_init, dsl_Store_init⟩)
  (c_Store_init : W.codeIn K cd41 "Store.__init__" = true)
  (k_Store_init : W.keepIn K (.ref f_Store_init) = true)
  (a_Store_read : W.findIn K (.ref C_Store) "read" = some (some (.ref f_Store_read)))
  (l_Store_read : K.lookup f_Store_read = some ⟨oc42, od42, .func (W.fnOf "read" "Store.read" (defArgs s_Store_read) (defBody s_Store_read) (defScope s_Store_read) .none kV42 dc42 pm42 an42 cd42 ct42), sl42⟩)
  (c_Store_read : W.codeIn K cd42 "Store.read" = true)
  (k_Store_read : W.keepIn K (.ref f_Store_read) = true)
  (a_Store_write : W.findIn K (.ref C_Store) "write" = some (some (.ref f_Store_write)))
  (tk_Store_write : TabK K c_Store_write P_Store_write)
  (l_Store_write : K.lookup f_Store_write = some ⟨oc43, od43, .func (W.fnOf "write" "Store.write" (defArgs s_Store_write) (defBody s_Store_write) (defScope s_Store_write) .none kV43 dc43 pm43 an43 (.ref c_Store_write) ct43), sl43⟩)
  (c_Store_write : W.codeIn K (.ref c_Store_write) "Store.write" = true)
  (k_Store_write : W.keepIn K (.ref f_Store_write) = true)
  (a_Store_mark : W.findIn K (.ref C_Store) "mark" = some (some (.ref f_Store_mark)))
  (l_Store_mark : K.lookup f_Store_mark = some ⟨oc44, od44, .func (W.fnOf "mark" "Store.mark" (defArgs s_Store_mark) (defBody s_Store_mark) (defScope s_Store_mark) .none kV44 dc44 pm44 an44 cd44 ct44), sl44⟩)
  (c_Store_mark : W.codeIn K cd44 "Store.mark" = true)
  (k_Store_mark : W.keepIn K (.ref f_Store_mark) = true)
  (a_Store_noted : W.findIn K (.ref C_Store) "noted" = some (some (.ref f_Store_noted)))
  (l_Store_noted : K.lookup f_Store_noted = some ⟨oc45, od45, .func (W.fnOf "noted" "Store.noted" (defArgs s_Store_noted) (defBody s_Store_noted) (defScope s_Store_noted) .none kV45 dc45 pm45 an45 cd45 ct45), sl45⟩)
  (c_Store_noted : W.codeIn K cd45 "Store.noted" = true)
  (k_Store_noted : W.keepIn K (.ref f_Store_noted) = true)
  (a_Store_told : W.findIn K (.ref C_Store) "told" = some (some (.ref f_Store_told)))
  (l_Store_told : K.lookup f_Store_told = some ⟨oc46, od46, .func (W.fnOf "told" "Store.told" (defArgs s_Store_told) (defBody s_Store_told) (defScope s_Store_told) .none kV46 dc46 pm46 an46 cd46 ct46), sl46⟩)
  (c_Store_told : W.codeIn K cd46 "Store.told" = true)
  (k_Store_told : W.keepIn K (.ref f_Store_told) = true)
  (a_Store_refuse_lacking : W.findIn K (.ref C_Store) "refuse_lacking" = some (some (.ref f_Store_refuse_lacking)))
  (l_Store_refuse_lacking : K.lookup f_Store_refuse_lacking = some ⟨oc47, od47, .func (W.fnOf "refuse_lacking" "Store.refuse_lacking" (defArgs s_Store_refuse_lacking) (defBody s_Store_refuse_lacking) (defScope s_Store_refuse_lacking) .none kV47 dc47 pm47 an47 cd47 ct47), sl47⟩)
  (c_Store_refuse_lacking : W.codeIn K cd47 "Store.refuse_lacking" = true)
  (k_Store_refuse_lacking : W.keepIn K (.ref f_Store_refuse_lacking) = true)
  (a_Store_note_down : W.findIn K (.ref C_Store) "note_down" = some (some (.ref f_Store_note_down)))
  (tk_Store_note_down : TabK K c_Store_note_down P_Store_note_down)
  (l_Store_note_down : K.lookup f_Store_note_down = some ⟨oc48, od48, .func (W.fnOf "note_down" "Store.note_down" (defArgs s_Store_note_down) (defBody s_Store_note_down) (defScope s_Store_note_down) .none kV48 dc48 pm48 an48 (.ref c_Store_note_down) ct48), sl48⟩)
  (c_Store_note_down : W.codeIn K (.ref c_Store_note_down) "Store.note_down" = true)
  (k_Store_note_down : W.keepIn K (.ref f_Store_note_down) = true)
  (a_cell_at : W.nsIn K mainGlobals "_law_cell_at" = some (some (.ref f_cell_at)))
  (l_cell_at : K.lookup f_cell_at = some ⟨oc49, od49, .func (W.fnOf "_law_cell_at" "_law_cell_at" (defArgs s_cell_at) (defBody s_cell_at) (defScope s_cell_at) .none kV49 dc49 pm49 an49 cd49 ct49), sl49⟩)
  (c_cell_at : W.codeIn K cd49 "_law_cell_at" = true)
  (k_cell_at : W.keepIn K (.ref f_cell_at) = true)
  (a_mixed : W.nsIn K mainGlobals "_law_mixed" = some (some (.ref f_mixed)))
  (l_mixed : K.lookup f_mixed = some ⟨oc50, od50, .func (W.fnOf "_law_mixed" "_law_mixed" (defArgs s_mixed) (defBody s_mixed) (defScope s_mixed) .none kV50 dc50 pm50 an50 cd50 ct50), sl50⟩)
  (c_mixed : W.codeIn K cd50 "_law_mixed" = true)
  (k_mixed : W.keepIn K (.ref f_mixed) = true)
  (a_cuts : W.nsIn K mainGlobals "_law_cuts" = some (some (.ref f_cuts)))
  (l_cuts : K.lookup f_cuts = some ⟨oc51, od51, .func (W.fnOf "_law_cuts" "_law_cuts" (defArgs s_cuts) (defBody s_cuts) (defScope s_cuts) .none kV51 dc51 pm51 an51 cd51 ct51), sl51⟩)
  (c_cuts : W.codeIn K cd51 "_law_cuts" = true)
  (k_cuts : W.keepIn K (.ref f_cuts) = true)
  (a_tiles : W.nsIn K mainGlobals "_law_tiles" = some (some (.ref f_tiles)))
  (l_tiles : K.lookup f_tiles = some ⟨oc52, od52, .func (W.fnOf "_law_tiles" "_law_tiles" (defArgs s_tiles) (defBody s_tiles) (defScope s_tiles) .none kV52 dc52 pm52 an52 cd52 ct52), sl52⟩)
  (c_tiles : W.codeIn K cd52 "_law_tiles" = true)
  (k_tiles : W.keepIn K (.ref f_tiles) = true)
  (a_ordered : W.nsIn K mainGlobals "_law_ordered" = some (some (.ref f_ordered)))
  (l_ordered : K.lookup f_ordered = some ⟨oc53, od53, .func (W.fnOf "_law_ordered" "_law_ordered" (defArgs s_ordered) (defBody s_ordered) (defScope s_ordered) .none kV53 dc53 pm53 an53 cd53 ct53), sl53⟩)
  (c_ordered : W.codeIn K cd53 "_law_ordered" = true)
  (k_ordered : W.keepIn K (.ref f_ordered) = true)
  (a_paper : W.nsIn K mainGlobals "_law_paper" = some (some (.ref f_paper)))
  (l_paper : K.lookup f_paper = some ⟨oc54, od54, .func (W.fnOf "_law_paper" "_law_paper" (defArgs s_paper) (defBody s_paper) (defScope s_paper) .none kV54 dc54 pm54 an54 cd54 ct54), sl54⟩)
  (c_paper : W.codeIn K cd54 "_law_paper" = true)
  (k_paper : W.keepIn K (.ref f_paper) = true)
  (a_meant : W.nsIn K mainGlobals "_law_meant" = some (some (.ref f_meant)))
  (l_meant : K.lookup f_meant = some ⟨oc55, od55, .func (W.fnOf "_law_meant" "_law_meant" (defArgs s_meant) (defBody s_meant) (defScope s_meant) .none kV55 dc55 pm55 an55 cd55 ct55), sl55⟩)
  (c_meant : W.codeIn K cd55 "_law_meant" = true)
  (k_meant : W.keepIn K (.ref f_meant) = true)
  (a_covers : W.nsIn K mainGlobals "_law_covers" = some (some (.ref f_covers)))
  (l_covers : K.lookup f_covers = some ⟨oc56, od56, .func (W.fnOf "_law_covers" "_law_covers" (defArgs s_covers) (defBody s_covers) (defScope s_covers) .none kV56 dc56 pm56 an56 cd56 ct56), sl56⟩)
  (c_covers : W.codeIn K cd56 "_law_covers" = true)
  (k_covers : W.keepIn K (.ref f_covers) = true)
  (a_first : W.nsIn K mainGlobals "_law_first" = some (some (.ref f_first)))
  (l_first : K.lookup f_first = some ⟨oc57, od57, .func (W.fnOf "_law_first" "_law_first" (defArgs s_first) (defBody s_first) (defScope s_first) .none kV57 dc57 pm57 an57 cd57 ct57), sl57⟩)
  (c_first : W.codeIn K cd57 "_law_first" = true)
  (k_first : W.keepIn K (.ref f_first) = true)
  (a_law : W.nsIn K mainGlobals "law" = some (some (.ref f_law)))
  (l_law : K.lookup f_law = some ⟨oc58, od58, .func (W.fnOf "law" "law" (defArgs s_law) (defBody s_law) (defScope s_law) .none kV58 dc58 pm58 an58 cd58 ct58), sl58⟩)
  (c_law : W.codeIn K cd58 "law" = true)
  (k_law : W.keepIn K (.ref f_law) = true)
  (pg_Row : W.plainGet K C_Row Str.empty = true)
  (hd_Row : W.hasDictIn K C_Row = true)
  (po_Row : W.plainOver K C_Row = true)
  (sa_Row : W.findIn K (.ref C_Row) "__setattr__" = some (some (.builtin "object.__setattr__")))
  (na_Row_count : W.findIn K (.ref C_Row) "count" = some none)
  (na_Row_to : W.findIn K (.ref C_Row) "to" = some none)
  (pg_Take : W.plainGet K C_Take Str.empty = true)
  (hd_Take : W.hasDictIn K C_Take = true)
  (po_Take : W.plainOver K C_Take = true)
  (sa_Take : W.findIn K (.ref C_Take) "__setattr__" = some (some (.builtin "object.__setattr__")))
  (na_Take_count : W.findIn K (.ref C_Take) "count" = some none)
  (na_Take_source : W.findIn K (.ref C_Take) "source" = some none)
  (na_Take_to : W.findIn K (.ref C_Take) "to" = some none)
  (mk_Take : W.makesIn K C_Take = true)
  (in_Take : W.findIn K (.ref C_Take) "__init__" = some (some (.ref f_Take_init)))
  (fn_Take : W.isFn K (.ref f_Take_init) = true)
  (kp_Take : W.keepIn K (.ref C_Take) = true)
  (pg_Put : W.plainGet K C_Put Str.empty = true)
  (hd_Put : W.hasDictIn K C_Put = true)
  (po_Put : W.plainOver K C_Put = true)
  (sa_Put : W.findIn K (.ref C_Put) "__setattr__" = some (some (.builtin "object.__setattr__")))
  (na_Put_count : W.findIn K (.ref C_Put) "count" = some none)
  (na_Put_signs : W.findIn K (.ref C_Put) "signs" = some none)
  (na_Put_to : W.findIn K (.ref C_Put) "to" = some none)
  (mk_Put : W.makesIn K C_Put = true)
  (in_Put : W.findIn K (.ref C_Put) "__init__" = some (some (.ref f_Put_init)))
  (fn_Put : W.isFn K (.ref f_Put_init) = true)
  (kp_Put : W.keepIn K (.ref C_Put) = true)
  (pg_Pen : W.plainGet K C_Pen Str.empty = true)
  (hd_Pen : W.hasDictIn K C_Pen = true)
  (po_Pen : W.plainOver K C_Pen = true)
  (sa_Pen : W.findIn K (.ref C_Pen) "__setattr__" = some (some (.builtin "object.__setattr__")))
  (na_Pen_asked : W.findIn K (.ref C_Pen) "asked" = some none)
  (na_Pen_fall : W.findIn K (.ref C_Pen) "fall" = some none)
  (mk_Pen : W.makesIn K C_Pen = true)
  (in_Pen : W.findIn K (.ref C_Pen) "__init__" = some (some (.ref f_Pen_init)))
  (fn_Pen : W.isFn K (.ref f_Pen_init) = true)
  (kp_Pen : W.keepIn K (.ref C_Pen) = true)
  (pg_Store : W.plainGet K C_Store Str.empty = true)
  (hd_Store : W.hasDictIn K C_Store = true)
  (po_Store : W.plainOver K C_Store = true)
  (sa_Store : W.findIn K (.ref C_Store) "__setattr__" = some (some (.builtin "object.__setattr__")))
  (na_Store_cells : W.findIn K (.ref C_Store) "cells" = some none)
  (na_Store_notes : W.findIn K (.ref C_Store) "notes" = some none)
  (na_Store_pen : W.findIn K (.ref C_Store) "pen" = some none)
  (mk_Store : W.makesIn K C_Store = true)
  (in_Store : W.findIn K (.ref C_Store) "__init__" = some (some (.ref f_Store_init)))
  (fn_Store : W.isFn K (.ref f_Store_init) = true)
  (kp_Store : W.keepIn K (.ref C_Store) = true)
  (ma_Pen_answer_of_fall : W.findIn K (.ref C_Pen) "answer_of_fall" = some (some (.ref f_Pen_answer_of_fall)))
  (mf_Pen_answer_of_fall : W.isFn K (.ref f_Pen_answer_of_fall) = true)
  (mp_Pen_answer_of_fall : W.keepIn K (.ref f_Pen_answer_of_fall) = true)
  (ma_Pen_write_into : W.findIn K (.ref C_Pen) "write_into" = some (some (.ref f_Pen_write_into)))
  (mf_Pen_write_into : W.isFn K (.ref f_Pen_write_into) = true)
  (mp_Pen_write_into : W.keepIn K (.ref f_Pen_write_into) = true)
  (ma_Put_covered : W.findIn K (.ref C_Put) "covered" = some (some (.ref f_Row_covered)))
  (mf_Put_covered : W.isFn K (.ref f_Row_covered) = true)
  (mp_Put_covered : W.keepIn K (.ref f_Row_covered) = true)
  (ma_Put_covers : W.findIn K (.ref C_Put) "covers" = some (some (.ref f_Row_covers)))
  (mf_Put_covers : W.isFn K (.ref f_Row_covers) = true)
  (mp_Put_covers : W.keepIn K (.ref f_Row_covers) = true)
  (ma_Put_pieces : W.findIn K (.ref C_Put) "pieces" = some (some (.ref f_Put_pieces)))
  (mf_Put_pieces : W.isFn K (.ref f_Put_pieces) = true)
  (mp_Put_pieces : W.keepIn K (.ref f_Put_pieces) = true)
  (ma_Put_reads : W.findIn K (.ref C_Put) "reads" = some (some (.ref f_Put_reads)))
  (mf_Put_reads : W.isFn K (.ref f_Put_reads) = true)
  (mp_Put_reads : W.keepIn K (.ref f_Put_reads) = true)
  (ma_Put_sign_for : W.findIn K (.ref C_Put) "sign_for" = some (some (.ref f_Put_sign_for)))
  (mf_Put_sign_for : W.isFn K (.ref f_Put_sign_for) = true)
  (mp_Put_sign_for : W.keepIn K (.ref f_Put_sign_for) = true)
  (ma_Put_writes : W.findIn K (.ref C_Put) "writes" = some (some (.ref f_Put_writes)))
  (mf_Put_writes : W.isFn K (.ref f_Put_writes) = true)
  (mp_Put_writes : W.keepIn K (.ref f_Put_writes) = true)
  (ma_Store_mark : W.findIn K (.ref C_Store) "mark" = some (some (.ref f_Store_mark)))
  (mf_Store_mark : W.isFn K (.ref f_Store_mark) = true)
  (mp_Store_mark : W.keepIn K (.ref f_Store_mark) = true)
  (ma_Store_note_down : W.findIn K (.ref C_Store) "note_down" = some (some (.ref f_Store_note_down)))
  (mf_Store_note_down : W.isFn K (.ref f_Store_note_down) = true)
  (mp_Store_note_down : W.keepIn K (.ref f_Store_note_down) = true)
  (ma_Store_noted : W.findIn K (.ref C_Store) "noted" = some (some (.ref f_Store_noted)))
  (mf_Store_noted : W.isFn K (.ref f_Store_noted) = true)
  (mp_Store_noted : W.keepIn K (.ref f_Store_noted) = true)
  (ma_Store_read : W.findIn K (.ref C_Store) "read" = some (some (.ref f_Store_read)))
  (mf_Store_read : W.isFn K (.ref f_Store_read) = true)
  (mp_Store_read : W.keepIn K (.ref f_Store_read) = true)
  (ma_Store_refuse_lacking : W.findIn K (.ref C_Store) "refuse_lacking" = some (some (.ref f_Store_refuse_lacking)))
  (mf_Store_refuse_lacking : W.isFn K (.ref f_Store_refuse_lacking) = true)
  (mp_Store_refuse_lacking : W.keepIn K (.ref f_Store_refuse_lacking) = true)
  (ma_Store_told : W.findIn K (.ref C_Store) "told" = some (some (.ref f_Store_told)))
  (mf_Store_told : W.isFn K (.ref f_Store_told) = true)
  (mp_Store_told : W.keepIn K (.ref f_Store_told) = true)
  (ma_Store_write : W.findIn K (.ref C_Store) "write" = some (some (.ref f_Store_write)))
  (mf_Store_write : W.isFn K (.ref f_Store_write) = true)
  (mp_Store_write : W.keepIn K (.ref f_Store_write) = true)
  (ma_Take_covered : W.findIn K (.ref C_Take) "covered" = some (some (.ref f_Row_covered)))
  (mf_Take_covered : W.isFn K (.ref f_Row_covered) = true)
  (mp_Take_covered : W.keepIn K (.ref f_Row_covered) = true)
  (ma_Take_covers : W.findIn K (.ref C_Take) "covers" = some (some (.ref f_Row_covers)))
  (mf_Take_covers : W.isFn K (.ref f_Row_covers) = true)
  (mp_Take_covers : W.keepIn K (.ref f_Row_covers) = true)
  (ma_Take_pieces : W.findIn K (.ref C_Take) "pieces" = some (some (.ref f_Take_pieces)))
  (mf_Take_pieces : W.isFn K (.ref f_Take_pieces) = true)
  (mp_Take_pieces : W.keepIn K (.ref f_Take_pieces) = true)
  (ma_Take_reads : W.findIn K (.ref C_Take) "reads" = some (some (.ref f_Take_reads)))
  (mf_Take_reads : W.isFn K (.ref f_Take_reads) = true)
  (mp_Take_reads : W.keepIn K (.ref f_Take_reads) = true)
  (ma_Take_sign_for : W.findIn K (.ref C_Take) "sign_for" = some (some (.ref f_Take_sign_for)))
  (mf_Take_sign_for : W.isFn K (.ref f_Take_sign_for) = true)
  (mp_Take_sign_for : W.keepIn K (.ref f_Take_sign_for) = true)
  (ma_Take_source_for : W.findIn K (.ref C_Take) "source_for" = some (some (.ref f_Take_source_for)))
  (mf_Take_source_for : W.isFn K (.ref f_Take_source_for) = true)
  (mp_Take_source_for : W.keepIn K (.ref f_Take_source_for) = true)
  (ma_Take_stays : W.findIn K (.ref C_Take) "stays" = some (some (.ref f_Take_stays)))
  (mf_Take_stays : W.isFn K (.ref f_Take_stays) = true)
  (mp_Take_stays : W.keepIn K (.ref f_Take_stays) = true)
  (ma_Take_writes : W.findIn K (.ref C_Take) "writes" = some (some (.ref f_Take_writes)))
  (mf_Take_writes : W.isFn K (.ref f_Take_writes) = true)
  (mp_Take_writes : W.keepIn K (.ref f_Take_writes) = true)
  (bs_Row_init : W.specialIn K (.ref C_Row) "__getattribute__" = some (some (.builtin "type.__getattribute__")))
  (br_Row_init : W.readsIn K C_Row (.type "type") = true)
  (bf_Row_init : W.findCls K (.ref C_Row) (.type "type") "__init__" = some (.val (.ref f_Row_init)))
  (bk_Row_init : W.keepIn K (.ref f_Row_init) = true)
  (ia_Put : W.findIn K (.ref C_Put) "__class__" = some (some (.builtin "object.__class__")))
  (ib_Put : W.specialIn K (.builtin "object.__class__") "__get__" = some (some (.builtin "getset_descriptor.__get__")))
  (it_Put : W.takesIn K (.builtin "object.__class__") = some true)
  (im_Put : W.mroIn K C_Put (.type "object") = some true)
  (ia_Take : W.findIn K (.ref C_Take) "__class__" = some (some (.builtin "object.__class__")))
  (ib_Take : W.specialIn K (.builtin "object.__class__") "__get__" = some (some (.builtin "getset_descriptor.__get__")))
  (it_Take : W.takesIn K (.builtin "object.__class__") = some true)
  (im_Take : W.mroIn K C_Take (.type "object") = some true)
  (ik_Put_Take : W.kitOne K (.ref C_Put) (.ref C_Take) = some false)
  (ik_Take_Take : W.kitOne K (.ref C_Take) (.ref C_Take) = some true)
  (aG_MOST : W.nsIn K mainGlobals "MOST" = some (some (.int 300 t_MOST)))
  (n_abs : W.nsIn K mainGlobals "abs" = some none)
  (n_all : W.nsIn K mainGlobals "all" = some none)
  (n_bool : W.nsIn K mainGlobals "bool" = some none)
  (n_enumerate : W.nsIn K mainGlobals "enumerate" = some none)
  (n_int : W.nsIn K mainGlobals "int" = some none)
  (n_isinstance : W.nsIn K mainGlobals "isinstance" = some none)
  (n_len : W.nsIn K mainGlobals "len" = some none)
  (n_list : W.nsIn K mainGlobals "list" = some none)
  (n_max : W.nsIn K mainGlobals "max" = some none)
  (n_min : W.nsIn K mainGlobals "min" = some none)
  (n_range : W.nsIn K mainGlobals "range" = some none)
  (n_sorted : W.nsIn K mainGlobals "sorted" = some none)
  (n_tuple : W.nsIn K mainGlobals "tuple" = some none)
  : ∃ fd : FuncData, (∀ (s : Shared) (v : Value), BindsTo s fd ⟨[v], []⟩ [("_law_script", v)]) ∧ ∀ base : Heap, K.In base → base.Ns mainGlobals mg → FnOk l.prog w K mg base CX0 9 fa fd ["_law_script"] (sp_law K) := by
 have e := hfa.symm.trans (W.mg_of X G a_law)
 have e2 : f_law = fa := by injection e with e; injection e with e; exact e.symm
 subst e2
 have F_Row_init := fun_mk (st := s_Row_init) l_Row_init c_Row_init k_Row_init
 have b_Row_init := F_Row_init.binds (ps := ["self", "to"]) bn_Row_init
 have F_Row_covers := fun_mk (st := s_Row_covers) l_Row_covers c_Row_covers k_Row_covers
 have b_Row_covers := F_Row_covers.binds (ps := ["self"]) bn_Row_covers
 have F_Row_covered := fun_mk (st := s_Row_covered) l_Row_covered c_Row_covered k_Row_covered
 have b_Row_covered := F_Row_covered.binds (ps := ["self"]) bn_Row_covered
 have F_Take_init := fun_mk (st := s_Take_init) l_Take_init c_Take_init k_Take_init
 have b_Take_init := F_Take_init.binds (ps := ["self", "to", "start", "count"]) bn_Take_init
 have F_Take_stays := fun_mk (st := s_Take_stays) l_Take_stays c_Take_stays k_Take_stays
 have b_Take_stays := F_Take_stays.binds (ps := ["self"]) bn_Take_stays
 have F_Take_reads := fun_mk (st := s_Take_reads) l_Take_reads c_Take_reads k_Take_reads
 have b_Take_reads := F_Take_reads.binds (ps := ["self"]) bn_Take_reads
 have F_Take_writes := fun_mk (st := s_Take_writes) l_Take_writes c_Take_writes k_Take_writes
 have b_Take_writes := F_Take_writes.binds (ps := ["self"]) bn_Take_writes
 have F_Take_pieces := fun_mk (st := s_Take_pieces) l_Take_pieces c_Take_pieces k_Take_pieces
 have b_Take_pieces := F_Take_pieces.binds (ps := ["self"]) bn_Take_pieces
 have F_Take_source_for := fun_mk (st := s_Take_source_for) l_Take_source_for c_Take_source_for k_Take_source_for
 have b_Take_source_for := F_Take_source_for.binds (ps := ["self", "cell"]) bn_Take_source_for
 have F_Take_sign_for := fun_mk (st := s_Take_sign_for) l_Take_sign_for c_Take_sign_for k_Take_sign_for
 have b_Take_sign_for := F_Take_sign_for.binds (ps := ["self", "cell", "read"]) bn_Take_sign_for
 have F_Take_told := fun_mk (st := s_Take_told) l_Take_told c_Take_told k_Take_told
 have b_Take_told := F_Take_told.binds (ps := ["self"]) bn_Take_told
 have F_Put_init := fun_mk (st := s_Put_init) l_Put_init c_Put_init k_Put_init
 have b_Put_init := F_Put_init.binds (ps := ["self", "to", "signs"]) bn_Put_init
 have F_Put_reads := fun_mk (st := s_Put_reads) l_Put_reads c_Put_reads k_Put_reads
 have b_Put_reads := F_Put_reads.binds (ps := ["self"]) bn_Put_reads
 have F_Put_writes := fun_mk (st := s_Put_writes) l_Put_writes c_Put_writes k_Put_writes
 have b_Put_writes := F_Put_writes.binds (ps := ["self"]) bn_Put_writes
 have F_Put_pieces := fun_mk (st := s_Put_pieces) l_Put_pieces c_Put_pieces k_Put_pieces
 have b_Put_pieces := F_Put_pieces.binds (ps := ["self"]) bn_Put_pieces
 have F_Put_sign_for := fun_mk (st := s_Put_sign_for) l_Put_sign_for c_Put_sign_for k_Put_sign_for
 have b_Put_sign_for := F_Put_sign_for.binds (ps := ["self", "cell", "read"]) bn_Put_sign_for
 have F_Put_told := fun_mk (st := s_Put_told) l_Put_told c_Put_told k_Put_told
 have b_Put_told := F_Put_told.binds (ps := ["self"]) bn_Put_told
 have F_row_of := fun_mk (st := s_row_of) l_row_of c_row_of k_row_of
 have b_row_of := F_row_of.binds (ps := ["told"]) bn_row_of
 have F_tells_take := fun_mk (st := s_tells_take) l_tells_take c_tells_take k_tells_take
 have b_tells_take := F_tells_take.binds (ps := ["told"]) bn_tells_take
 have F_tells_put := fun_mk (st := s_tells_put) l_tells_put c_tells_put k_tells_put
 have b_tells_put := F_tells_put.binds (ps := ["told"]) bn_tells_put
 have F_are_signs := fun_mk (st := s_are_signs) l_are_signs c_are_signs k_are_signs
 have b_are_signs := F_are_signs.binds (ps := ["signs"]) bn_are_signs
 have F_is_sign := fun_mk (st := s_is_sign) l_is_sign c_is_sign k_is_sign
 have b_is_sign := F_is_sign.binds (ps := ["value"]) bn_is_sign
 have F_is_whole_from := fun_mk (st := s_is_whole_from) l_is_whole_from c_is_whole_from k_is_whole_from
 have b_is_whole_from := F_is_whole_from.binds (ps := ["least", "value"]) bn_is_whole_from
 have F_is_whole := fun_mk (st := s_is_whole) l_is_whole c_is_whole k_is_whole
 have b_is_whole := F_is_whole.binds (ps := ["value"]) bn_is_whole
 have F_judge := fun_mk (st := s_judge) l_judge c_judge k_judge
 have b_judge := F_judge.binds (ps := ["paper"]) bn_judge
 have F_fits_in_size := fun_mk (st := s_fits_in_size) l_fits_in_size c_fits_in_size k_fits_in_size
 have b_fits_in_size := F_fits_in_size.binds (ps := ["paper"]) bn_fits_in_size
 have F_is_length := fun_mk (st := s_is_length) l_is_length c_is_length k_is_length
 have b_is_length := F_is_length.binds (ps := ["value"]) bn_is_length
 have F_first_wrong_row := fun_mk (st := s_first_wrong_row) l_first_wrong_row c_first_wrong_row k_first_wrong_row
 have b_first_wrong_row := F_first_wrong_row.binds (ps := ["paper"]) bn_first_wrong_row
 have F_is_fitting_row := fun_mk (st := s_is_fitting_row) l_is_fitting_row c_is_fitting_row k_is_fitting_row
 have b_is_fitting_row := F_is_fitting_row.binds (ps := ["told", "old", "new"]) bn_is_fitting_row
 have F_covered_twice := fun_mk (st := s_covered_twice) l_covered_twice c_covered_twice k_covered_twice
 have b_covered_twice := F_covered_twice.binds (ps := ["rows"]) bn_covered_twice
 have F_lacking := fun_mk (st := s_lacking) l_lacking c_lacking k_lacking
 have b_lacking := F_lacking.binds (ps := ["rows", "new"]) bn_lacking
 have F_read_late := fun_mk (st := s_read_late) l_read_late c_read_late k_read_late
 have b_read_late := F_read_late.binds (ps := ["rows"]) bn_read_late
 have F_pieces_of := fun_mk (st := s_pieces_of) l_pieces_of c_pieces_of k_pieces_of
 have b_pieces_of := F_pieces_of.binds (ps := ["paper"]) bn_pieces_of
 have F_go_on := fun_mk (st := s_go_on) l_go_on c_go_on k_go_on
 have b_go_on := F_go_on.binds (ps := ["store", "paper"]) bn_go_on
 have F_refuse_lengths := fun_mk (st := s_refuse_lengths) l_refuse_lengths c_refuse_lengths k_refuse_lengths
 have b_refuse_lengths := F_refuse_lengths.binds (ps := ["size", "paper"]) bn_refuse_lengths
 have F_refuse_beyond := fun_mk (st := s_refuse_beyond) l_refuse_beyond c_refuse_beyond k_refuse_beyond
 have b_refuse_beyond := F_refuse_beyond.binds (ps := ["size", "pieces"]) bn_refuse_beyond
 have F_places_needed := fun_mk (st := s_places_needed) l_places_needed c_places_needed k_places_needed
 have b_places_needed := F_places_needed.binds (ps := ["row", "cells"]) bn_places_needed
 have F_do_piece := fun_mk (st := s_do_piece) l_do_piece c_do_piece k_do_piece
 have b_do_piece := F_do_piece.binds (ps := ["store", "row", "cells"]) bn_do_piece
 have F_Pen_init := fun_mk (st := s_Pen_init) l_Pen_init c_Pen_init k_Pen_init
 have b_Pen_init := F_Pen_init.binds (ps := ["self", "fall"]) bn_Pen_init
 have F_Pen_write_into := fun_mk (st := s_Pen_write_into) l_Pen_write_into c_Pen_write_into k_Pen_write_into
 have b_Pen_write_into := F_Pen_write_into.binds (ps := ["self", "kept", "at", "value", "torn"]) bn_Pen_write_into
 have F_Pen_answer_of_fall := fun_mk (st := s_Pen_answer_of_fall) l_Pen_answer_of_fall c_Pen_answer_of_fall k_Pen_answer_of_fall
 have b_Pen_answer_of_fall := F_Pen_answer_of_fall.binds (ps := ["self", "count"]) bn_Pen_answer_of_fall
 have F_Store_init := fund_mk (st := s_Store_init) (ds := [.none]) l_Store_init c_Store_init k_Store_init ld_Store_init
 have b_Store_init := F_Store_init.binds (ps := ["self", "cells", "fall"]) (es := []) 3 rfl fun _ _ _ _ _ _ _ us hl => match us, hl with | [_, _, _], _ => ⟨_, rfl, rfl⟩
 have bd_Store_init := F_Store_init.binds (ps := ["self", "cells", "fall"]) (es := [.none]) 2 rfl fun _ _ _ _ _ _ _ us hl => match us, hl with | [_, _], _ => ⟨_, rfl, rfl⟩
 have F_Store_read := fun_mk (st := s_Store_read) l_Store_read c_Store_read k_Store_read
 have b_Store_read := F_Store_read.binds (ps := ["self", "at"]) bn_Store_read
 have F_Store_write := fun_mk (st := s_Store_write) l_Store_write c_Store_write k_Store_write
 have b_Store_write := F_Store_write.binds (ps := ["self", "at", "sign"]) bn_Store_write
 have F_Store_mark := fun_mk (st := s_Store_mark) l_Store_mark c_Store_mark k_Store_mark
 have b_Store_mark := F_Store_mark.binds (ps := ["self", "number"]) bn_Store_mark
 have F_Store_noted := fun_mk (st := s_Store_noted) l_Store_noted c_Store_noted k_Store_noted
 have b_Store_noted := F_Store_noted.binds (ps := ["self"]) bn_Store_noted
 have F_Store_told := fun_mk (st := s_Store_told) l_Store_told c_Store_told k_Store_told
 have b_Store_told := F_Store_told.binds (ps := ["self"]) bn_Store_told
 have F_Store_refuse_lacking := fun_mk (st := s_Store_refuse_lacking) l_Store_refuse_lacking c_Store_refuse_lacking k_Store_refuse_lacking
 have b_Store_refuse_lacking := F_Store_refuse_lacking.binds (ps := ["self", "at"]) bn_Store_refuse_lacking
 have F_Store_note_down := fun_mk (st := s_Store_note_down) l_Store_note_down c_Store_note_down k_Store_note_down
 have b_Store_note_down := F_Store_note_down.binds (ps := ["self", "at", "number"]) bn_Store_note_down
 have F_cell_at := fun_mk (st := s_cell_at) l_cell_at c_cell_at k_cell_at
 have b_cell_at := F_cell_at.binds (ps := ["_law_script", "_law_k"]) bn_cell_at
 have F_mixed := fun_mk (st := s_mixed) l_mixed c_mixed k_mixed
 have b_mixed := F_mixed.binds (ps := ["_law_cell", "_law_k"]) bn_mixed
 have F_cuts := fun_mk (st := s_cuts) l_cuts c_cuts k_cuts
 have b_cuts := F_cuts.binds (ps := ["_law_size", "_law_cell"]) bn_cuts
 have F_tiles := fun_mk (st := s_tiles) l_tiles c_tiles k_tiles
 have b_tiles := F_tiles.binds (ps := ["_law_old", "_law_new", "_law_cell"]) bn_tiles
 have F_ordered := fun_mk (st := s_ordered) l_ordered c_ordered k_ordered
 have b_ordered := F_ordered.binds (ps := ["_law_rows", "_law_cell"]) bn_ordered
 have F_paper := fun_mk (st := s_paper) l_paper c_paper k_paper
 have b_paper := F_paper.binds (ps := ["_law_script"]) bn_paper
 have F_meant := fun_mk (st := s_meant) l_meant c_meant k_meant
 have b_meant := F_meant.binds (ps := ["_law_paper_here", "_law_elder"]) bn_meant
 have F_covers := fun_mk (st := s_covers) l_covers c_covers k_covers
 have b_covers := F_covers.binds (ps := ["_law_row", "_law_cell"]) bn_covers
 have F_first := fun_mk (st := s_first) l_first c_first k_first
 have b_first := F_first.binds (ps := ["_law_rows"]) bn_first
 have F_law := fun_mk (st := s_law) l_law c_law k_law
 have b_law := F_law.binds (ps := ["_law_script"]) bn_law
 have T : Txt K mg { f_Row_init := f_Row_init, f_Row_covers := f_Row_covers, f_Row_covered := f_Row_covered, f_Take_init := f_Take_init, f_Take_stays := f_Take_stays, f_Take_reads := f_Take_reads, f_Take_writes := f_Take_writes, f_Take_pieces := f_Take_pieces, f_Take_source_for := f_Take_source_for, f_Take_sign_for := f_Take_sign_for, f_Take_told := f_Take_told, f_Put_init := f_Put_init, f_Put_reads := f_Put_reads, f_Put_writes := f_Put_writes, f_Put_pieces := f_Put_pieces, f_Put_sign_for := f_Put_sign_for, f_Put_told := f_Put_told, f_row_of := f_row_of, f_tells_take := f_tells_take, f_tells_put := f_tells_put, f_are_signs := f_are_signs, f_is_sign := f_is_sign, f_is_whole_from := f_is_whole_from, f_is_whole := f_is_whole, f_judge := f_judge, f_fits_in_size := f_fits_in_size, f_is_length := f_is_length, f_first_wrong_row := f_first_wrong_row, f_is_fitting_row := f_is_fitting_row, f_covered_twice := f_covered_twice, f_lacking := f_lacking, f_read_late := f_read_late, f_pieces_of := f_pieces_of, f_go_on := f_go_on, f_refuse_lengths := f_refuse_lengths, f_refuse_beyond := f_refuse_beyond, f_places_needed := f_places_needed, f_do_piece := f_do_piece, f_Pen_init := f_Pen_init, f_Pen_write_into := f_Pen_write_into, f_Pen_answer_of_fall := f_Pen_answer_of_fall, f_Store_init := f_Store_init, f_Store_read := f_Store_read, f_Store_write := f_Store_write, f_Store_mark := f_Store_mark, f_Store_noted := f_Store_noted, f_Store_told := f_Store_told, f_Store_refuse_lacking := f_Store_refuse_lacking, f_Store_note_down := f_Store_note_down, f_cell_at := f_cell_at, f_mixed := f_mixed, f_cuts := f_cuts, f_tiles := f_tiles, f_ordered := f_ordered, f_paper := f_paper, f_meant := f_meant, f_covers := f_covers, f_first := f_first, f_law := f_law, d_Row_init := _, d_Row_covers := _, d_Row_covered := _, d_Take_init := _, d_Take_stays := _, d_Take_reads := _, d_Take_writes := _, d_Take_pieces := _, d_Take_source_for := _, d_Take_sign_for := _, d_Take_told := _, d_Put_init := _, d_Put_reads := _, d_Put_writes := _, d_Put_pieces := _, d_Put_sign_for := _, d_Put_told := _, d_row_of := _, d_tells_take := _, d_tells_put := _, d_are_signs := _, d_is_sign := _, d_is_whole_from := _, d_is_whole := _, d_judge := _, d_fits_in_size := _, d_is_length := _, d_first_wrong_row := _, d_is_fitting_row := _, d_covered_twice := _, d_lacking := _, d_read_late := _, d_pieces_of := _, d_go_on := _, d_refuse_lengths := _, d_refuse_beyond := _, d_places_needed := _, d_do_piece := _, d_Pen_init := _, d_Pen_write_into := _, d_Pen_answer_of_fall := _, d_Store_init := _, d_Store_read := _, d_Store_write := _, d_Store_mark := _, d_Store_noted := _, d_Store_told := _, d_Store_refuse_lacking := _, d_Store_note_down := _, d_cell_at := _, d_mixed := _, d_cuts := _, d_tiles := _, d_ordered := _, d_paper := _, d_meant := _, d_covers := _, d_first := _, d_law := _, C_Row := C_Row, C_Take := C_Take, C_Put := C_Put, C_Pen := C_Pen, C_Store := C_Store, t_MOST := t_MOST } := {
  F_Row_init := F_Row_init
  b_Row_init := b_Row_init
  F_Row_covers := F_Row_covers
  b_Row_covers := b_Row_covers
  F_Row_covered := F_Row_covered
  b_Row_covered := b_Row_covered
  F_Take_init := F_Take_init
  b_Take_init := b_Take_init
  F_Take_stays := F_Take_stays
  b_Take_stays := b_Take_stays
  F_Take_reads := F_Take_reads
  b_Take_reads := b_Take_reads
  F_Take_writes := F_Take_writes
  b_Take_writes := b_Take_writes
  F_Take_pieces := F_Take_pieces
  b_Take_pieces := b_Take_pieces
  F_Take_source_for := F_Take_source_for
  b_Take_source_for := b_Take_source_for
  F_Take_sign_for := F_Take_sign_for
  b_Take_sign_for := b_Take_sign_for
  F_Take_told := F_Take_told
  b_Take_told := b_Take_told
  F_Put_init := F_Put_init
  b_Put_init := b_Put_init
  F_Put_reads := F_Put_reads
  b_Put_reads := b_Put_reads
  F_Put_writes := F_Put_writes
  b_Put_writes := b_Put_writes
  F_Put_pieces := F_Put_pieces
  b_Put_pieces := b_Put_pieces
  F_Put_sign_for := F_Put_sign_for
  b_Put_sign_for := b_Put_sign_for
  F_Put_told := F_Put_told
  b_Put_told := b_Put_told
  F_row_of := F_row_of
  b_row_of := b_row_of
  m_row_of := W.mg_of X G a_row_of
  F_tells_take := F_tells_take
  b_tells_take := b_tells_take
  m_tells_take := W.mg_of X G a_tells_take
  F_tells_put := F_tells_put
  b_tells_put := b_tells_put
  m_tells_put := W.mg_of X G a_tells_put
  F_are_signs := F_are_signs
  b_are_signs := b_are_signs
  m_are_signs := W.mg_of X G a_are_signs
  F_is_sign := F_is_sign
  b_is_sign := b_is_sign
  m_is_sign := W.mg_of X G a_is_sign
  F_is_whole_from := F_is_whole_from
  b_is_whole_from := b_is_whole_from
  m_is_whole_from := W.mg_of X G a_is_whole_from
  F_is_whole := F_is_whole
  b_is_whole := b_is_whole
  m_is_whole := W.mg_of X G a_is_whole
  F_judge := F_judge
  b_judge := b_judge
  m_judge := W.mg_of X G a_judge
  F_fits_in_size := F_fits_in_size
  b_fits_in_size := b_fits_in_size
  m_fits_in_size := W.mg_of X G a_fits_in_size
  F_is_length := F_is_length
  b_is_length := b_is_length
  m_is_length := W.mg_of X G a_is_length
  F_first_wrong_row := F_first_wrong_row
  b_first_wrong_row := b_first_wrong_row
  m_first_wrong_row := W.mg_of X G a_first_wrong_row
  F_is_fitting_row := F_is_fitting_row
  b_is_fitting_row := b_is_fitting_row
  m_is_fitting_row := W.mg_of X G a_is_fitting_row
  F_covered_twice := F_covered_twice
  b_covered_twice := b_covered_twice
  m_covered_twice := W.mg_of X G a_covered_twice
  F_lacking := F_lacking
  b_lacking := b_lacking
  m_lacking := W.mg_of X G a_lacking
  F_read_late := F_read_late
  b_read_late := b_read_late
  m_read_late := W.mg_of X G a_read_late
  F_pieces_of := F_pieces_of
  b_pieces_of := b_pieces_of
  m_pieces_of := W.mg_of X G a_pieces_of
  F_go_on := F_go_on
  b_go_on := b_go_on
  m_go_on := W.mg_of X G a_go_on
  F_refuse_lengths := F_refuse_lengths
  b_refuse_lengths := b_refuse_lengths
  m_refuse_lengths := W.mg_of X G a_refuse_lengths
  F_refuse_beyond := F_refuse_beyond
  b_refuse_beyond := b_refuse_beyond
  m_refuse_beyond := W.mg_of X G a_refuse_beyond
  F_places_needed := F_places_needed
  b_places_needed := b_places_needed
  m_places_needed := W.mg_of X G a_places_needed
  F_do_piece := F_do_piece
  b_do_piece := b_do_piece
  m_do_piece := W.mg_of X G a_do_piece
  tk_do_piece := tk_do_piece
  cd_do_piece := rfl
  F_Pen_init := F_Pen_init
  b_Pen_init := b_Pen_init
  F_Pen_write_into := F_Pen_write_into
  b_Pen_write_into := b_Pen_write_into
  F_Pen_answer_of_fall := F_Pen_answer_of_fall
  b_Pen_answer_of_fall := b_Pen_answer_of_fall
  F_Store_init := F_Store_init
  b_Store_init := b_Store_init
  bd_Store_init := bd_Store_init
  F_Store_read := F_Store_read
  b_Store_read := b_Store_read
  F_Store_write := F_Store_write
  b_Store_write := b_Store_write
  tk_Store_write := tk_Store_write
  cd_Store_write := rfl
  F_Store_mark := F_Store_mark
  b_Store_mark := b_Store_mark
  F_Store_noted := F_Store_noted
  b_Store_noted := b_Store_noted
  F_Store_told := F_Store_told
  b_Store_told := b_Store_told
  F_Store_refuse_lacking := F_Store_refuse_lacking
  b_Store_refuse_lacking := b_Store_refuse_lacking
  F_Store_note_down := F_Store_note_down
  b_Store_note_down := b_Store_note_down
  tk_Store_note_down := tk_Store_note_down
  cd_Store_note_down := rfl
  F_cell_at := F_cell_at
  b_cell_at := b_cell_at
  m_cell_at := W.mg_of X G a_cell_at
  F_mixed := F_mixed
  b_mixed := b_mixed
  m_mixed := W.mg_of X G a_mixed
  F_cuts := F_cuts
  b_cuts := b_cuts
  m_cuts := W.mg_of X G a_cuts
  F_tiles := F_tiles
  b_tiles := b_tiles
  m_tiles := W.mg_of X G a_tiles
  F_ordered := F_ordered
  b_ordered := b_ordered
  m_ordered := W.mg_of X G a_ordered
  F_paper := F_paper
  b_paper := b_paper
  m_paper := W.mg_of X G a_paper
  F_meant := F_meant
  b_meant := b_meant
  m_meant := W.mg_of X G a_meant
  F_covers := F_covers
  b_covers := b_covers
  m_covers := W.mg_of X G a_covers
  F_first := F_first
  b_first := b_first
  m_first := W.mg_of X G a_first
  F_law := F_law
  b_law := b_law
  m_Row := W.mg_of X G aC_Row
  c_Row := ⟨pg_Row, hd_Row, po_Row, sa_Row⟩
  na_Row_count := na_Row_count
  na_Row_to := na_Row_to
  m_Take := W.mg_of X G aC_Take
  c_Take := ⟨pg_Take, hd_Take, po_Take, sa_Take⟩
  na_Take_count := na_Take_count
  na_Take_source := na_Take_source
  na_Take_to := na_Take_to
  mk_Take := ⟨mk_Take, in_Take, fn_Take, kp_Take⟩
  m_Put := W.mg_of X G aC_Put
  c_Put := ⟨pg_Put, hd_Put, po_Put, sa_Put⟩
  na_Put_count := na_Put_count
  na_Put_signs := na_Put_signs
  na_Put_to := na_Put_to
  mk_Put := ⟨mk_Put, in_Put, fn_Put, kp_Put⟩
  m_Pen := W.mg_of X G aC_Pen
  c_Pen := ⟨pg_Pen, hd_Pen, po_Pen, sa_Pen⟩
  na_Pen_asked := na_Pen_asked
  na_Pen_fall := na_Pen_fall
  mk_Pen := ⟨mk_Pen, in_Pen, fn_Pen, kp_Pen⟩
  m_Store := W.mg_of X G aC_Store
  c_Store := ⟨pg_Store, hd_Store, po_Store, sa_Store⟩
  na_Store_cells := na_Store_cells
  na_Store_notes := na_Store_notes
  na_Store_pen := na_Store_pen
  mk_Store := ⟨mk_Store, in_Store, fn_Store, kp_Store⟩
  ic_Put := fun e => .ins e ⟨pg_Put, hd_Put, po_Put, sa_Put⟩ ia_Put ib_Put it_Put im_Put
  ic_Take := fun e => .ins e ⟨pg_Take, hd_Take, po_Take, sa_Take⟩ ia_Take ib_Take it_Take im_Take
  ik_Put_Take := ik_Put_Take
  ik_Take_Take := ik_Take_Take
  m_MOST := W.mg_of X G aG_MOST
  me_Pen_answer_of_fall := ⟨ma_Pen_answer_of_fall, mf_Pen_answer_of_fall, mp_Pen_answer_of_fall⟩
  me_Pen_write_into := ⟨ma_Pen_write_into, mf_Pen_write_into, mp_Pen_write_into⟩
  me_Put_covered := ⟨ma_Put_covered, mf_Put_covered, mp_Put_covered⟩
  me_Put_covers := ⟨ma_Put_covers, mf_Put_covers, mp_Put_covers⟩
  me_Put_pieces := ⟨ma_Put_pieces, mf_Put_pieces, mp_Put_pieces⟩
  me_Put_reads := ⟨ma_Put_reads, mf_Put_reads, mp_Put_reads⟩
  me_Put_sign_for := ⟨ma_Put_sign_for, mf_Put_sign_for, mp_Put_sign_for⟩
  me_Put_writes := ⟨ma_Put_writes, mf_Put_writes, mp_Put_writes⟩
  me_Store_mark := ⟨ma_Store_mark, mf_Store_mark, mp_Store_mark⟩
  me_Store_note_down := ⟨ma_Store_note_down, mf_Store_note_down, mp_Store_note_down⟩
  me_Store_noted := ⟨ma_Store_noted, mf_Store_noted, mp_Store_noted⟩
  me_Store_read := ⟨ma_Store_read, mf_Store_read, mp_Store_read⟩
  me_Store_refuse_lacking := ⟨ma_Store_refuse_lacking, mf_Store_refuse_lacking, mp_Store_refuse_lacking⟩
  me_Store_told := ⟨ma_Store_told, mf_Store_told, mp_Store_told⟩
  me_Store_write := ⟨ma_Store_write, mf_Store_write, mp_Store_write⟩
  me_Take_covered := ⟨ma_Take_covered, mf_Take_covered, mp_Take_covered⟩
  me_Take_covers := ⟨ma_Take_covers, mf_Take_covers, mp_Take_covers⟩
  me_Take_pieces := ⟨ma_Take_pieces, mf_Take_pieces, mp_Take_pieces⟩
  me_Take_reads := ⟨ma_Take_reads, mf_Take_reads, mp_Take_reads⟩
  me_Take_sign_for := ⟨ma_Take_sign_for, mf_Take_sign_for, mp_Take_sign_for⟩
  me_Take_source_for := ⟨ma_Take_source_for, mf_Take_source_for, mp_Take_source_for⟩
  me_Take_stays := ⟨ma_Take_stays, mf_Take_stays, mp_Take_stays⟩
  me_Take_writes := ⟨ma_Take_writes, mf_Take_writes, mp_Take_writes⟩
  cm_Row_init := ⟨bs_Row_init, br_Row_init, bf_Row_init, bk_Row_init⟩
  n_abs := W.mg_none_of X G n_abs
  n_all := W.mg_none_of X G n_all
  n_bool := W.mg_none_of X G n_bool
  n_enumerate := W.mg_none_of X G n_enumerate
  n_int := W.mg_none_of X G n_int
  n_isinstance := W.mg_none_of X G n_isinstance
  n_len := W.mg_none_of X G n_len
  n_list := W.mg_none_of X G n_list
  n_max := W.mg_none_of X G n_max
  n_min := W.mg_none_of X G n_min
  n_range := W.mg_none_of X G n_range
  n_sorted := W.mg_none_of X G n_sorted
  n_tuple := W.mg_none_of X G n_tuple
 }
 exact ⟨_, fun s v => .of_eq rfl, fun base _ _ => ok_law T⟩
end K91
open PySem PySem.W PyProof.Rows
theorem PySem.W.Fast.tw10096439199134677722 : True := trivial
theorem PySem.W.Fast.tw10111509572849383309 : True := trivial
theorem PySem.W.Fast.tw10184062711549785352 : True := trivial
theorem PySem.W.Fast.tw10277304082573582252 : True := trivial
theorem PySem.W.Fast.tw10409294761051130588 : True := trivial
theorem PySem.W.Fast.tw10443837262664496351 : True := trivial
theorem PySem.W.Fast.tw10501048109511785719 : True := trivial
theorem PySem.W.Fast.tw10569091809564884215 : True := trivial
theorem PySem.W.Fast.tw10571360188839885863 : True := trivial
theorem PySem.W.Fast.tw10595949354257746140 : True := trivial
theorem PySem.W.Fast.tw10630770486901500669 : True := trivial
theorem PySem.W.Fast.tw10804665496497190850 : True := trivial
theorem PySem.W.Fast.tw10842013248110026142 : True := trivial
theorem PySem.W.Fast.tw10970256620059414520 : True := trivial
theorem PySem.W.Fast.tw11502517082215536547 : True := trivial
theorem PySem.W.Fast.tw11889221207938219939 : True := trivial
theorem PySem.W.Fast.tw11904399220607079713 : True := trivial
theorem PySem.W.Fast.tw11916004618646672997 : True := trivial
theorem PySem.W.Fast.tw12002980840232404237 : True := trivial
theorem PySem.W.Fast.tw12071072937321699931 : True := trivial
theorem PySem.W.Fast.tw12077026266048538598 : True := trivial
theorem PySem.W.Fast.tw12344790993872316014 : True := trivial
theorem PySem.W.Fast.tw12447231805504523491 : True := trivial
theorem PySem.W.Fast.tw12681651940824004920 : True := trivial
theorem PySem.W.Fast.tw12707757390136277981 : True := trivial
theorem PySem.W.Fast.tw12762176949748319012 : True := trivial
theorem PySem.W.Fast.tw12769534614344316326 : True := trivial
theorem PySem.W.Fast.tw12799908641676616409 : True := trivial
theorem PySem.W.Fast.tw12985322222935865138 : True := trivial
theorem PySem.W.Fast.tw13060588550024670397 : True := trivial
theorem PySem.W.Fast.tw1307217738929529597 : True := trivial
theorem PySem.W.Fast.tw13080923103603723370 : True := trivial
theorem PySem.W.Fast.tw13082669081641867599 : True := trivial
theorem PySem.W.Fast.tw13383141694294922319 : True := trivial
theorem PySem.W.Fast.tw13393675014735725594 : True := trivial
theorem PySem.W.Fast.tw13551235701012235851 : True := trivial
theorem PySem.W.Fast.tw13554874990048802956 : True := trivial
theorem PySem.W.Fast.tw13609779134509893517 : True := trivial
theorem PySem.W.Fast.tw13614946459573456387 : True := trivial
theorem PySem.W.Fast.tw1374531284328014700 : True := trivial
theorem PySem.W.Fast.tw13789612240942759043 : True := trivial
theorem PySem.W.Fast.tw13922892103731480515 : True := trivial
theorem PySem.W.Fast.tw14016112015150190444 : True := trivial
theorem PySem.W.Fast.tw14159724079641297651 : True := trivial
theorem PySem.W.Fast.tw14305170514799339425 : True := trivial
theorem PySem.W.Fast.tw14332092538695776944 : True := trivial
theorem PySem.W.Fast.tw14502233243116352086 : True := trivial
theorem PySem.W.Fast.tw14835804509638707854 : True := trivial
theorem PySem.W.Fast.tw15170563466812751850 : True := trivial
theorem PySem.W.Fast.tw15171171201021701574 : True := trivial
theorem PySem.W.Fast.tw15443417687938827998 : True := trivial
theorem PySem.W.Fast.tw15447393645721416103 : True := trivial
theorem PySem.W.Fast.tw15546229849609521407 : True := trivial
theorem PySem.W.Fast.tw15578224433161754571 : True := trivial
theorem PySem.W.Fast.tw15584686649609721998 : True := trivial
theorem PySem.W.Fast.tw15604728452190985102 : True := trivial
theorem PySem.W.Fast.tw15769329580819480783 : True := trivial
theorem PySem.W.Fast.tw16016749625121305673 : True := trivial
theorem PySem.W.Fast.tw16084452619614807646 : True := trivial
theorem PySem.W.Fast.tw16266680957164505163 : True := trivial
theorem PySem.W.Fast.tw16491052328924062094 : True := trivial
theorem PySem.W.Fast.tw16607165217259715566 : True := trivial
theorem PySem.W.Fast.tw16708448792508236067 : True := trivial
theorem PySem.W.Fast.tw16856011834064633733 : True := trivial
theorem PySem.W.Fast.tw17155575812164247840 : True := trivial
theorem PySem.W.Fast.tw17163864254543870131 : True := trivial
theorem PySem.W.Fast.tw1722673156018270926 : True := trivial
theorem PySem.W.Fast.tw17751198146042933647 : True := trivial
theorem PySem.W.Fast.tw17848845562323296696 : True := trivial
theorem PySem.W.Fast.tw18262845587850150490 : True := trivial
theorem PySem.W.Fast.tw18414828743285844202 : True := trivial
theorem PySem.W.Fast.tw1988901620818349072 : True := trivial
theorem PySem.W.Fast.tw2219089466259673855 : True := trivial
theorem PySem.W.Fast.tw2956311683627234283 : True := trivial
theorem PySem.W.Fast.tw2965952002604805535 : True := trivial
theorem PySem.W.Fast.tw3015027779436343520 : True := trivial
theorem PySem.W.Fast.tw3052512667287172202 : True := trivial
theorem PySem.W.Fast.tw3321893099566549723 : True := trivial
theorem PySem.W.Fast.tw3738329713997590674 : True := trivial
theorem PySem.W.Fast.tw3790955495785550373 : True := trivial
theorem PySem.W.Fast.tw4286315274981827188 : True := trivial
theorem PySem.W.Fast.tw4430548451042531471 : True := trivial
theorem PySem.W.Fast.tw4476478292121601417 : True := trivial
theorem PySem.W.Fast.tw4478363572747531734 : True := trivial
theorem PySem.W.Fast.tw4594572811973849339 : True := trivial
theorem PySem.W.Fast.tw4616880614348198380 : True := trivial
theorem PySem.W.Fast.tw4964796643676020866 : True := trivial
theorem PySem.W.Fast.tw5141035165821228159 : True := trivial
theorem PySem.W.Fast.tw5501382409237575860 : True := trivial
theorem PySem.W.Fast.tw5510702777471578615 : True := trivial
theorem PySem.W.Fast.tw5597468290257690032 : True := trivial
theorem PySem.W.Fast.tw5846001995751401203 : True := trivial
theorem PySem.W.Fast.tw607318020083636451 : True := trivial
theorem PySem.W.Fast.tw6236183192098100840 : True := trivial
theorem PySem.W.Fast.tw6359677829821712815 : True := trivial
theorem PySem.W.Fast.tw6680387348017310991 : True := trivial
theorem PySem.W.Fast.tw6962118017380040683 : True := trivial
theorem PySem.W.Fast.tw7047004089789361900 : True := trivial
theorem PySem.W.Fast.tw7266964791505949984 : True := trivial
theorem PySem.W.Fast.tw7422508743161081625 : True := trivial
theorem PySem.W.Fast.tw7482475406499194491 : True := trivial
theorem PySem.W.Fast.tw7524874002499696111 : True := trivial
theorem PySem.W.Fast.tw7653005593458486437 : True := trivial
theorem PySem.W.Fast.tw7658514071574222399 : True := trivial
theorem PySem.W.Fast.tw7678072693270565199 : True := trivial
theorem PySem.W.Fast.tw7713457432192465365 : True := trivial
theorem PySem.W.Fast.tw7733933145943826069 : True := trivial
theorem PySem.W.Fast.tw7749547592540948880 : True := trivial
theorem PySem.W.Fast.tw8069088793736751763 : True := trivial
theorem PySem.W.Fast.tw8319852123257748628 : True := trivial
theorem PySem.W.Fast.tw8560023830792995861 : True := trivial
theorem PySem.W.Fast.tw8597741458140772845 : True := trivial
theorem PySem.W.Fast.tw8994436037421511191 : True := trivial
theorem PySem.W.Fast.tw9152974301643293742 : True := trivial
theorem PySem.W.Fast.tw9230776277756513337 : True := trivial
theorem PySem.W.Fast.tw9410097733000295411 : True := trivial
theorem PySem.W.Fast.tw9532656122134025408 : True := trivial
theorem PySem.W.Fast.tw9613643358347075738 : True := trivial
theorem PySem.W.Fast.tw966617442805377147 : True := trivial
theorem PySem.W.Fast.tw9736932496598861396 : True := trivial
theorem PySem.W.Fast.tw9833399946920036604 : True := trivial
theorem PySem.W.Fast.tw9939390529493038385 : True := trivial
set_option maxRecDepth 100000 in
set_option maxHeartbeats 0 in
theorem PySem.Challenge.cw_oneroom_k91_whole_judge_is_exact_holds : PySem.Challenge.rw_oneroom_k91_whole_judge_is_exact.Holds := by
  w_on; o_law; k_head; (case hw => w_witness2)
  k_fill
  refine L2.walk_ofC (l := PySem.Challenge.rw_oneroom_k91_whole_judge_is_exact) (n := 63) (k := 9) (x := "_law_script") (CX := L2.CX0) (sp := K91.sp_law) (tabs := [(K91.c_do_piece, K91.P_do_piece, K91.qs_do_piece), (K91.c_Store_write, K91.P_Store_write, K91.qs_Store_write), (K91.c_Store_note_down, K91.P_Store_note_down, K91.qs_Store_note_down)]) rfl (by decide) rfl ⟨rfl, by decide, by decide⟩ (fun w h Y => PySem.W.km_in_of Y) (fun w h Y KX => (List.forall_mem_cons.mpr ⟨⟨PySem.W.codeHd_of_K (c := K91.c_do_piece) (P := K91.P_do_piece) KX (by kernel_rfl), PySem.W.km_tabs_of Y _ (by decide)⟩, (List.forall_mem_cons.mpr ⟨⟨PySem.W.codeHd_of_K (c := K91.c_Store_write) (P := K91.P_Store_write) KX (by kernel_rfl), PySem.W.km_tabs_of Y _ (by decide)⟩, (List.forall_mem_cons.mpr ⟨⟨PySem.W.codeHd_of_K (c := K91.c_Store_note_down) (P := K91.P_Store_note_down) KX (by kernel_rfl), PySem.W.km_tabs_of Y _ (by decide)⟩, (fun _ z => nomatch z)⟩)⟩)⟩)) (fun w => by kernel_rfl) (by decide) ?F ?S ?C
  case F =>
    intro w mg fa h KX G hmg
    refine' K91.txt_mk KX G hmg ?aC_Row ?aC_Take ?aC_Put ?aC_Pen ?aC_Store ?a_Row_init ?l_Row_init ?c_Row_init ?k_Row_init ?a_Row_covers ?l_Row_covers ?c_Row_covers ?k_Row_covers ?a_Row_covered ?l_Row_covered ?c_Row_covered ?k_Row_covered ?a_Take_init ?l_Take_init ?c_Take_init ?k_Take_init ?a_Take_stays ?l_Take_stays ?c_Take_stays ?k_Take_stays ?a_Take_reads ?l_Take_reads ?c_Take_reads ?k_Take_reads ?a_Take_writes ?l_Take_writes ?c_Take_writes ?k_Take_writes ?a_Take_pieces ?l_Take_pieces ?c_Take_pieces ?k_Take_pieces ?a_Take_source_for ?l_Take_source_for ?c_Take_source_for ?k_Take_source_for ?a_Take_sign_for ?l_Take_sign_for ?c_Take_sign_for ?k_Take_sign_for ?a_Take_told ?l_Take_told ?c_Take_told ?k_Take_told ?a_Put_init ?l_Put_init ?c_Put_init ?k_Put_init ?a_Put_reads ?l_Put_reads ?c_Put_reads ?k_Put_reads ?a_Put_writes ?l_Put_writes ?c_Put_writes ?k_Put_writes ?a_Put_pieces ?l_Put_pieces ?c_Put_pieces ?k_Put_pieces ?a_Put_sign_for ?l_Put_sign_for ?c_Put_sign_for ?k_Put_sign_for ?a_Put_told ?l_Put_told ?c_Put_told ?k_Put_told ?a_row_of ?l_row_of ?c_row_of ?k_row_of ?a_tells_take ?l_tells_take ?c_tells_take ?k_tells_take ?a_tells_put ?l_tells_put ?c_tells_put ?k_tells_put ?a_are_signs ?l_are_signs ?c_are_signs ?k_are_signs ?a_is_sign ?l_is_sign ?c_is_sign ?k_is_sign ?a_is_whole_from ?l_is_whole_from ?c_is_whole_from ?k_is_whole_from ?a_is_whole ?l_is_whole ?c_is_whole ?k_is_whole ?a_judge ?l_judge ?c_judge ?k_judge ?a_fits_in_size ?l_fits_in_size ?c_fits_in_size ?k_fits_in_size ?a_is_length ?l_is_length ?c_is_length ?k_is_length ?a_first_wrong_row ?l_first_wrong_row ?c_first_wrong_row ?k_first_wrong_row ?a_is_fitting_row ?l_is_fitting_row ?c_is_fitting_row ?k_is_fitting_row ?a_covered_twice ?l_covered_twice ?c_covered_twice ?k_covered_twice ?a_lacking ?l_lacking ?c_lacking ?k_lacking ?a_read_late ?l_read_late ?c_read_late ?k_read_late ?a_pieces_of ?l_pieces_of ?c_pieces_of ?k_pieces_of ?a_go_on ?l_go_on ?c_go_on ?k_go_on ?a_refuse_lengths ?l_refuse_lengths ?c_refuse_lengths ?k_refuse_lengths ?a_refuse_beyond ?l_refuse_beyond ?c_refuse_beyond ?k_refuse_beyond ?a_places_needed ?l_places_needed ?c_places_needed ?k_places_needed ?a_do_piece ?tk_do_piece ?l_do_piece ?c_do_piece ?k_do_piece ?a_Pen_init ?l_Pen_init ?c_Pen_init ?k_Pen_init ?a_Pen_write_into ?l_Pen_write_into ?c_Pen_write_into ?k_Pen_write_into ?a_Pen_answer_of_fall ?l_Pen_answer_of_fall ?c_Pen_answer_of_fall ?k_Pen_answer_of_fall ?a_Store_init ?l_Store_init ?ld_Store_init ?c_Store_init ?k_Store_init ?a_Store_read ?l_Store_read ?c_Store_read ?k_Store_read ?a_Store_write ?tk_Store_write ?l_Store_write ?c_Store_write ?k_Store_write ?a_Store_mark ?l_Store_mark ?c_Store_mark ?k_Store_mark ?a_Store_noted ?l_Store_noted ?c_Store_noted ?k_Store_noted ?a_Store_told ?l_Store_told ?c_Store_told ?k_Store_told ?a_Store_refuse_lacking ?l_Store_refuse_lacking ?c_Store_refuse_lacking ?k_Store_refuse_lacking ?a_Store_note_down ?tk_Store_note_down ?l_Store_note_down ?c_Store_note_down ?k_Store_note_down ?a_cell_at ?l_cell_at ?c_cell_at ?k_cell_at ?a_mixed ?l_mixed ?c_mixed ?k_mixed ?a_cuts ?l_cuts ?c_cuts ?k_cuts ?a_tiles ?l_tiles ?c_tiles ?k_tiles ?a_ordered ?l_ordered ?c_ordered ?k_ordered ?a_paper ?l_paper ?c_paper ?k_paper ?a_meant ?l_meant ?c_meant ?k_meant ?a_covers ?l_covers ?c_covers ?k_covers ?a_first ?l_first ?c_first ?k_first ?a_law ?l_law ?c_law ?k_law ?pg_Row ?hd_Row ?po_Row ?sa_Row ?na_Row_count ?na_Row_to ?pg_Take ?hd_Take ?po_Take ?sa_Take ?na_Take_count ?na_Take_source ?na_Take_to ?mk_Take ?in_Take ?fn_Take ?kp_Take ?pg_Put ?hd_Put ?po_Put ?sa_Put ?na_Put_count ?na_Put_signs ?na_Put_to ?mk_Put ?in_Put ?fn_Put ?kp_Put ?pg_Pen ?hd_Pen ?po_Pen ?sa_Pen ?na_Pen_asked ?na_Pen_fall ?mk_Pen ?in_Pen ?fn_Pen ?kp_Pen ?pg_Store ?hd_Store ?po_Store ?sa_Store ?na_Store_cells ?na_Store_notes ?na_Store_pen ?mk_Store ?in_Store ?fn_Store ?kp_Store ?ma_Pen_answer_of_fall ?mf_Pen_answer_of_fall ?mp_Pen_answer_of_fall ?ma_Pen_write_into ?mf_Pen_write_into ?mp_Pen_write_into ?ma_Put_covered ?mf_Put_covered ?mp_Put_covered ?ma_Put_covers ?mf_Put_covers ?mp_Put_covers ?ma_Put_pieces ?mf_Put_pieces ?mp_Put_pieces ?ma_Put_reads ?mf_Put_reads ?mp_Put_reads ?ma_Put_sign_for ?mf_Put_sign_for ?mp_Put_sign_for ?ma_Put_writes ?mf_Put_writes ?mp_Put_writes ?ma_Store_mark ?mf_Store_mark ?mp_Store_mark ?ma_Store_note_down ?mf_Store_note_down ?mp_Store_note_down ?ma_Store_noted ?mf_Store_noted ?mp_Store_noted ?ma_Store_read ?mf_Store_read ?mp_Store_read ?ma_Store_refuse_lacking ?mf_Store_refuse_lacking ?mp_Store_refuse_lacking ?ma_Store_told ?mf_Store_told ?mp_Store_told ?ma_Store_write ?mf_Store_write ?mp_Store_write ?ma_Take_covered ?mf_Take_covered ?mp_Take_covered ?ma_Take_covers ?mf_Take_covers ?mp_Take_covers ?ma_Take_pieces ?mf_Take_pieces ?mp_Take_pieces ?ma_Take_reads ?mf_Take_reads ?mp_Take_reads ?ma_Take_sign_for ?mf_Take_sign_for ?mp_Take_sign_for ?ma_Take_source_for ?mf_Take_source_for ?mp_Take_source_for ?ma_Take_stays ?mf_Take_stays ?mp_Take_stays ?ma_Take_writes ?mf_Take_writes ?mp_Take_writes ?bs_Row_init ?br_Row_init ?bf_Row_init ?bk_Row_init ?ia_Put ?ib_Put ?it_Put ?im_Put ?ia_Take ?ib_Take ?it_Take ?im_Take ?ik_Put_Take ?ik_Take_Take ?aG_MOST ?n_abs ?n_all ?n_bool ?n_enumerate ?n_int ?n_isinstance ?n_len ?n_list ?n_max ?n_min ?n_range ?n_sorted ?n_tuple
    (case aC_Row => k_is)
    (case aC_Take => k_is)
    (case aC_Put => k_is)
    (case aC_Pen => k_is)
    (case aC_Store => k_is)
    (case a_Row_init => k_is)
    (case l_Row_init => k_is)
    (case c_Row_init => k_is)
    (case k_Row_init => k_is)
    (case a_Row_covers => k_is)
    (case l_Row_covers => k_is)
    (case c_Row_covers => k_is)
    (case k_Row_covers => k_is)
    (case a_Row_covered => k_is)
    (case l_Row_covered => k_is)
    (case c_Row_covered => k_is)
    (case k_Row_covered => k_is)
    (case a_Take_init => k_is)
    (case l_Take_init => k_is)
    (case c_Take_init => k_is)
    (case k_Take_init => k_is)
    (case a_Take_stays => k_is)
    (case l_Take_stays => k_is)
    (case c_Take_stays => k_is)
    (case k_Take_stays => k_is)
    (case a_Take_reads => k_is)
    (case l_Take_reads => k_is)
    (case c_Take_reads => k_is)
    (case k_Take_reads => k_is)
    (case a_Take_writes => k_is)
    (case l_Take_writes => k_is)
    (case c_Take_writes => k_is)
    (case k_Take_writes => k_is)
    (case a_Take_pieces => k_is)
    (case l_Take_pieces => k_is)
    (case c_Take_pieces => k_is)
    (case k_Take_pieces => k_is)
    (case a_Take_source_for => k_is)
    (case l_Take_source_for => k_is)
    (case c_Take_source_for => k_is)
    (case k_Take_source_for => k_is)
    (case a_Take_sign_for => k_is)
    (case l_Take_sign_for => k_is)
    (case c_Take_sign_for => k_is)
    (case k_Take_sign_for => k_is)
    (case a_Take_told => k_is)
    (case l_Take_told => k_is)
    (case c_Take_told => k_is)
    (case k_Take_told => k_is)
    (case a_Put_init => k_is)
    (case l_Put_init => k_is)
    (case c_Put_init => k_is)
    (case k_Put_init => k_is)
    (case a_Put_reads => k_is)
    (case l_Put_reads => k_is)
    (case c_Put_reads => k_is)
    (case k_Put_reads => k_is)
    (case a_Put_writes => k_is)
    (case l_Put_writes => k_is)
    (case c_Put_writes => k_is)
    (case k_Put_writes => k_is)
    (case a_Put_pieces => k_is)
    (case l_Put_pieces => k_is)
    (case c_Put_pieces => k_is)
    (case k_Put_pieces => k_is)
    (case a_Put_sign_for => k_is)
    (case l_Put_sign_for => k_is)
    (case c_Put_sign_for => k_is)
    (case k_Put_sign_for => k_is)
    (case a_Put_told => k_is)
    (case l_Put_told => k_is)
    (case c_Put_told => k_is)
    (case k_Put_told => k_is)
    (case a_row_of => k_is)
    (case l_row_of => k_is)
    (case c_row_of => k_is)
    (case k_row_of => k_is)
    (case a_tells_take => k_is)
    (case l_tells_take => k_is)
    (case c_tells_take => k_is)
    (case k_tells_take => k_is)
    (case a_tells_put => k_is)
    (case l_tells_put => k_is)
    (case c_tells_put => k_is)
    (case k_tells_put => k_is)
    (case a_are_signs => k_is)
    (case l_are_signs => k_is)
    (case c_are_signs => k_is)
    (case k_are_signs => k_is)
    (case a_is_sign => k_is)
    (case l_is_sign => k_is)
    (case c_is_sign => k_is)
    (case k_is_sign => k_is)
    (case a_is_whole_from => k_is)
    (case l_is_whole_from => k_is)
    (case c_is_whole_from => k_is)
    (case k_is_whole_from => k_is)
    (case a_is_whole => k_is)
    (case l_is_whole => k_is)
    (case c_is_whole => k_is)
    (case k_is_whole => k_is)
    (case a_judge => k_is)
    (case l_judge => k_is)
    (case c_judge => k_is)
    (case k_judge => k_is)
    (case a_fits_in_size => k_is)
    (case l_fits_in_size => k_is)
    (case c_fits_in_size => k_is)
    (case k_fits_in_size => k_is)
    (case a_is_length => k_is)
    (case l_is_length => k_is)
    (case c_is_length => k_is)
    (case k_is_length => k_is)
    (case a_first_wrong_row => k_is)
    (case l_first_wrong_row => k_is)
    (case c_first_wrong_row => k_is)
    (case k_first_wrong_row => k_is)
    (case a_is_fitting_row => k_is)
    (case l_is_fitting_row => k_is)
    (case c_is_fitting_row => k_is)
    (case k_is_fitting_row => k_is)
    (case a_covered_twice => k_is)
    (case l_covered_twice => k_is)
    (case c_covered_twice => k_is)
    (case k_covered_twice => k_is)
    (case a_lacking => k_is)
    (case l_lacking => k_is)
    (case c_lacking => k_is)
    (case k_lacking => k_is)
    (case a_read_late => k_is)
    (case l_read_late => k_is)
    (case c_read_late => k_is)
    (case k_read_late => k_is)
    (case a_pieces_of => k_is)
    (case l_pieces_of => k_is)
    (case c_pieces_of => k_is)
    (case k_pieces_of => k_is)
    (case a_go_on => k_is)
    (case l_go_on => k_is)
    (case c_go_on => k_is)
    (case k_go_on => k_is)
    (case a_refuse_lengths => k_is)
    (case l_refuse_lengths => k_is)
    (case c_refuse_lengths => k_is)
    (case k_refuse_lengths => k_is)
    (case a_refuse_beyond => k_is)
    (case l_refuse_beyond => k_is)
    (case c_refuse_beyond => k_is)
    (case k_refuse_beyond => k_is)
    (case a_places_needed => k_is)
    (case l_places_needed => k_is)
    (case c_places_needed => k_is)
    (case k_places_needed => k_is)
    (case a_do_piece => k_is)
    (case tk_do_piece => exact L2.tabK_of (by kernel_rfl))
    (case l_do_piece => k_is)
    (case c_do_piece => k_is)
    (case k_do_piece => k_is)
    (case a_Pen_init => k_is)
    (case l_Pen_init => k_is)
    (case c_Pen_init => k_is)
    (case k_Pen_init => k_is)
    (case a_Pen_write_into => k_is)
    (case l_Pen_write_into => k_is)
    (case c_Pen_write_into => k_is)
    (case k_Pen_write_into => k_is)
    (case a_Pen_answer_of_fall => k_is)
    (case l_Pen_answer_of_fall => k_is)
    (case c_Pen_answer_of_fall => k_is)
    (case k_Pen_answer_of_fall => k_is)
    (case a_Store_init => k_is)
    (case l_Store_init => k_is)
    (case ld_Store_init => k_is)
    (case c_Store_init => k_is)
    (case k_Store_init => k_is)
    (case a_Store_read => k_is)
    (case l_Store_read => k_is)
    (case c_Store_read => k_is)
    (case k_Store_read => k_is)
    (case a_Store_write => k_is)
    (case tk_Store_write => exact L2.tabK_of (by kernel_rfl))
    (case l_Store_write => k_is)
    (case c_Store_write => k_is)
    (case k_Store_write => k_is)
    (case a_Store_mark => k_is)
    (case l_Store_mark => k_is)
    (case c_Store_mark => k_is)
    (case k_Store_mark => k_is)
    (case a_Store_noted => k_is)
    (case l_Store_noted => k_is)
    (case c_Store_noted => k_is)
    (case k_Store_noted => k_is)
    (case a_Store_told => k_is)
    (case l_Store_told => k_is)
    (case c_Store_told => k_is)
    (case k_Store_told => k_is)
    (case a_Store_refuse_lacking => k_is)
    (case l_Store_refuse_lacking => k_is)
    (case c_Store_refuse_lacking => k_is)
    (case k_Store_refuse_lacking => k_is)
    (case a_Store_note_down => k_is)
    (case tk_Store_note_down => exact L2.tabK_of (by kernel_rfl))
    (case l_Store_note_down => k_is)
    (case c_Store_note_down => k_is)
    (case k_Store_note_down => k_is)
    (case a_cell_at => k_is)
    (case l_cell_at => k_is)
    (case c_cell_at => k_is)
    (case k_cell_at => k_is)
    (case a_mixed => k_is)
    (case l_mixed => k_is)
    (case c_mixed => k_is)
    (case k_mixed => k_is)
    (case a_cuts => k_is)
    (case l_cuts => k_is)
    (case c_cuts => k_is)
    (case k_cuts => k_is)
    (case a_tiles => k_is)
    (case l_tiles => k_is)
    (case c_tiles => k_is)
    (case k_tiles => k_is)
    (case a_ordered => k_is)
    (case l_ordered => k_is)
    (case c_ordered => k_is)
    (case k_ordered => k_is)
    (case a_paper => k_is)
    (case l_paper => k_is)
    (case c_paper => k_is)
    (case k_paper => k_is)
    (case a_meant => k_is)
    (case l_meant => k_is)
    (case c_meant => k_is)
    (case k_meant => k_is)
    (case a_covers => k_is)
    (case l_covers => k_is)
    (case c_covers => k_is)
    (case k_covers => k_is)
    (case a_first => k_is)
    (case l_first => k_is)
    (case c_first => k_is)
    (case k_first => k_is)
    (case a_law => k_is)
    (case l_law => k_is)
    (case c_law => k_is)
    (case k_law => k_is)
    (case pg_Row => k_is)
    (case hd_Row => k_is)
    (case po_Row => k_is)
    (case sa_Row => k_is)
    (case na_Row_count => k_is)
    (case na_Row_to => k_is)
    (case pg_Take => k_is)
    (case hd_Take => k_is)
    (case po_Take => k_is)
    (case sa_Take => k_is)
    (case na_Take_count => k_is)
    (case na_Take_source => k_is)
    (case na_Take_to => k_is)
    (case mk_Take => k_is)
    (case in_Take => k_is)
    (case fn_Take => k_is)
    (case kp_Take => k_is)
    (case pg_Put => k_is)
    (case hd_Put => k_is)
    (case po_Put => k_is)
    (case sa_Put => k_is)
    (case na_Put_count => k_is)
    (case na_Put_signs => k_is)
    (case na_Put_to => k_is)
    (case mk_Put => k_is)
    (case in_Put => k_is)
    (case fn_Put => k_is)
    (case kp_Put => k_is)
    (case pg_Pen => k_is)
    (case hd_Pen => k_is)
    (case po_Pen => k_is)
    (case sa_Pen => k_is)
    (case na_Pen_asked => k_is)
    (case na_Pen_fall => k_is)
    (case mk_Pen => k_is)
    (case in_Pen => k_is)
    (case fn_Pen => k_is)
    (case kp_Pen => k_is)
    (case pg_Store => k_is)
    (case hd_Store => k_is)
    (case po_Store => k_is)
    (case sa_Store => k_is)
    (case na_Store_cells => k_is)
    (case na_Store_notes => k_is)
    (case na_Store_pen => k_is)
    (case mk_Store => k_is)
    (case in_Store => k_is)
    (case fn_Store => k_is)
    (case kp_Store => k_is)
    (case ma_Pen_answer_of_fall => k_is)
    (case mf_Pen_answer_of_fall => k_is)
    (case mp_Pen_answer_of_fall => k_is)
    (case ma_Pen_write_into => k_is)
    (case mf_Pen_write_into => k_is)
    (case mp_Pen_write_into => k_is)
    (case ma_Put_covered => k_is)
    (case mf_Put_covered => k_is)
    (case mp_Put_covered => k_is)
    (case ma_Put_covers => k_is)
    (case mf_Put_covers => k_is)
    (case mp_Put_covers => k_is)
    (case ma_Put_pieces => k_is)
    (case mf_Put_pieces => k_is)
    (case mp_Put_pieces => k_is)
    (case ma_Put_reads => k_is)
    (case mf_Put_reads => k_is)
    (case mp_Put_reads => k_is)
    (case ma_Put_sign_for => k_is)
    (case mf_Put_sign_for => k_is)
    (case mp_Put_sign_for => k_is)
    (case ma_Put_writes => k_is)
    (case mf_Put_writes => k_is)
    (case mp_Put_writes => k_is)
    (case ma_Store_mark => k_is)
    (case mf_Store_mark => k_is)
    (case mp_Store_mark => k_is)
    (case ma_Store_note_down => k_is)
    (case mf_Store_note_down => k_is)
    (case mp_Store_note_down => k_is)
    (case ma_Store_noted => k_is)
    (case mf_Store_noted => k_is)
    (case mp_Store_noted => k_is)
    (case ma_Store_read => k_is)
    (case mf_Store_read => k_is)
    (case mp_Store_read => k_is)
    (case ma_Store_refuse_lacking => k_is)
    (case mf_Store_refuse_lacking => k_is)
    (case mp_Store_refuse_lacking => k_is)
    (case ma_Store_told => k_is)
    (case mf_Store_told => k_is)
    (case mp_Store_told => k_is)
    (case ma_Store_write => k_is)
    (case mf_Store_write => k_is)
    (case mp_Store_write => k_is)
    (case ma_Take_covered => k_is)
    (case mf_Take_covered => k_is)
    (case mp_Take_covered => k_is)
    (case ma_Take_covers => k_is)
    (case mf_Take_covers => k_is)
    (case mp_Take_covers => k_is)
    (case ma_Take_pieces => k_is)
    (case mf_Take_pieces => k_is)
    (case mp_Take_pieces => k_is)
    (case ma_Take_reads => k_is)
    (case mf_Take_reads => k_is)
    (case mp_Take_reads => k_is)
    (case ma_Take_sign_for => k_is)
    (case mf_Take_sign_for => k_is)
    (case mp_Take_sign_for => k_is)
    (case ma_Take_source_for => k_is)
    (case mf_Take_source_for => k_is)
    (case mp_Take_source_for => k_is)
    (case ma_Take_stays => k_is)
    (case mf_Take_stays => k_is)
    (case mp_Take_stays => k_is)
    (case ma_Take_writes => k_is)
    (case mf_Take_writes => k_is)
    (case mp_Take_writes => k_is)
    (case bs_Row_init => k_is)
    (case br_Row_init => k_is)
    (case bf_Row_init => k_is)
    (case bk_Row_init => k_is)
    (case ia_Put => k_is)
    (case ib_Put => k_is)
    (case it_Put => k_is)
    (case im_Put => k_is)
    (case ia_Take => k_is)
    (case ib_Take => k_is)
    (case it_Take => k_is)
    (case im_Take => k_is)
    (case ik_Put_Take => kernel_rfl)
    (case ik_Take_Take => kernel_rfl)
    (case aG_MOST => k_is)
    (case n_abs => k_is)
    (case n_all => k_is)
    (case n_bool => k_is)
    (case n_enumerate => k_is)
    (case n_int => k_is)
    (case n_isinstance => k_is)
    (case n_len => k_is)
    (case n_list => k_is)
    (case n_max => k_is)
    (case n_min => k_is)
    (case n_range => k_is)
    (case n_sorted => k_is)
    (case n_tuple => k_is)
  case S => exact fun K H a ns hl hS hT => ⟨a, ns, rfl, hS, hl, hT _ (.head _), hT _ (.tail _ (.head _)), hT _ (.tail _ (.tail _ (.head _))), fun _ => rfl⟩
  case C => exact fun _ _ _ _ z => z
#print axioms PySem.Challenge.cw_oneroom_k91_whole_judge_is_exact_holds
