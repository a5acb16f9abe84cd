import PyProof.Rows.All
import Wide.All
import OpenK.AllK
import Wide.FinOn
import Lean
import PyProof.EqAt
import PyProof.EqKinds
import PyProof.TupleCall
import KE.KSortTup
import PySem.Challenge.RW_oneslate_k64_a_tenant_believes
set_option Elab.async false
set_option linter.all false
set_option maxRecDepth 100000
set_option bootstrap.genMatcherCode false
/-! THE HAND LAYER, for ints, bools, texts, own classes, LISTS and tuples (index, slices, in, append, pop ..), calls, loops. Paste it whole ahead of your own text; what your proof does not reach may be deleted. -/
namespace L2
open PySem PySem.Spec PyProof.Rows

/-- a key: an int or a str -/
noncomputable abbrev Key := Sum Int Str
noncomputable def keyIs : Key → Value → Bool
  | .inl k, v => Value.isInt k v
  | .inr x, v => Value.isStrOf x v
noncomputable def keyH (w : World) : Key → Int
  | .inl k => hashInt k
  | .inr x => hashStr w x
theorem keyIs_shape : ∀ {k : Key} {v : Value}, keyIs k v = true → (∃ i t, k = Sum.inl i ∧ v = Value.int i t) ∨ (∃ x t, k = Sum.inr x ∧ v = Value.str x t)
  | .inl i, v, h => by
    obtain ⟨t, e⟩ := Value.isInt_shape (k := i) (v := v) h
    exact .inl ⟨i, t, rfl, e⟩
  | .inr x, v, h => by
    obtain ⟨t, e⟩ := Value.isStrOf_shape (x := x) (v := v) h
    exact .inr ⟨x, t, rfl, e⟩
theorem keyIs_int (i : Int) (t : Tok) : keyIs (.inl i) (.int i t) = true := by simp [keyIs, Value.isInt]
theorem keyIs_str (x : Str) (t : Tok) : keyIs (.inr x) (.str x t) = true := by simp [keyIs, Value.isStrOf]
theorem key_ll (a b : Int) : decide ((Sum.inl a : Key) = Sum.inl b) = (a == b) := by
  by_cases e : a = b
  · subst e; simp
  · have h : ¬ (Sum.inl a : Key) = Sum.inl b := fun q => e (Sum.inl.inj q)
    rw [decide_eq_false h]
    exact (beq_eq_false_iff_ne.mpr e).symm
theorem key_rr (a b : Str) : decide ((Sum.inr a : Key) = Sum.inr b) = decide (a = b) := by
  by_cases e : a = b
  · subst e; simp
  · have h : ¬ (Sum.inr a : Key) = Sum.inr b := fun q => e (Sum.inr.inj q)
    rw [decide_eq_false h, decide_eq_false e]
theorem key_lr (a : Int) (b : Str) : decide ((Sum.inl a : Key) = Sum.inr b) = false := decide_eq_false (fun q => nomatch q)
theorem key_rl (a : Str) (b : Int) : decide ((Sum.inr a : Key) = Sum.inl b) = false := decide_eq_false (fun q => nomatch q)

noncomputable def mixKind (prog : Program) (w : World) : PySem.KeyKind prog w Key where
  is := keyIs
  hash := keyH w
  inj := fun v a b ha hb => by
    rcases keyIs_shape ha with ⟨i, t, rfl, rfl⟩ | ⟨x, t, rfl, rfl⟩
    · rcases keyIs_shape hb with ⟨j, u, rfl, e⟩ | ⟨y, u, rfl, e⟩
      · injection e with e1 _; rw [e1]
      · exact nomatch e
    · rcases keyIs_shape hb with ⟨j, u, rfl, e⟩ | ⟨y, u, rfl, e⟩
      · exact nomatch e
      · injection e with e1 _; rw [e1]
  byValue := fun k v h => by
    rcases keyIs_shape h with ⟨i, t, rfl, rfl⟩ | ⟨x, t, rfl, rfl⟩ <;> rfl
  pyHash := fun hv h => by
    rcases keyIs_shape hv with ⟨i, t, rfl, rfl⟩ | ⟨x, t, rfl, rfl⟩
    · exact wpAny_pyHash_int h
    · exact wpAny_pyHash_str h
  eqBool := fun hu hv h => by
    rcases keyIs_shape hu with ⟨i, t, rfl, rfl⟩ | ⟨x, t, rfl, rfl⟩
    · rcases keyIs_shape hv with ⟨j, u, rfl, rfl⟩ | ⟨y, u, rfl, rfl⟩
      · rw [key_ll] at h; exact wpAny_eqBool_int h
      · rw [key_lr] at h; exact SeqAt.EqAt.int_str i t y u _ _ _ _ h
    · rcases keyIs_shape hv with ⟨j, u, rfl, rfl⟩ | ⟨y, u, rfl, rfl⟩
      · rw [key_rl] at h; exact SeqAt.EqAt.str_int x t j u _ _ _ _ h
      · rw [key_rr] at h; exact wpAny_eqBool_str h
  «strs» := fun k x t v h => by
    rcases keyIs_shape h with ⟨i, u, rfl, e⟩ | ⟨y, u, rfl, e⟩
    · exact nomatch e
    · injection e with e1 _
      subst e1
      cases v <;> rfl

theorem mixKind_int (prog : Program) (w : World) (i : Int) (t : Tok) : (mixKind prog w).is (.inl i) (.int i t) = true := keyIs_int i t
theorem mixKind_str (prog : Program) (w : World) (x : Str) (t : Tok) : (mixKind prog w).is (.inr x) (.str x t) = true := keyIs_str x t
end L2

namespace L2
open PySem PySem.Spec PyProof.Rows

/-- a value, without the heap -/
inductive V where
  | non | bl (b : Bool) | int (i : Int) | str (x : Str) | byt (b : Array UInt8) | flt (b : UInt64) | ref (a : Addr) | ty (n : String)
  deriving DecidableEq

noncomputable def RelV : V → Value → Prop
  | .non, u => u = Value.none
  | .bl b, u => u = Value.bool b
  | .int i, u => ∃ t, u = Value.int i t
  | .str x, u => ∃ t, u = Value.str x t
  | .byt b, u => ∃ t, u = Value.bytes b t
  | .flt b, u => ∃ t, u = Value.float b t
  | .ref a, u => u = Value.ref a
  | .ty n, u => u = Value.type n

noncomputable abbrev Vals : List V → List Value → Prop := Paired RelV
theorem Vals.length {xs : List V} {us : List Value} (r : Vals xs us) : xs.length = us.length := Paired.length r
theorem Vals.get : ∀ {xs : List V} {us : List Value} {i : Nat} {x : V}, Vals xs us → xs[i]? = some x → ∃ u, us[i]? = some u ∧ RelV x u
  | _, _, _, _, .nil, e => by simp at e
  | _, _, 0, _, .cons r _, e => by simp at e; subst e; exact ⟨_, rfl, r⟩
  | _, _, i + 1, x, .cons _ t, e => by
    obtain ⟨u, h1, h2⟩ := Vals.get (i := i) (x := x) t (by simpa using e)
    exact ⟨u, by simpa using h1, h2⟩
theorem Vals.set {x : V} {u : Value} (r : RelV x u) : ∀ {xs : List V} {us : List Value} (i : Nat), Vals xs us → Vals (xs.set i x) (us.set i u)
  | _, _, _, .nil => .nil
  | _, _, 0, .cons _ t => .cons r t
  | _, _, i + 1, .cons q t => .cons q (Vals.set r i t)
theorem Vals.append : ∀ {xs ys : List V} {us ws : List Value}, Vals xs us → Vals ys ws → Vals (xs ++ ys) (us ++ ws)
  | _, _, _, _, .nil, s => s
  | _, _, _, _, .cons r t, s => .cons r (Vals.append t s)
theorem Vals.take : ∀ {xs : List V} {us : List Value} (n : Nat), Vals xs us → Vals (xs.take n) (us.take n)
  | _, _, 0, _ => .nil
  | _, _, _ + 1, .nil => .nil
  | _, _, n + 1, .cons r t => .cons r (Vals.take n t)
theorem Vals.drop : ∀ {xs : List V} {us : List Value} (n : Nat), Vals xs us → Vals (xs.drop n) (us.drop n)
  | _, _, 0, r => r
  | _, _, _ + 1, .nil => .nil
  | _, _, n + 1, .cons _ t => Vals.drop n t

noncomputable def RelO : Option V → Option Value → Prop
  | some v, some u => RelV v u
  | none, none => True
  | _, _ => False
noncomputable def KV {κ : Type} : List (κ × V) → List (κ × Value) → Prop := Paired fun (p : κ × V) (q : κ × Value) => p.1 = q.1 ∧ RelV p.2 q.2

/-- a key of a dict (00_mix): an int or a text -/
noncomputable def kV : Key → V
  | .inl i => .int i
  | .inr x => .str x

/-- what stands at a tracked address -/
inductive HO where
  /-- a list -/
  | lst (xs : List V)
  /-- a tuple (never changes) -/
  | tup (xs : List V)
  /-- a dict whose keys are ints and texts; one whose keys are tuples of ints and texts (the empty one is both) -/
  | dK (kvs : List (Key × V)) | dT (kvs : List (List Key × V))
  /-- a set of ints: its members, its size -/
  | set (S : Int → Bool) (n : Nat)
  /-- an instance of the class at C, its dict at dx, its attributes -/
  | ins (C dx : Addr) (fs : List (Str × V))
  /-- the dict of the instance at x -/
  | own (x : Addr)
  /-- the dict of an exception -/
  | xd (fs : List (Str × V))
  /-- a bound method, f of x -/
  | met (f x : Addr)
  /-- a range object lo, lo + 1, .. below hi -/
  | rng (lo hi : Int)
  /-- a thing that is known to the object (the script; a dict while a loop walks it): read, never written while it is so -/
  | frz (o : Obj) (u : HO)
  /-- a code object's table -/
  | tbl (ps : Array Value)
  /-- any other thing, by what is true of its one object (a def of one's own: SetO a S n := HO.ext fun h => ..) -/
  | ext (φ : Heap → Prop)

noncomputable abbrev Hp := Addr → Option HO
noncomputable def upd (H : Hp) (a : Addr) (o : HO) : Hp := fun b => if b = a then some o else H b
theorem upd_same {H : Hp} {a : Addr} {o : HO} : upd H a o a = some o := by unfold upd; rw [if_pos rfl]
theorem upd_ne {H : Hp} {a b : Addr} {o : HO} (h : b ≠ a) : upd H a o b = H b := by unfold upd; rw [if_neg h]
/-- two objects of different content stand apart -/
theorem ne_of {H : Hp} {a b : Addr} {o u : HO} (h : H a = some o) (h' : H b = some u) (d : o ≠ u) : a ≠ b := by
  intro e; subst e; rw [h] at h'; exact d (Option.some.inj h')
theorem ne_of_none {H : Hp} {a b : Addr} {o : HO} (h : H a = some o) (h' : H b = none) : a ≠ b := by
  intro e; subst e; rw [h] at h'; cases h'

section
variable (P : Program) (w : World)
noncomputable def ObjOk (H : Hp) (h : Heap) (a : Addr) : HO → Prop
  | .lst xs => xs.length ≤ sizeLine ∧ ∃ (its : List Value) (n : Nat), Vals xs its ∧ h.get? a = some { cls := .type "list", data := .seq its.toArray n }
  | .tup xs => xs.length ≤ sizeLine ∧ ∃ its : List Value, Vals xs its ∧ IsTup h a its.toArray
  | .dK kvs => kvs.length ≤ sizeLine ∧ (a == sysModules) = false ∧ ∃ vs, KV kvs vs ∧ h.DictOf (mixKind P w) a vs
  | .dT kvs => kvs.length ≤ sizeLine ∧ (a == sysModules) = false ∧ ∃ xs : List (List Key × Addr × Value),
      Paired (fun (p : List Key × V) (q : List Key × Addr × Value) => p.1 = q.1 ∧ H q.2.1 = some (.tup (p.1.map kV)) ∧ RelV p.2 q.2.2) kvs xs ∧
      ∃ o es ep, h.get? a = some o ∧ o.ExactDict ∧ o.data = .dict es ep ∧ es.toList = xs.map (entryOfKey (tupleKind (mixKind P w))) ∧ (xs.map (·.1)).Nodup
  | .set S n => h.SetOf (intKind P w) a S n
  | .ins C dx fs => H dx = some (.own a) ∧ fs.length ≤ 1000 ∧ dx ≠ a ∧ h.get? a = some (PySem.W.instObj C dx) ∧
      ∃ mA, h.Ns1 dx mA ∧ (∀ f, RelO (fs.lookup f) (mA f)) ∧ PySem.Within mA (fs.map (·.1))
  | .own _ => ∃ o, h.get? a = some o
  | .xd fs => ∃ mA, h.Ns1 a mA ∧ ∀ f, RelO (fs.lookup f) (mA f)
  | .rng lo hi => ∃ t u v, h.get? a = some { cls := .type "range", data := .fields #[.int lo t, .int hi u, .int 1 v] }
  | .frz o u => h.get? a = some o ∧ ObjOk H h a u
  | .tbl ps => h.get? a = some { cls := .none, data := .fields ps }
  | .met f x => h.get? a = some (PySem.W.methodObj (.ref f) (.ref x))
  | .ext φ => φ h ∧ (∃ o, h.get? a = some o) ∧ ∀ h1 h2 : Heap, φ h1 → (∀ o, h1.get? a = some o → h2.get? a = some o) → φ h2
/-- the abstract heap is held -/
noncomputable def HOk (H : Hp) (h : Heap) : Prop := ∀ a o, H a = some o → ObjOk P w H h a o
end

section
variable {P : Program} {w : World} {H H' : Hp} {h h' : Heap} {a : Addr} {o : HO}
theorem ObjOk.lt (x : ObjOk P w H h a o) : a < h.objs.size := by
  cases o with
  | lst xs => obtain ⟨_, _, _, _, e⟩ := x; exact Heap.lt_size e
  | tup xs => obtain ⟨_, _, _, p⟩ := x; exact p.lt
  | dK kvs => obtain ⟨_, _, _, _, o, _, _, e, _⟩ := x; exact Heap.lt_size e
  | dT kvs => obtain ⟨_, _, _, _, o, _, _, e, _⟩ := x; exact Heap.lt_size e
  | set S n => obtain ⟨o, _, _, _, e, _⟩ := x; exact Heap.lt_size e
  | ins C dx fs => obtain ⟨_, _, _, e, _⟩ := x; exact Heap.lt_size e
  | own y => obtain ⟨_, e⟩ := x; exact Heap.lt_size e
  | xd fs => obtain ⟨_, ⟨_, _, _, e, _⟩, _⟩ := x; exact Heap.lt_size e
  | rng lo hi => obtain ⟨_, _, _, e⟩ := x; exact Heap.lt_size e
  | frz ob u => obtain ⟨e, _⟩ := x; exact Heap.lt_size e
  | tbl ps => exact Heap.lt_size (show h.get? a = some _ from x)
  | met f y => exact Heap.lt_size (show h.get? a = some _ from x)
  | ext φ => obtain ⟨_, ⟨_, e⟩, _⟩ := x; exact Heap.lt_size e
theorem Paired.mapP {α β : Type} {F G : α → β → Prop} : ∀ {l₁ : List α} {l₂ : List β}, Paired F l₁ l₂ → (∀ a b, F a b → G a b) → Paired G l₁ l₂
  | _, _, .nil, _ => .nil
  | _, _, .cons r t, f => .cons (f _ _ r) (Paired.mapP t f)
/-- what an object's description leans on: its own object, its own dict, the tuples -/
theorem ObjOk.stay (x : ObjOk P w H h a o) (k : ∀ b u, (b = a ∨ H b = some (.own a)) → h.get? b = some u → h'.get? b = some u)
    (ho : ∀ b, H b = some (.own a) → H' b = some (.own a)) (ht : ∀ b xs, H b = some (.tup xs) → H' b = some (.tup xs)) : ObjOk P w H' h' a o := by
  induction o with
  | lst xs => obtain ⟨z, its, n, r, e⟩ := x; exact ⟨z, its, n, r, k _ _ (.inl rfl) e⟩
  | tup xs => obtain ⟨z, its, r, ob, e, c⟩ := x; exact ⟨z, its, r, ob, k _ _ (.inl rfl) e, c⟩
  | dK kvs => obtain ⟨z, y, vs, r, ob, es, ep, e, c⟩ := x; exact ⟨z, y, vs, r, ob, es, ep, k _ _ (.inl rfl) e, c⟩
  | dT kvs =>
    obtain ⟨z, y, xs, r, ob, es, ep, e, c⟩ := x
    exact ⟨z, y, xs, Paired.mapP r fun p q z => ⟨z.1, ht _ _ z.2.1, z.2.2⟩, ob, es, ep, k _ _ (.inl rfl) e, c⟩
  | set S n => obtain ⟨ob, es, ep, t, e, c⟩ := x; exact ⟨ob, es, ep, t, k _ _ (.inl rfl) e, c⟩
  | ins C dx fs =>
    obtain ⟨d, z, ne, e, mA, ⟨od, es, ep, e2, c⟩, r⟩ := x
    exact ⟨ho _ d, z, ne, k _ _ (.inl rfl) e, mA, ⟨od, es, ep, k _ _ (.inr d) e2, c⟩, r⟩
  | own y => obtain ⟨ob, e⟩ := x; exact ⟨ob, k _ _ (.inl rfl) e⟩
  | xd fs => obtain ⟨mA, ⟨od, es, ep, e, c⟩, r⟩ := x; exact ⟨mA, ⟨od, es, ep, k _ _ (.inl rfl) e, c⟩, r⟩
  | rng lo hi => obtain ⟨t, u, v, e⟩ := x; exact ⟨t, u, v, k _ _ (.inl rfl) e⟩
  | frz ob u ih => obtain ⟨e, q⟩ := x; exact ⟨k _ _ (.inl rfl) e, ih q⟩
  | tbl ps =>
    have e : h.get? a = some { cls := .none, data := .fields ps } := x
    show h'.get? a = some { cls := .none, data := .fields ps }
    exact k a _ (.inl rfl) e
  | met f y =>
    have e : h.get? a = some (PySem.W.methodObj (.ref f) (.ref y)) := x
    show h'.get? a = some (PySem.W.methodObj (.ref f) (.ref y))
    exact k a _ (.inl rfl) e
  | ext φ => obtain ⟨p, ⟨o, e⟩, st⟩ := x; exact ⟨st _ _ p fun o q => k _ _ (.inl rfl) q, ⟨o, k _ _ (.inl rfl) e⟩, st⟩
theorem HOk.lt (x : HOk P w H h) (e : H a = some o) : a < h.objs.size := (x a o e).lt
theorem HOk.fresh (x : HOk P w H h) (e : h.objs.size ≤ a) : H a = none := by
  cases q : H a with
  | none => rfl
  | some u => exact absurd (Nat.lt_of_lt_of_le (x.lt q) e) (Nat.lt_irrefl _)
/-- every object of the heap is kept -/
theorem HOk.kept (x : HOk P w H h) (k : ∀ b u, h.get? b = some u → h'.get? b = some u) : HOk P w H h' := fun a o e =>
  (x a o e).stay (fun b u _ q => k b u q) (fun _ q => q) fun _ _ q => q
/-- a new object is laid and tracked -/
theorem HOk.laid (x : HOk P w H h) (k : ∀ b u, h.get? b = some u → h'.get? b = some u) (hp : h.objs.size ≤ a) (new : ObjOk P w (upd H a o) h' a o) : HOk P w (upd H a o) h' := fun b u e => by
  have hn := x.fresh hp
  by_cases hb : b = a
  · subst hb; rw [upd_same] at e; cases e; exact new
  · rw [upd_ne hb] at e
    exact (x b u e).stay (fun c v _ q => k c v q) (fun c q => by rw [upd_ne (ne_of_none q hn)]; exact q) fun c xs q => by rw [upd_ne (ne_of_none q hn)]; exact q
end

/-- what may be read as u: it is u, or a known u -/
noncomputable def Rd (H : Hp) (a : Addr) (u : HO) : Prop := H a = some u ∨ ∃ o, H a = some (.frz o u)
theorem Rd.ok {P : Program} {w : World} {H : Hp} {h : Heap} {a : Addr} {u : HO} (r : Rd H a u) (x : HOk P w H h) : ObjOk P w H h a u := by
  rcases r with r | ⟨o, r⟩
  · exact x a u r
  · obtain ⟨_, q⟩ := x a _ r
    exact q
/-- what may be written -/
noncomputable def Mut : Option HO → Prop
  | some (.lst _) => True
  | some (.dK _) => True
  | some (.dT _) => True
  | some (.set _ _) => True
  | some (.ins _ _ _) => True
  | some (.ext _) => True
  | _ => False
section
variable {P : Program} {w : World} {H : Hp} {h h' : Heap} {x e : Addr} {o' : HO}
/-- the object at e is changed: x itself, or the dict of the instance x -/
theorem HOk.write (ok : HOk P w H h) (mu : Mut (H x)) (he : e = x ∨ H e = some (.own x)) (k : ∀ b u, b ≠ e → h.get? b = some u → h'.get? b = some u) (heo : ∃ u, h'.get? e = some u)
    (new : ObjOk P w (upd H x o') h' x o') : HOk P w (upd H x o') h' := fun b u q => by
  have nown : ∀ c y, H c = some (.own y) → c ≠ x := fun c y r z => by subst z; rw [r] at mu; exact mu
  have ntup : ∀ c xs, H c = some (.tup xs) → c ≠ x := fun c xs r z => by subst z; rw [r] at mu; exact mu
  by_cases hb : b = x
  · subst hb; rw [upd_same] at q; cases q; exact new
  · rw [upd_ne hb] at q
    by_cases hbe : b = e
    · have q' : H b = some (.own x) := by
        rcases he with z | z
        · exact absurd (hbe.trans z) hb
        · rw [hbe]; exact z
      rw [q] at q'; cases q'
      obtain ⟨v, hv⟩ := heo
      exact ⟨v, by rw [hbe]; exact hv⟩
    · refine (ok b u q).stay (fun c v hc r => k c v ?_ r) (fun c r => by rw [upd_ne (nown c b r)]; exact r) fun c xs r => by rw [upd_ne (ntup c xs r)]; exact r
      rcases hc with rfl | hc
      · exact hbe
      · rintro rfl
        rcases he with z | z
        · exact nown c b hc z
        · rw [hc] at z; cases z; exact hb rfl
end

/-! ### kept unless tracked; of the frames at fs (the callers') the slots may change (an exception that passes writes there); of the records at ex (iterators) nothing is said -/
structure Un (fs ex : List Addr) (H H' : Hp) (h h' : Heap) : Prop where
  keep : ∀ b o, h.get? b = some o → H b = none → b ∉ fs → b ∉ ex → h'.get? b = some o
  slot : ∀ b o, h.get? b = some o → H b = none → b ∈ fs → b ∉ ex → ∃ sl, h'.get? b = some { o with slots := sl }
  free : ∀ b o, h.get? b = some o → H b = none → b ∉ ex → H' b = none
  there : ∀ b o, h.get? b = some o → b ∉ ex → ∃ o', h'.get? b = some o'
  tups : ∀ b xs, H b = some (.tup xs) → H' b = some (.tup xs)
  frzs : ∀ b o u, H b = some (.frz o u) → H' b = some (.frz o u)
  tbls : ∀ b ps, H b = some (.tbl ps) → ∃ more, H' b = some (.tbl (ps ++ more))
section
variable {fs fs' ex ex' : List Addr} {H H1 H2 : Hp} {h h1 h2 h' : Heap} {a x e : Addr} {o : HO}
theorem Un.any (u : Un fs ex H H1 h h1) {b : Addr} {ob : Obj} (q : h.get? b = some ob) (n : H b = none) (hx : b ∉ ex) : ∃ sl, h1.get? b = some { ob with slots := sl } := by
  by_cases hb : b ∈ fs
  · exact u.slot b ob q n hb hx
  · exact ⟨ob.slots, u.keep b ob q n hb hx⟩
theorem Un.kept (k : ∀ b u, h.get? b = some u → h'.get? b = some u) : Un fs ex H H h h' :=
  ⟨fun b ob q _ _ _ => k b ob q, fun b ob q _ _ _ => ⟨ob.slots, k b ob q⟩, fun _ _ _ n _ => n, fun b ob q _ => ⟨ob, k b ob q⟩, fun _ _ q => q, fun _ _ _ q => q, fun _ ps q => ⟨#[], by rw [q]; simp⟩⟩
theorem Un.refl : Un fs ex H H h h := Un.kept fun _ _ q => q
theorem Un.laid (k : ∀ b u, h.get? b = some u → h'.get? b = some u) (hp : h.objs.size ≤ a) (hn : H a = none) : Un fs ex H (upd H a o) h h' where
  keep := fun b u q _ _ _ => k b u q
  slot := fun b u q _ _ _ => ⟨u.slots, k b u q⟩
  free := fun b u q n _ => by rw [upd_ne (Nat.ne_of_lt (Nat.lt_of_lt_of_le (Heap.lt_size q) hp))]; exact n
  there := fun b u q _ => ⟨u, k b u q⟩
  tups := fun b xs q => by rw [upd_ne (ne_of_none q hn)]; exact q
  frzs := fun b u xs q => by rw [upd_ne (ne_of_none q hn)]; exact q
  tbls := fun b ps q => ⟨#[], by rw [upd_ne (ne_of_none q hn), q]; simp⟩
theorem Un.write (mu : Mut (H x)) (he : e = x ∨ H e = some (.own x)) (k : ∀ b u, b ≠ e → h.get? b = some u → h'.get? b = some u) (heo : ∃ u, h'.get? e = some u) : Un fs ex H (upd H x o) h h' := by
  have hx : ∀ b, H b = none → b ≠ x := fun b n z => by subst z; rw [n] at mu; exact mu
  have hb : ∀ b, H b = none → b ≠ e := fun b n z => by
    subst z
    rcases he with r | r
    · exact hx b n r
    · rw [n] at r; cases r
  have hm : ∀ b u, H b = some u → ¬ Mut (some u) → b ≠ x := fun b u q nm z => by subst z; rw [q] at mu; exact nm mu
  refine ⟨fun b u q n _ _ => k b u (hb b n) q, fun b u q n _ _ => ⟨u.slots, k b u (hb b n) q⟩, fun b u q n _ => by rw [upd_ne (hx b n)]; exact n, fun b u q _ => ?_,
    fun b xs q => by rw [upd_ne (hm b _ q fun z => z)]; exact q, fun b u xs q => by rw [upd_ne (hm b _ q fun z => z)]; exact q, fun b ps q => ⟨#[], by rw [upd_ne (hm b _ q fun z => z), q]; simp⟩⟩
  by_cases hbe : b = e
  · subst hbe; exact heo
  · exact ⟨u, k b u hbe q⟩
end

/-! ### the heap without what is tracked -/
noncomputable def trk (h : Heap) (H : Hp) : List Addr := (List.range h.objs.size).filter fun a => (H a).isSome
noncomputable def hidT (h : Heap) (H : Hp) : Heap := PySem.W.hideAll h (trk h H)
theorem hidT_size (h : Heap) (H : Hp) : (hidT h H).objs.size = h.objs.size := PySem.W.hideAll_size _ _
theorem hidT_get {h : Heap} {H : Hp} {b : Addr} {o : Obj} (e : h.get? b = some o) (n : H b = none) : (hidT h H).get? b = some o :=
  PySem.W.hideAll_get _ e fun hm => by
    have q : (H b).isSome = true := (List.mem_filter.mp hm).2
    rw [n] at q; simp at q
theorem of_hidT {h : Heap} {H : Hp} {b : Addr} {o : Obj} (e : (hidT h H).get? b = some o) : h.get? b = some o ∧ H b = none := by
  have e' : h.get? b = some o := PySem.W.of_hideAll (trk h H) e
  refine ⟨e', ?_⟩
  cases q : H b with
  | none => rfl
  | some x =>
    have hm : b ∈ trk h H := List.mem_filter.mpr ⟨List.mem_range.mpr (Heap.lt_size e'), by simp [q]⟩
    have z : (hidT h H).get? b = none := PySem.W.hideAll_none (trk h H) hm
    rw [z] at e; cases e

/-! ### OpenK's ledger, filled with every new object but one -/
noncomputable def allNews (g h : Heap) (L : Addr) : List (Addr × Obj) := (List.range h.objs.size).filterMap fun a => if a = L ∨ (g.get? a).isSome = true then none else (h.get? a).map fun o => (a, o)
noncomputable def rest (g h : Heap) (L d : Addr) : List (Addr × Obj) := (allNews g h L).filter fun p => decide (p.1 ≠ d)
end L2

namespace L2
open PySem PySem.Spec PyProof.Rows

/-- the module's facts, over the base: the heap at the law's entry without what is tracked there -/
structure Mod (K : PySem.W.Frag) (mg : Str → Option Value) (base : Heap) : Prop where
  kin : K.In base
  glob : base.Ns mainGlobals mg
  blt : ∃ mb, base.Ns builtinsNs mb ∧ ∀ x : Str, x ≠ "__name__" → mb x = bootBuiltins x
  nolimit : base.NoLimit

/-- the context: a def's body (or a comprehension's block) running. base: fixed through the whole law; s₀, H₀: the entry; outer: the frames whose slots others may change (a def's callers); stack: all frames that run;
   ex: iterators that were made ahead of the entry and are walked here (a comprehension's); fn: the names whose cells were made at the entry (a def: all; a comprehension's block: its own); calm: not within an except suite; pn: pins that every state bears; xe: what is wanted of an exception that leaves the code -/
structure Cx where
  prog : Program
  w : World
  K : PySem.W.Frag
  mg : Str → Option Value
  base : Heap
  A : Around
  N : List Str
  s₀ : Shared
  H₀ : Hp
  env : Env
  outer : List Env
  stack : List Env
  ex : List Addr
  fn : Str → Bool
  calm : Bool
  pn : List (Addr × Obj)
  xe : Value → Shared → Prop
/-- the callers' frames -/
noncomputable def frs (l : List Env) : List Addr := l.filterMap (·.frame)
noncomputable abbrev Cx.fs (X : Cx) : List Addr := frs X.outer

noncomputable def Vis (sc : Scope) (x : Str) : Prop := sc.names.lookup x = some .local ∨ sc.names.lookup x = some .cell ∨ sc.names.lookup x = some .free
noncomputable def Loc (sc : Scope) (x : Str) : Prop := sc.names.lookup x = some .local ∨ sc.names.lookup x = some .cell
noncomputable def Look (env : Env) (h : Heap) (m : Str → Option Value) (x : Str) (u : Value) : Prop :=
  (env.kindOf x = some .local ∧ m x = some u) ∨ ((env.kindOf x = some .cell ∨ env.kindOf x = some .free) ∧ ∃ c, env.cells.lookup x = some c ∧ h.IsCell c (some u))

structure Cx.Ok (X : Cx) : Prop where
  mod : Mod X.K X.mg X.base
  kind : X.env.scope.kind = .function
  glob : X.env.globals = mainGlobals
  blt : X.env.builtins = builtinsNs
  above : X.s₀.heap.objs.size ≤ X.env.locals
  inj : ∀ x y c, X.env.cells.lookup x = some c → X.env.cells.lookup y = some c → x = y
  has : ∀ x, (X.env.kindOf x = some .cell ∨ X.env.kindOf x = some .free) → ∃ c, X.env.cells.lookup x = some c
  cab : ∀ x c, X.fn x = true → X.env.cells.lookup x = some c → X.s₀.heap.objs.size ≤ c
  hd : X.calm = true → X.A.handled = none
  frames : X.A.frames = some X.stack
  stk : X.stack = X.outer ∨ (X.stack = X.env :: X.outer ∧ X.env.frame = some X.env.locals)
  exf : ∀ b ∈ X.ex, b ≠ X.env.locals ∧ ∀ x c, X.env.cells.lookup x = some c → c ≠ b
  bs : ∀ b o, X.base.get? b = some o → X.s₀.heap.get? b = some o ∧ X.H₀ b = none
  bsz : X.base.objs.size ≤ X.s₀.heap.objs.size
  noex : ∀ b o, X.base.get? b = some o → b ∉ X.ex
  exfs : ∀ b ∈ X.ex, b ∉ X.fs
  funs : X.s₀.heap.FunFrames X.base X.outer
  frf : ∀ b ∈ X.fs, X.H₀ b = none

structure Inv (X : Cx) (pins : List (Addr × Obj)) (σ : List (Option V)) (H : Hp) (s : Shared) : Prop where
  ok : X.Ok
  os : s.os = X.s₀.os
  bare : AllBare s.gens
  base : Un X.fs X.ex X.H₀ H X.s₀.heap s.heap
  loc : ∃ m, s.heap.Ns X.env.locals m ∧ ∀ (i : Nat) (x : Str) (v : V), X.N[i]? = some x → σ[i]? = some (some v) → Vis X.env.scope x → ∃ u, RelV v u ∧ Look X.env s.heap m x u
  cell : ∀ x c, X.env.cells.lookup x = some c → ∃ v, s.heap.IsCell c v
  free : H X.env.locals = none
  freeC : ∀ x c, X.env.cells.lookup x = some c → H c = none
  pin : ∀ p ∈ X.pn ++ pins, s.heap.get? p.1 = some p.2 ∧ H p.1 = none ∧ p.1 ≠ X.env.locals ∧ p.1 ∉ X.fs ∧ ∀ v, p.2.data ≠ .cell v
  hok : HOk X.prog X.w H s.heap
  len : σ.length = X.N.length

section
variable {X : Cx} {pins : List (Addr × Obj)} {σ : List (Option V)} {H H' : Hp} {s : Shared} {h' : Heap}

theorem Cx.Ok.nofr (ok : X.Ok) {b : Addr} {o : Obj} (e : X.base.get? b = some o) : b ∉ X.fs := fun hb => by
  have := (ok.funs.mem hb).1
  rw [e] at this; cases this
theorem Inv.bs (I : Inv X pins σ H s) : ∀ b o, X.base.get? b = some o → s.heap.get? b = some o ∧ H b = none := fun b o e =>
  ⟨I.base.keep b o (I.ok.bs b o e).1 (I.ok.bs b o e).2 (I.ok.nofr e) (I.ok.noex b o e), I.base.free b o (I.ok.bs b o e).1 (I.ok.bs b o e).2 (I.ok.noex b o e)⟩
theorem Inv.bk (I : Inv X pins σ H s) : ∀ b o, X.base.get? b = some o → s.heap.get? b = some o := fun b o e => (I.bs b o e).1
theorem Inv.mod (I : Inv X pins σ H s) : Mod X.K X.mg X.base := I.ok.mod
theorem Inv.kIn (I : Inv X pins σ H s) : X.K.In s.heap := I.ok.mod.kin.keeps I.bk
/-- the frame over the base: for OpenK's rules (K.In X.base is I.mod.kin) -/
theorem Inv.fr (I : Inv X pins σ H s) : ∃ m, Fr X.base X.env.locals s.heap m :=
  let ⟨m, hn, _⟩ := I.loc
  ⟨m, hn, I.bk, Nat.le_trans I.ok.bsz I.ok.above⟩
theorem Inv.lt (I : Inv X pins σ H s) : X.env.locals < s.heap.objs.size := let ⟨_, hn, _⟩ := I.loc; hn.lt
theorem Inv.sz (I : Inv X pins σ H s) : X.s₀.heap.objs.size ≤ s.heap.objs.size := Nat.le_trans I.ok.above (Nat.le_of_lt I.lt)
theorem Inv.nofs (I : Inv X pins σ H s) {a : Addr} (h : s.heap.objs.size ≤ a) : a ∉ X.fs := fun hb => by
  obtain ⟨_, o, ho, _⟩ := I.ok.funs.mem hb
  exact absurd (Nat.lt_of_lt_of_le (Heap.lt_size ho) (Nat.le_trans I.sz h)) (Nat.lt_irrefl _)
theorem Inv.cne (I : Inv X pins σ H s) : ∀ x c, X.env.cells.lookup x = some c → c ≠ X.env.locals := fun x c e z => by
  obtain ⟨v, o, ho, hd⟩ := I.cell x c e
  obtain ⟨m, ⟨o', es, ep, ho', hd', _⟩, _⟩ := I.loc
  rw [z, ho'] at ho; cases ho; rw [hd'] at hd; cases hd
theorem Inv.funs (I : Inv X pins σ H s) : s.heap.FunFrames X.base X.outer := by
  have all : ∀ (l : List Env), (∀ b ∈ frs l, b ∈ X.fs) → X.s₀.heap.FunFrames X.base l → s.heap.FunFrames X.base l := by
    intro l
    induction l with
    | nil => intro _ _; trivial
    | cons env r ih =>
      intro hs hl
      obtain ⟨hk, ⟨L, o, hf, hn, ho, hd⟩, hr⟩ := hl
      have hL : L ∈ X.fs := hs L (by unfold frs; rw [List.filterMap_cons, hf]; exact List.mem_cons_self)
      obtain ⟨sl, e⟩ := I.base.slot L o ho (I.ok.frf L hL) hL fun z => I.ok.exfs L z hL
      exact ⟨hk, ⟨L, _, hf, hn, e, hd⟩, ih (fun b hb => hs b (by unfold frs; rw [List.filterMap_cons, hf]; exact List.mem_cons_of_mem _ hb)) hr⟩
  exact all X.outer (fun _ hb => hb) I.ok.funs

/-- the frames that run, for a call -/
theorem Inv.stack (I : Inv X pins σ H s) : s.heap.FunFrames X.base X.stack := by
  rcases I.ok.stk with e | ⟨e, hf⟩
  · rw [e]; exact I.funs
  · rw [e]
    obtain ⟨m, hn, _⟩ := I.loc
    refine .cons (by rw [I.ok.kind]; decide) hf hn ?_ I.funs
    exact Heap.get?_none_of_le (Nat.le_trans I.ok.bsz I.ok.above)
theorem Inv.stkSub (I : Inv X pins σ H s) : ∀ b ∈ frs X.stack, b ∈ X.env.locals :: X.fs := fun b hb => by
  rcases I.ok.stk with e | ⟨e, hf⟩
  · rw [e] at hb; exact List.mem_cons_of_mem _ hb
  · rw [e] at hb
    unfold frs at hb
    rw [List.filterMap_cons, hf] at hb
    exact hb
theorem Inv.stkFree (I : Inv X pins σ H s) : ∀ b ∈ frs X.stack, H b = none := fun b hb => by
  rcases List.mem_cons.mp (I.stkSub b hb) with e | hb
  · rw [e]; exact I.free
  · obtain ⟨_, o, ho, _⟩ := I.ok.funs.mem hb
    exact I.base.free b o ho (I.ok.frf b hb) fun z => I.ok.exfs b z hb

/-- THE STEP: the untracked objects but the frame and the records at ch are kept (the callers' frames up to slots), the frame's map is kept, the new abstract heap is held -/
theorem Inv.step {g' : Array GenState} {t' : Nat} {d' : Drawn} {ch : List Addr} (I : Inv X pins σ H s)
    (hch : ∀ b ∈ ch, (b ∈ X.ex ∨ X.s₀.heap.objs.size ≤ b) ∧ b ≠ X.env.locals ∧ (∀ x c, X.env.cells.lookup x = some c → c ≠ b) ∧ ∀ p ∈ X.pn ++ pins, p.1 ≠ b)
    (keep : ∀ b o, b ≠ X.env.locals → b ∉ X.fs → b ∉ ch → s.heap.get? b = some o → H b = none → h'.get? b = some o)
    (slot : ∀ b o, b ≠ X.env.locals → b ∈ X.fs → b ∉ ch → s.heap.get? b = some o → H b = none → ∃ sl, h'.get? b = some { o with slots := sl }) (free : ∀ b o, b ∉ ch → s.heap.get? b = some o → H b = none → H' b = none)
    (there : ∀ b o, b ∉ ch → s.heap.get? b = some o → ∃ o', h'.get? b = some o')
    (tups : ∀ b xs, H b = some (.tup xs) → H' b = some (.tup xs)) (frzs : ∀ b o u, H b = some (.frz o u) → H' b = some (.frz o u)) (tbls : ∀ b ps, H b = some (.tbl ps) → ∃ more, H' b = some (.tbl (ps ++ more)))
    (ns : ∀ m, s.heap.Ns X.env.locals m → h'.Ns X.env.locals m) (hok : HOk X.prog X.w H' h') (hg : AllBare g') :
    Inv X pins σ H' { s with heap := h', gens := g', drawn := d', toks := t' } := by
  have neL : ∀ b o, X.s₀.heap.get? b = some o → b ≠ X.env.locals := fun b o e => Nat.ne_of_lt (Nat.lt_of_lt_of_le (Heap.lt_size e) I.ok.above)
  have neC : ∀ b o, X.s₀.heap.get? b = some o → b ∉ X.ex → b ∉ ch := fun b o e hx hb => by
    rcases (hch b hb).1 with z | z
    · exact hx z
    · exact absurd (Nat.lt_of_lt_of_le (Heap.lt_size e) z) (Nat.lt_irrefl _)
  have cellK : ∀ x c, X.env.cells.lookup x = some c → ∀ v, s.heap.IsCell c v → h'.IsCell c v := fun x c e v ⟨o, ho, hd⟩ => by
    have nch : c ∉ ch := fun z => (hch c z).2.2.1 x c e rfl
    by_cases hc : c ∈ X.fs
    · obtain ⟨sl, q⟩ := slot c o (I.cne x c e) hc nch ho (I.freeC x c e)
      exact ⟨_, q, hd⟩
    · exact ⟨o, keep c o (I.cne x c e) hc nch ho (I.freeC x c e), hd⟩
  refine ⟨I.ok, I.os, hg, ⟨fun b o e n hb hx => ?_, fun b o e n hb hx => ?_, fun b o e n hx => ?_, fun b o e hx => ?_, fun b xs e => tups b xs (I.base.tups b xs e), fun b o xs e => frzs b o xs (I.base.frzs b o xs e), fun b ps e => ?_⟩, ?_, fun x c e => ?_, ?_, fun x c e => ?_, fun p hp => ?_, hok, I.len⟩
  · exact keep b o (neL b o e) hb (neC b o e hx) (I.base.keep b o e n hb hx) (I.base.free b o e n hx)
  · obtain ⟨sl, e1⟩ := I.base.slot b o e n hb hx
    obtain ⟨sl', e2⟩ := slot b _ (neL b o e) hb (neC b o e hx) e1 (I.base.free b o e n hx)
    exact ⟨sl', e2⟩
  · obtain ⟨o', e1⟩ := I.base.there b o e hx
    exact free b o' (neC b o e hx) e1 (I.base.free b o e n hx)
  · obtain ⟨o', e1⟩ := I.base.there b o e hx
    exact there b o' (neC b o e hx) e1
  · obtain ⟨m1, e1⟩ := I.base.tbls b ps e
    obtain ⟨m2, e2⟩ := tbls b _ e1
    exact ⟨m1 ++ m2, by rw [e2, Array.append_assoc]⟩
  · obtain ⟨m, hn, hl⟩ := I.loc
    refine ⟨m, ns m hn, fun i x v e1 e2 e3 => ?_⟩
    obtain ⟨u, r, l⟩ := hl i x v e1 e2 e3
    refine ⟨u, r, ?_⟩
    rcases l with l | ⟨k, c, e, z⟩
    · exact .inl l
    · exact .inr ⟨k, c, e, cellK x c e _ z⟩
  · obtain ⟨v, z⟩ := I.cell x c e
    exact ⟨v, cellK x c e v z⟩
  · obtain ⟨m, ⟨o, _, _, ho, _⟩, _⟩ := I.loc
    exact free _ o (fun z => (hch _ z).2.1 rfl) ho I.free
  · obtain ⟨v, o, ho, hd⟩ := I.cell x c e
    exact free c o (fun z => (hch c z).2.2.1 x c e rfl) ho (I.freeC x c e)
  · obtain ⟨e, n, ne, nf, d⟩ := I.pin p hp
    have nch : p.1 ∉ ch := fun z => (hch p.1 z).2.2.2 p hp rfl
    exact ⟨keep p.1 p.2 ne nf nch e n, free p.1 p.2 nch e n, ne, nf, d⟩
/-- .. where the frame's own object is kept too -/
theorem Inv.un {t' : Nat} (I : Inv X pins σ H s) (u : Un X.fs [] H H' s.heap h') (hok : HOk X.prog X.w H' h') : Inv X pins σ H' { s with heap := h', toks := t' } := by
  obtain ⟨m, ⟨o, es, ep, ho, r⟩, _⟩ := id I.loc
  obtain ⟨sl, hL⟩ := u.any ho I.free (by simp)
  exact I.step (g' := s.gens) (d' := s.drawn) (ch := []) (fun _ z => nomatch z) (fun b o _ hb _ e n => u.keep b o e n hb (by simp)) (fun b o _ hb _ e n => u.slot b o e n hb (by simp)) (fun b o _ e n => u.free b o e n (by simp)) (fun b o _ e => u.there b o e (by simp)) u.tups u.frzs u.tbls (fun m' hm => by
    obtain ⟨o', es', ep', ho', r'⟩ := hm
    rw [ho] at ho'; cases ho'
    exact ⟨_, es', ep', hL, r'⟩) hok I.bare
/-- behind a call (or a comprehension's block): the slots of this frame may have changed too, the records at ch may have turned -/
theorem Inv.call {g' : Array GenState} {t' : Nat} {d' : Drawn} {ch : List Addr} (I : Inv X pins σ H s) (u : Un (frs X.stack) ch H H' s.heap h') (hok : HOk X.prog X.w H' h') (hg : AllBare g')
    (hch : ∀ b ∈ ch, (b ∈ X.ex ∨ X.s₀.heap.objs.size ≤ b) ∧ b ≠ X.env.locals ∧ (∀ x c, X.env.cells.lookup x = some c → c ≠ b) ∧ ∀ p ∈ X.pn ++ pins, p.1 ≠ b) :
    Inv X pins σ H' { s with heap := h', gens := g', drawn := d', toks := t' } := by
  obtain ⟨m, ⟨o, es, ep, ho, r⟩, _⟩ := id I.loc
  obtain ⟨sl, hL⟩ := u.any ho I.free fun z => (hch _ z).2.1 rfl
  exact I.step (ch := ch) hch (fun b o hL hb hc e n => u.keep b o e n (fun z => (List.mem_cons.mp (I.stkSub b z)).elim hL hb) hc) (fun b o _ _ hc e n => u.any e n hc) (fun b o hc e n => u.free b o e n hc) (fun b o hc e => u.there b o e hc) u.tups u.frzs u.tbls (fun m' hm => by
    obtain ⟨o', es', ep', ho', r'⟩ := hm
    rw [ho] at ho'; cases ho'
    exact ⟨_, es', ep', hL, r'⟩) hok hg
/-- an untracked record of ours (an iterator) has turned -/
theorem Inv.turned {t' : Nat} {it : Addr} (I : Inv X pins σ H s) (k : ∀ b o, b ≠ it → s.heap.get? b = some o → h'.get? b = some o) (hn : H it = none) (hL : it ≠ X.env.locals)
    (h1 : it ∈ X.ex ∨ X.s₀.heap.objs.size ≤ it) (h2 : ∀ x c, X.env.cells.lookup x = some c → c ≠ it) (h3 : ∀ p ∈ X.pn ++ pins, p.1 ≠ it) : Inv X pins σ H { s with heap := h', toks := t' } := by
  have nit : ∀ b u, H b = some u → b ≠ it := fun b u e z => by rw [z, hn] at e; cases e
  refine I.step (g' := s.gens) (d' := s.drawn) (ch := [it]) (fun b hb => ?_) (fun b o _ _ hc e _ => k b o (fun z => hc (by simp [z])) e) (fun b o _ _ hc e _ => ⟨o.slots, k b o (fun z => hc (by simp [z])) e⟩) (fun _ _ _ _ n => n)
    (fun b o hc e => ⟨o, k b o (fun z => hc (by simp [z])) e⟩) (fun _ _ e => e) (fun _ _ _ e => e) (fun b ps e => ⟨#[], by rw [e]; simp⟩) (fun m hm => ?_) (fun b u e => ?_) I.bare
  · have e : b = it := by simpa using hb
    subst e
    exact ⟨h1, hL, h2, h3⟩
  · obtain ⟨o, es, ep, ho, r⟩ := hm
    exact ⟨o, es, ep, k _ o (Ne.symm hL) ho, r⟩
  · refine (I.hok b u e).stay (fun c v hc q => k c v ?_ q) (fun _ q => q) fun _ _ q => q
    rcases hc with z | z
    · rw [z]; exact nit b u e
    · exact nit c _ z
theorem Inv.tok (I : Inv X pins σ H s) (t : Nat) : Inv X pins σ H { s with toks := t } := I.un (h' := s.heap) (t' := t) Un.refl I.hok
/-- all objects kept -/
theorem Inv.kept {t' : Nat} (I : Inv X pins σ H s) (k : ∀ b u, s.heap.get? b = some u → h'.get? b = some u) : Inv X pins σ H { s with heap := h', toks := t' } := I.un (Un.kept k) (I.hok.kept k)
/-- a new object laid and tracked -/
theorem Inv.laid {a : Addr} {o : HO} {t' : Nat} (I : Inv X pins σ H s) (k : ∀ b u, s.heap.get? b = some u → h'.get? b = some u) (hp : s.heap.objs.size ≤ a) (new : ObjOk X.prog X.w (upd H a o) h' a o) :
    Inv X pins σ (upd H a o) { s with heap := h', toks := t' } := I.un (Un.laid k hp (I.hok.fresh hp)) (I.hok.laid k hp new)
/-- an object written -/
theorem Inv.write {x e : Addr} {o : HO} {t' : Nat} (I : Inv X pins σ H s) (mu : Mut (H x)) (he : e = x ∨ H e = some (.own x)) (k : ∀ b u, b ≠ e → s.heap.get? b = some u → h'.get? b = some u) (heo : ∃ u, h'.get? e = some u)
    (new : ObjOk X.prog X.w (upd H x o) h' x o) : Inv X pins σ (upd H x o) { s with heap := h', toks := t' } := I.un (Un.write mu he k heo) (I.hok.write mu he k heo new)
/-- forgetting slots, pins -/
theorem Inv.weak {σ' : List (Option V)} (I : Inv X pins σ H s) (hl : σ'.length = σ.length) (w : ∀ (i : Nat) v, σ'[i]? = some (some v) → σ[i]? = some (some v)) : Inv X pins σ' H s :=
  ⟨I.ok, I.os, I.bare, I.base, let ⟨m, hn, hl'⟩ := I.loc; ⟨m, hn, fun i x v e1 e2 e3 => hl' i x v e1 (w i v e2) e3⟩, I.cell, I.free, I.freeC, I.pin, I.hok, hl.trans I.len⟩
theorem Inv.pins_of {pins' : List (Addr × Obj)} (I : Inv X pins σ H s) (h : ∀ p ∈ pins', s.heap.get? p.1 = some p.2 ∧ H p.1 = none ∧ p.1 ≠ X.env.locals ∧ p.1 ∉ X.fs ∧ ∀ v, p.2.data ≠ .cell v) : Inv X pins' σ H s :=
  ⟨I.ok, I.os, I.bare, I.base, I.loc, I.cell, I.free, I.freeC, fun p hp => (List.mem_append.mp hp).elim (fun z => I.pin p (List.mem_append_left _ z)) (h p), I.hok, I.len⟩

theorem nodup_ix {N : List Str} (hN : N.Nodup) {i j : Nat} {x : Str} (a : N[i]? = some x) (b : N[j]? = some x) : i = j := by
  obtain ⟨h1, e1⟩ := List.getElem?_eq_some_iff.mp a
  obtain ⟨h2, e2⟩ := List.getElem?_eq_some_iff.mp b
  exact (List.getElem_inj hN).mp (e1.trans e2.symm)

/-- a name is stored; what changed -/
theorem store_ok2 {M : Model} {A : Around} {E : Value → Shared → Prop} {i : Nat} {x : Str} {v : V} {u : Value} {Q : Unit → Shared → Prop} (I : Inv X pins σ H s) (hN : X.N.Nodup) (hi : X.N[i]? = some x) (hx : Loc X.env.scope x) (r : RelV v u)
    (h : ∀ s', Inv X pins (σ.set i (some v)) H s' → (∃ a, Heap.SameBut a s.heap s'.heap ∧ (a = X.env.locals ∨ X.env.cells.lookup x = some a)) → Q () s') (hf : X.fn x = true ∨ X.env.scope.names.lookup x = some .local := by first | exact .inl rfl | exact .inr rfl | assumption) : wpAny M A (storeName X.env x u) Q E s := by
  obtain ⟨m, hn, hl⟩ := id I.loc
  have hcls : (X.env.scope.kind == .class || (X.env.scope.kind == .module && X.env.locals != X.env.globals)) = false := by rw [I.ok.kind]; rfl
  have hiσ : i < σ.length := by rw [I.len]; exact (List.getElem?_eq_some_iff.mp hi).1
  have cne := I.cne
  have tracked : ∀ {a : Addr} {h' : Heap}, (∃ o, s.heap.get? a = some o ∧ H a = none) → Heap.SameBut a s.heap h' → HOk X.prog X.w H h' := fun {a h'} ha hs b ob e => by
    obtain ⟨_, _, hfree⟩ := ha
    refine (I.hok b ob e).stay (fun c w' hc q => (hs.2 c ?_).trans q) (fun _ q => q) fun _ _ q => q
    rintro rfl
    rcases hc with rfl | hc
    · rw [hfree] at e; cases e
    · rw [hfree] at hc; cases hc
  rcases hx with hk | hk
  · refine wpAny_storeName_local hk hn (fun h' hn' hs => ?_) hcls
    obtain ⟨oL, _, _, hoL, _⟩ := id hn
    refine h _ ⟨I.ok, I.os, I.bare, ⟨fun b o e n hb hx => ?_, fun b o e n hb hx => ?_, I.base.free, fun b o e hx => ?_, I.base.tups, I.base.frzs, I.base.tbls⟩, ⟨_, hn', fun j y v' e1 e2 e3 => ?_⟩, fun y c e => ?_, I.free, I.freeC, fun p hp => ?_, tracked ⟨oL, hoL, I.free⟩ hs, by simpa using I.len⟩ ⟨_, hs, .inl rfl⟩
    · exact (hs.2 b (Nat.ne_of_lt (Nat.lt_of_lt_of_le (Heap.lt_size e) I.ok.above))).trans (I.base.keep b o e n hb hx)
    · obtain ⟨sl, e1⟩ := I.base.slot b o e n hb hx
      exact ⟨sl, (hs.2 b (Nat.ne_of_lt (Nat.lt_of_lt_of_le (Heap.lt_size e) I.ok.above))).trans e1⟩
    · obtain ⟨o', e1⟩ := I.base.there b o e hx
      exact ⟨o', (hs.2 b (Nat.ne_of_lt (Nat.lt_of_lt_of_le (Heap.lt_size e) I.ok.above))).trans e1⟩
    · by_cases hj : j = i
      · subst hj
        rw [hi] at e1; cases e1
        rw [List.getElem?_set_self hiσ] at e2
        cases e2
        exact ⟨u, r, .inl ⟨hk, by simp⟩⟩
      · rw [List.getElem?_set_ne (Ne.symm hj)] at e2
        obtain ⟨u', r', q⟩ := hl j y v' e1 e2 e3
        refine ⟨u', r', ?_⟩
        rcases q with ⟨k, e⟩ | ⟨k, c, e, z⟩
        · refine .inl ⟨k, ?_⟩
          have : y ≠ x := fun e => hj (nodup_ix hN e1 (e ▸ hi))
          simp [this, e]
        · exact .inr ⟨k, c, e, z.sameBut hs (cne y c e)⟩
    · obtain ⟨w', z⟩ := I.cell y c e
      exact ⟨w', z.sameBut hs (cne y c e)⟩
    · obtain ⟨e, n, ne, nf, d⟩ := I.pin p hp
      exact ⟨(hs.2 p.1 ne).trans e, n, ne, nf, d⟩
  · have hfn : X.fn x = true := by
      rcases hf with z | z
      · exact z
      · rw [z] at hk; cases hk
    obtain ⟨c, hc⟩ := I.ok.has x (.inl hk)
    obtain ⟨w', z⟩ := I.cell x c hc
    refine wpAny_storeName_cell I.ok.kind hk hc z (fun h' hc' hs => ?_)
    obtain ⟨oc, hoc, hocd⟩ := id z
    refine h { s with heap := h' } ⟨I.ok, I.os, I.bare, ⟨fun b o e n hb hx => ?_, fun b o e n hb hx => ?_, I.base.free, fun b o e hx => ?_, I.base.tups, I.base.frzs, I.base.tbls⟩, ⟨m, hn.sameBut hs (Ne.symm (cne x c hc)), fun j y v' e1 e2 e3 => ?_⟩, fun y c' e => ?_, I.free, I.freeC, fun p hp => ?_, tracked ⟨oc, hoc, I.freeC x c hc⟩ hs, by simpa using I.len⟩ ⟨c, hs, .inr hc⟩
    · exact (hs.2 b (Nat.ne_of_lt (Nat.lt_of_lt_of_le (Heap.lt_size e) (I.ok.cab x c hfn hc)))).trans (I.base.keep b o e n hb hx)
    · obtain ⟨sl, e1⟩ := I.base.slot b o e n hb hx
      exact ⟨sl, (hs.2 b (Nat.ne_of_lt (Nat.lt_of_lt_of_le (Heap.lt_size e) (I.ok.cab x c hfn hc)))).trans e1⟩
    · obtain ⟨o', e1⟩ := I.base.there b o e hx
      exact ⟨o', (hs.2 b (Nat.ne_of_lt (Nat.lt_of_lt_of_le (Heap.lt_size e) (I.ok.cab x c hfn hc)))).trans e1⟩
    · by_cases hj : j = i
      · subst hj
        rw [hi] at e1; cases e1
        rw [List.getElem?_set_self hiσ] at e2
        cases e2
        exact ⟨u, r, .inr ⟨.inl hk, c, hc, hc'⟩⟩
      · rw [List.getElem?_set_ne (Ne.symm hj)] at e2
        obtain ⟨u', r', q⟩ := hl j y v' e1 e2 e3
        refine ⟨u', r', ?_⟩
        rcases q with q | ⟨k, c', e, z'⟩
        · exact .inl q
        · refine .inr ⟨k, c', e, z'.sameBut hs ?_⟩
          rintro rfl
          exact hj (nodup_ix hN e1 (I.ok.inj _ _ _ e hc ▸ hi))
    · by_cases hcc : c' = c
      · subst hcc; exact ⟨_, hc'⟩
      · obtain ⟨w2, z2⟩ := I.cell y c' e
        exact ⟨w2, z2.sameBut hs hcc⟩
    · obtain ⟨e, n, ne, nf, d⟩ := I.pin p hp
      refine ⟨(hs.2 p.1 ?_).trans e, n, ne, nf, d⟩
      intro q
      rw [q, hoc] at e
      have q' : oc = p.2 := Option.some.inj e
      exact d w' (by rw [← q']; exact hocd)
theorem store_ok {M : Model} {A : Around} {E : Value → Shared → Prop} {i : Nat} {x : Str} {v : V} {u : Value} {Q : Unit → Shared → Prop} (I : Inv X pins σ H s) (hN : X.N.Nodup) (hi : X.N[i]? = some x) (hx : Loc X.env.scope x) (r : RelV v u)
    (h : ∀ s', Inv X pins (σ.set i (some v)) H s' → Q () s') (hf : X.fn x = true ∨ X.env.scope.names.lookup x = some .local := by first | exact .inl rfl | exact .inr rfl | assumption) : wpAny M A (storeName X.env x u) Q E s :=
  store_ok2 I hN hi hx r (fun s' I' _ => h s' I') hf
/-- behind a call or a block, the state as it is -/
theorem Inv.call' {s' : Shared} {ch : List Addr} (I : Inv X pins σ H s) (ho : s'.os = s.os) (u : Un (frs X.stack) ch H H' s.heap s'.heap) (hok : HOk X.prog X.w H' s'.heap) (hg : AllBare s'.gens)
    (hch : ∀ b ∈ ch, (b ∈ X.ex ∨ X.s₀.heap.objs.size ≤ b) ∧ b ≠ X.env.locals ∧ (∀ x c, X.env.cells.lookup x = some c → c ≠ b) ∧ ∀ p ∈ X.pn ++ pins, p.1 ≠ b) : Inv X pins σ H' s' := by
  obtain ⟨h', g', d', t', o'⟩ := s'
  have e : o' = s.os := ho
  subst e
  exact I.call (g' := g') (t' := t') (d' := d') u hok hg hch
end

/-! ### the judgements -/
/-- an exception: its class, its own dict's address (where it has one), the abstract heap behind it -/
noncomputable abbrev XK := Value → Option Addr → Hp → Prop
noncomputable abbrev St := List (Option V)
noncomputable abbrev VK := V → Hp → Prop
/-- an expression's reading; a test's; an argument list's -/
noncomputable abbrev TE := St → Hp → VK → Prop
noncomputable abbrev TT := St → Hp → (Bool → Hp → Prop) → Prop
noncomputable abbrev TA := St → Hp → (List V → Hp → Prop) → Prop
/-- what is wanted behind a statement -/
structure Ends where
  nx : St → Hp → Prop
  rt : VK
  bk : St → Hp → Prop := fun _ _ => False
  ct : St → Hp → Prop := fun _ _ => False
noncomputable abbrev TS := Ends → St → Hp → Prop

noncomputable def EP (X : Cx) (pins : List (Addr × Obj)) (σ : St) (Q : VK) (u : Value) (s' : Shared) : Prop := ∃ v H', Inv X pins σ H' s' ∧ RelV v u ∧ Q v H'
noncomputable def TP (X : Cx) (pins : List (Addr × Obj)) (σ : St) (Q : Bool → Hp → Prop) (b : Bool) (s' : Shared) : Prop := ∃ H', Inv X pins σ H' s' ∧ Q b H'
noncomputable def AP (X : Cx) (pins : List (Addr × Obj)) (σ : St) (Q : List V → Hp → Prop) (us : List Value) (s' : Shared) : Prop := ∃ vs H', Inv X pins σ H' s' ∧ Vals vs us ∧ Q vs H'
noncomputable def SP (X : Cx) (pins : List (Addr × Obj)) (D : Ends) (f : Flow) (s' : Shared) : Prop :=
  match f with
  | .next => ∃ σ' H', Inv X pins σ' H' s' ∧ D.nx σ' H'
  | .brk => ∃ σ' H', Inv X pins σ' H' s' ∧ D.bk σ' H'
  | .cont => ∃ σ' H', Inv X pins σ' H' s' ∧ D.ct σ' H'
  | .ret u => ∃ v σ' H', Inv X pins σ' H' s' ∧ RelV v u ∧ D.rt v H'

noncomputable def PE (X : Cx) (e : Expr) (t : TE) : Prop :=
  ∀ (pins : List (Addr × Obj)) (s : Shared) (σ : St) (H : Hp) (Q : VK), Inv X pins σ H s → t σ H Q → wpAny (model X.prog X.w) X.A (eval e X.env) (EP X pins σ Q) X.xe s
noncomputable def PT (X : Cx) (e : Expr) (t : TT) : Prop :=
  ∀ (pins : List (Addr × Obj)) (s : Shared) (σ : St) (H : Hp) (Q : Bool → Hp → Prop), Inv X pins σ H s → t σ H Q → wpAny (model X.prog X.w) X.A (isTrue e X.env (eval e X.env)) (TP X pins σ Q) X.xe s
/-- a test whatever its 'whole' is (and, or) -/
noncomputable def PW (X : Cx) (e : Expr) (t : TT) : Prop :=
  ∀ (whole : Sem Value) (pins : List (Addr × Obj)) (s : Shared) (σ : St) (H : Hp) (Q : Bool → Hp → Prop), Inv X pins σ H s → t σ H Q → wpAny (model X.prog X.w) X.A (isTrue e X.env whole) (TP X pins σ Q) X.xe s
theorem PW.pt {X : Cx} {e : Expr} {t : TT} (h : PW X e t) : PT X e t := h _
/-- an argument list (no star), from the left -/
noncomputable def PA (X : Cx) (es : List Expr) (t : TA) : Prop :=
  ∀ (pos : Pos) (pins : List (Addr × Obj)) (s : Shared) (σ : St) (H : Hp) (Q : List V → Hp → Prop), Inv X pins σ H s → t σ H Q → wpAny (model X.prog X.w) X.A (spliced (backTo pos (starEach es X.env))) (AP X pins σ Q) X.xe s
noncomputable def PS (X : Cx) (st : Stmt) (t : TS) : Prop :=
  ∀ (pins : List (Addr × Obj)) (s : Shared) (σ : St) (H : Hp) (D : Ends), Inv X pins σ H s → t D σ H → wpAny (model X.prog X.w) X.A (exec st X.env) (SP X pins D) X.xe s
noncomputable def PSs (X : Cx) (st : List Stmt) (t : TS) : Prop :=
  ∀ (pins : List (Addr × Obj)) (s : Shared) (σ : St) (H : Hp) (D : Ends), Inv X pins σ H s → t D σ H → wpAny (model X.prog X.w) X.A (execs st X.env) (SP X pins D) X.xe s
/-- weaken the end -/
theorem thn {α : Type} {t : Sem α} {Q Q' : α → Shared → Prop} {M : Model} {A : Around} {E : Value → Shared → Prop} {s : Shared} (h : wpAny M A t Q E s) (hQ : ∀ a s, Q a s → Q' a s) : wpAny M A t Q' E s := wpAny_mono h hQ fun _ _ x => x
end L2

namespace L2
open PySem PySem.Spec PyProof.Rows
section
variable {X : Cx}

/-- two expressions in a row -/
theorem bin {a b : Expr} {ta tb : TE} (ha : PE X a ta) (hb : PE X b tb) {pins : List (Addr × Obj)} {s : Shared} {σ : St} {H : Hp} {R : V → V → Hp → Prop} (I : Inv X pins σ H s) (h : ta σ H fun x H1 => tb σ H1 fun y H2 => R x y H2)
    {α : Type} {Q : α → Shared → Prop} {f : Value → Value → Sem α}
    (hf : ∀ v u s2 x y H2, Inv X pins σ H2 s2 → RelV x v → RelV y u → R x y H2 → wpAny (model X.prog X.w) X.A (f v u) Q X.xe s2) :
    wpAny (model X.prog X.w) X.A (eval a X.env) (fun v s₁ => wpAny (model X.prog X.w) X.A (eval b X.env) (fun u s₂ => wpAny (model X.prog X.w) X.A (f v u) Q X.xe s₂) X.xe s₁) X.xe s := by
  refine thn (ha pins s σ H _ I h) fun v s1 ⟨x, H1, I1, r1, q1⟩ => ?_
  refine thn (hb pins s1 σ H1 _ I1 q1) fun u s2 ⟨y, H2, I2, r2, q2⟩ => ?_
  exact hf v u s2 x y H2 I2 r1 r2 q2

/-! ### names and constants -/
noncomputable def tVar (i : Nat) : TE := fun σ H Q => ∃ v, σ[i]? = some (some v) ∧ Q v H
noncomputable def tC (v : V) : TE := fun _ H Q => Q v H
theorem pe_var {i : Nat} {x : Str} {pos : Pos} (hN : X.N[i]? = some x) (hv : Vis X.env.scope x) (hd : (x == ("__debug__" : Str)) = false := by decide) (hcd : (x == ("__classdict__" : Str)) = false := by decide) : PE X (.Name x pos) (tVar i) := by
  intro pins s σ H Q I h
  obtain ⟨v, e, h⟩ := h
  obtain ⟨m, hn, hl⟩ := I.loc
  obtain ⟨u, r, l⟩ := hl i x v hN e hv
  have fin : EP X pins σ Q u s := ⟨v, H, I, r, h⟩
  rcases l with ⟨hk, hm⟩ | ⟨hk, c, hc, hcell⟩
  · exact wpAny_Name (wpAny_loadName_local I.ok.kind hk hn hm fin) hd
  · rcases hk with hk | hk
    · exact wpAny_Name (wpAny_loadName_cell I.ok.kind hk hc hcell fin) hd
    · exact wpAny_Name (wpAny_loadName_free I.ok.kind hk hc hcell fin hcd) hd
theorem pe_int {i j pos} : PE X (.Constant (.int i) j pos) (tC (.int i)) := fun _ _ _ H _ I h => wpAny_Constant_int ⟨.int i, H, I.tok _, ⟨_, rfl⟩, h⟩
theorem pe_bl {b j pos} : PE X (.Constant (.bool b) j pos) (tC (.bl b)) := fun _ _ _ H _ I h => Constant_bool ⟨.bl b, H, I, rfl, h⟩
theorem pe_non {j pos} : PE X (.Constant .none j pos) (tC .non) := fun _ _ _ H _ I h => Constant_none ⟨.non, H, I, rfl, h⟩
theorem pe_str {x j pos} : PE X (.Constant (.str x) j pos) (tC (.str x)) := fun _ _ _ H _ I h => Calls.Constant_str ⟨.str x, H, I.tok _, ⟨_, rfl⟩, h⟩

/-- a global name of the def -/
noncomputable def Gl (X : Cx) (x : Str) : Prop := X.env.kindOf x = some .globalImplicit
theorem ld_glob {E : Value → Shared → Prop} {pins : List (Addr × Obj)} {s : Shared} {σ : St} {H : Hp} {x : Str} {u : Value} {pos : Pos} {Q : Value → Shared → Prop} (I : Inv X pins σ H s) (hg : Gl X x) (hm : X.mg x = some u) (h : Q u s)
    (hd : (x == ("__debug__" : Str)) = false := by decide) : wpAny (model X.prog X.w) X.A (eval (.Name x pos) X.env) Q E s :=
  Calls.Name_function_global I.ok.kind hg (Calls.loadGlobal_global (by rw [I.ok.glob]; exact I.mod.glob.keeps I.bk) hm h) hd
theorem ld_blt {E : Value → Shared → Prop} {pins : List (Addr × Obj)} {s : Shared} {σ : St} {H : Hp} {x : Str} {u : Value} {pos : Pos} {Q : Value → Shared → Prop} (I : Inv X pins σ H s) (hg : Gl X x) (hm : X.mg x = none) (hv : bootBuiltins x = some u) (h : Q u s)
    (hn : x ≠ "__name__" := by decide) (hd : (x == ("__debug__" : Str)) = false := by decide) : wpAny (model X.prog X.w) X.A (eval (.Name x pos) X.env) Q E s := by
  obtain ⟨mb, h1, h2⟩ := I.mod.blt
  exact Calls.Name_function_global I.ok.kind hg (Calls.loadGlobal_builtin (by rw [I.ok.glob]; exact I.mod.glob.keeps I.bk) hm (by rw [I.ok.blt]; exact h1.keeps I.bk) ((h2 x hn).trans hv) h) hd
theorem pe_bltn {x : Str} {v : V} {u : Value} {pos : Pos} (hg : Gl X x) (hm : X.mg x = none) (hv : bootBuiltins x = some u) (r : RelV v u) (hn : x ≠ "__name__" := by decide) (hd : (x == ("__debug__" : Str)) = false := by decide) : PE X (.Name x pos) (tC v) :=
  fun _ _ _ H _ I h => ld_blt I hg hm hv ⟨v, H, I, r, h⟩ hn hd

/-! ### arithmetic -/
variable {a b : Expr} {ta tb : TE} {pos : Pos}

/-! ### comparisons -/
noncomputable def PC (X : Cx) (op : CmpOp) (a b : Expr) (t : TE) : Prop :=
  ∀ (pins : List (Addr × Obj)) (s : Shared) (σ : St) (H : Hp) (Q : VK), Inv X pins σ H s → t σ H Q →
    wpAny (model X.prog X.w) X.A (eval a X.env) (fun v s₁ => wpAny (model X.prog X.w) X.A (eval b X.env) (fun u s₂ => wpAny (model X.prog X.w) X.A (compareOp op v u) (EP X pins σ Q) X.xe s₂) X.xe s₁) X.xe s
theorem nobehind (b : Expr) {op : CmpOp} (h : op ≠ .In) (h2 : op ≠ .NotIn) : behindInMarks op b = false := by
  have e1 : (op == CmpOp.In) = false := by cases op <;> first | rfl | exact absurd rfl h
  have e2 : (op == CmpOp.NotIn) = false := by cases op <;> first | rfl | exact absurd rfl h2
  cases b <;> simp [behindInMarks, e1, e2]
/-- a comparison as a value, as a test -/
noncomputable def tB (t : TE) : TT := fun σ H Q => t σ H fun x H1 => ∃ c, x = .bl c ∧ Q c H1
theorem pt_cmp {op : CmpOp} {t : TE} (h : PC X op a b t) (h1 : behindInMarks op b = false := by first | exact nobehind _ (by decide) (by decide) | rfl) : PT X (.Compare a [op] [b] pos) (tB t) := by
  intro pins s σ H Q I hw
  refine wpAny_isTrue_Compare1 (thn (h pins s σ H _ I hw) fun v s1 h1 => thn h1 fun u s2 h2 => thn h2 fun c s3 ⟨x, H1, I1, r1, q1⟩ => ?_) h1
  obtain ⟨d, rfl, q⟩ := q1
  cases r1
  exact wpAny_truthy_bool ⟨H1, I1, q⟩
/-- an expression whose value is a bool, as a test -/
theorem pt_val {e : Expr} {t : TE} (h : PE X e t) (he : ∀ whole, isTrue e X.env whole = (do let v ← whole; standAt e.pos; holding [v] (truthy v)) := by intro _; rfl) : PT X e (tB t) := by
  intro pins s σ H Q I hw
  refine isTrue_plain (thn (h pins s σ H _ I hw) fun v s1 ⟨x, H1, I1, r1, q1⟩ => ?_) (he _)
  obtain ⟨d, rfl, q⟩ := q1
  cases r1
  exact wpAny_truthy_bool ⟨H1, I1, q⟩

/-! ### and, or, not -/
variable {tA tB' : TT} {rest : List Expr}
noncomputable def tAnd (t u : TT) : TT := fun σ H Q => t σ H fun c H1 => if c = true then u σ H1 Q else Q false H1
noncomputable def tOr (t u : TT) : TT := fun σ H Q => t σ H fun c H1 => if c = true then Q true H1 else u σ H1 Q
noncomputable def tNot (t : TT) : TT := fun σ H Q => t σ H fun c H1 => Q (!c) H1
theorem pw_and1 (ha : PT X a tA) : PW X (.BoolOp .And [a] pos) tA := by
  intro wh pins s σ H Q I h
  refine isTrue_and (thn (ha pins s σ H Q I h) fun c s1 e => ?_)
  cases c with
  | true => exact isTrue_and_nil e
  | false => exact e
theorem pw_or1 (ha : PT X a tA) : PW X (.BoolOp .Or [a] pos) tA := by
  intro wh pins s σ H Q I h
  refine isTrue_or (thn (ha pins s σ H Q I h) fun c s1 e => ?_)
  cases c with
  | false => exact isTrue_or_nil e
  | true => exact e
theorem pw_and (ha : PT X a tA) (hb : PW X (.BoolOp .And (b :: rest) pos) tB') : PW X (.BoolOp .And (a :: b :: rest) pos) (tAnd tA tB') := by
  intro wh pins s σ H Q I h
  refine isTrue_and (thn (ha pins s σ H _ I h) fun c s1 ⟨H1, I1, q1⟩ => ?_)
  cases c with
  | true => exact hb wh pins s1 σ H1 Q I1 q1
  | false => exact ⟨H1, I1, q1⟩
theorem pw_or (ha : PT X a tA) (hb : PW X (.BoolOp .Or (b :: rest) pos) tB') : PW X (.BoolOp .Or (a :: b :: rest) pos) (tOr tA tB') := by
  intro wh pins s σ H Q I h
  refine isTrue_or (thn (ha pins s σ H _ I h) fun c s1 ⟨H1, I1, q1⟩ => ?_)
  cases c with
  | true => exact ⟨H1, I1, q1⟩
  | false => exact hb wh pins s1 σ H1 Q I1 q1
theorem pt_not (ha : PT X a tA) : PT X (.UnaryOp .Not a pos) (tNot tA) := by
  intro pins s σ H Q I h
  exact isTrue_not (ha pins s σ H (fun c H1 => Q (!c) H1) I h)
/-- .. as values (bools) -/
noncomputable def tAndV (ta tb : TE) : TE := fun σ H Q => ta σ H fun x H1 => ∃ c, x = .bl c ∧ if c = true then tb σ H1 Q else Q (.bl false) H1
noncomputable def tOrV (ta tb : TE) : TE := fun σ H Q => ta σ H fun x H1 => ∃ c, x = .bl c ∧ if c = true then Q (.bl true) H1 else tb σ H1 Q
noncomputable def tNotV (ta : TE) : TE := fun σ H Q => ta σ H fun x H1 => ∃ c, x = .bl c ∧ Q (.bl (!c)) H1
theorem pe_one {op} {t : TE} (h : PE X a t) : PE X (.BoolOp op [a] pos) t := fun pins s σ H Q I hw => BoolOp_one (h pins s σ H Q I hw)
theorem pe_and (ha : PE X a ta) (hb : PE X (.BoolOp .And (b :: rest) pos) tb) : PE X (.BoolOp .And (a :: b :: rest) pos) (tAndV ta tb) := by
  intro pins s σ H Q I h
  refine BoolOp_and (thn (ha pins s σ H _ I h) fun v s1 ⟨x, H1, I1, r1, q1⟩ => ?_)
  obtain ⟨c, rfl, q1⟩ := q1
  cases r1
  refine wpAny_truthy_bool ?_
  cases c with
  | true => exact hb pins s1 σ H1 Q I1 q1
  | false => exact ⟨.bl false, H1, I1, rfl, q1⟩
theorem pe_or (ha : PE X a ta) (hb : PE X (.BoolOp .Or (b :: rest) pos) tb) : PE X (.BoolOp .Or (a :: b :: rest) pos) (tOrV ta tb) := by
  intro pins s σ H Q I h
  refine BoolOp_or (thn (ha pins s σ H _ I h) fun v s1 ⟨x, H1, I1, r1, q1⟩ => ?_)
  obtain ⟨c, rfl, q1⟩ := q1
  cases r1
  refine wpAny_truthy_bool ?_
  cases c with
  | false => exact hb pins s1 σ H1 Q I1 q1
  | true => exact ⟨.bl true, H1, I1, rfl, q1⟩
theorem pe_not (ha : PE X a ta) : PE X (.UnaryOp .Not a pos) (tNotV ta) := by
  intro pins s σ H Q I h
  refine UnaryOp_ (thn (ha pins s σ H _ I h) fun v s1 ⟨x, H1, I1, r1, q1⟩ => ?_)
  obtain ⟨c, rfl, q1⟩ := q1
  cases r1
  exact not_of (wpAny_truthy_bool ⟨.bl (!c), H1, I1, rfl, q1⟩)
end
end L2

namespace L2
open PySem PySem.Spec PyProof.Rows

/-! ### a list, a tuple that is read: tracked, frozen, or an object of the module -/
noncomputable def SqL (K : PySem.W.Frag) (H : Hp) (a : Addr) (xs : List V) : Prop :=
  Rd H a (.lst xs) ∨
    ∃ (o : Obj) (its : Array Value) (n : Nat), K.lookup a = some o ∧ o.cls = .type "list" ∧ o.dict = none ∧ o.data = .seq its n ∧ its.size ≤ sizeLine ∧ Vals xs its.toList
noncomputable def SqT (K : PySem.W.Frag) (H : Hp) (a : Addr) (xs : List V) : Prop :=
  Rd H a (.tup xs) ∨
    ∃ (o : Obj) (its : Array Value) (n : Nat), K.lookup a = some o ∧ o.cls = .type "tuple" ∧ o.data = .seq its n ∧ its.size ≤ sizeLine ∧ Vals xs its.toList
noncomputable def absV : Value → Option V
  | .none => some .non
  | .bool b => some (.bl b)
  | .int i _ => some (.int i)
  | .str x _ => some (.str x)
  | .bytes b _ => some (.byt b)
  | .float b _ => some (.flt b)
  | .ref a => some (.ref a)
  | .type n => some (.ty n)
  | _ => none
theorem RelV.abs {x : V} {u : Value} (r : RelV x u) : absV u = some x := by
  cases x with
  | non => cases r; rfl
  | bl _ => cases r; rfl
  | int _ => obtain ⟨t, rfl⟩ := r; rfl
  | str _ => obtain ⟨t, rfl⟩ := r; rfl
  | byt _ => obtain ⟨t, rfl⟩ := r; rfl
  | flt _ => obtain ⟨t, rfl⟩ := r; rfl
  | ref _ => cases r; rfl
  | ty _ => cases r; rfl
theorem RelV.inj {x y : V} {u : Value} (r : RelV x u) (q : RelV y u) : x = y := Option.some.inj (r.abs.symm.trans q.abs)
theorem Vals.inj : ∀ {xs ys : List V} {us : List Value}, Vals xs us → Vals ys us → xs = ys
  | _, _, _, .nil, .nil => rfl
  | _, _, _, .cons r t, .cons r' t' => by rw [r.inj r', Vals.inj t t']
section
variable {X : Cx} {pins : List (Addr × Obj)} {σ : St} {H : Hp} {s : Shared} {a : Addr} {xs ys : List V}
theorem SqL.of {K : PySem.W.Frag} (h : H a = some (.lst xs)) : SqL K H a xs := .inl (.inl h)
theorem SqT.of {K : PySem.W.Frag} (h : H a = some (.tup xs)) : SqT K H a xs := .inl (.inl h)
theorem Inv.list (I : Inv X pins σ H s) (h : SqL X.K H a xs) : ∃ its : List Value, Vals xs its ∧ PlainL s.heap a its.toArray ∧ xs.length ≤ sizeLine := by
  rcases h with h | ⟨o, its, n, hk, hc, hd, hs, hz, r⟩
  · obtain ⟨z, its, n, r, e⟩ := h.ok I.hok
    exact ⟨its, r, ⟨_, n, e, rfl, rfl, rfl⟩, z⟩
  · refine ⟨its.toList, r, ⟨o, n, I.kIn a o hk, hc, hd, by simpa using hs⟩, ?_⟩
    have e := r.length
    simp only [Array.length_toList] at e
    omega
theorem Inv.tuple (I : Inv X pins σ H s) (h : SqT X.K H a xs) : ∃ its : List Value, Vals xs its ∧ IsTup s.heap a its.toArray ∧ xs.length ≤ sizeLine := by
  rcases h with h | ⟨o, its, n, hk, hc, hs, hz, r⟩
  · obtain ⟨z, its, r, p⟩ := h.ok I.hok
    exact ⟨its, r, p, z⟩
  · refine ⟨its.toList, r, ⟨o, I.kIn a o hk, hc, n, by simpa using hs⟩, ?_⟩
    have e := r.length
    simp only [Array.length_toList] at e
    omega
theorem Inv.list_inj (I : Inv X pins σ H s) (h : SqL X.K H a xs) (h' : SqL X.K H a ys) : xs = ys := by
  obtain ⟨its, r, ⟨o, n, e, _, _, d⟩, _⟩ := I.list h
  obtain ⟨its', r', ⟨o', n', e', _, _, d'⟩, _⟩ := I.list h'
  rw [e] at e'; cases e'
  rw [d] at d'
  injection d' with d1 _
  have : its = its' := by simpa using congrArg Array.toList d1
  subst this
  exact r.inj r'
theorem Inv.tuple_inj (I : Inv X pins σ H s) (h : SqT X.K H a xs) (h' : SqT X.K H a ys) : xs = ys := by
  obtain ⟨its, r, ⟨o, e, _, n, d⟩, _⟩ := I.tuple h
  obtain ⟨its', r', ⟨o', e', _, n', d'⟩, _⟩ := I.tuple h'
  rw [e] at e'; cases e'
  rw [d] at d'
  injection d' with d1 _
  have : its = its' := by simpa using congrArg Array.toList d1
  subst this
  exact r.inj r'
end

/-! ### another wish about exceptions -/
noncomputable abbrev Cx.wish (X : Cx) (E : Value → Shared → Prop) : Cx := { X with xe := E }
/-- no exception leaves -/
noncomputable abbrev Cx.nox (X : Cx) : Cx := X.wish fun _ _ => False
theorem Cx.Ok.wish {X : Cx} (ok : X.Ok) (E : Value → Shared → Prop) : (X.wish E).Ok :=
  ⟨ok.mod, ok.kind, ok.glob, ok.blt, ok.above, ok.inj, ok.has, ok.cab, ok.hd, ok.frames, ok.stk, ok.exf, ok.bs, ok.bsz, ok.noex, ok.exfs, ok.funs, ok.frf⟩
theorem Cx.Ok.unwish {X : Cx} {E : Value → Shared → Prop} (ok : (X.wish E).Ok) : X.Ok :=
  ⟨ok.mod, ok.kind, ok.glob, ok.blt, ok.above, ok.inj, ok.has, ok.cab, ok.hd, ok.frames, ok.stk, ok.exf, ok.bs, ok.bsz, ok.noex, ok.exfs, ok.funs, ok.frf⟩
section
variable {X : Cx} {pins : List (Addr × Obj)} {σ : St} {H : Hp} {s : Shared} {E : Value → Shared → Prop}
theorem Inv.wish (I : Inv X pins σ H s) (E : Value → Shared → Prop) : Inv (X.wish E) pins σ H s := ⟨I.ok.wish E, I.os, I.bare, I.base, I.loc, I.cell, I.free, I.freeC, I.pin, I.hok, I.len⟩
theorem Inv.unwish (I : Inv (X.wish E) pins σ H s) : Inv X pins σ H s := ⟨I.ok.unwish, I.os, I.bare, I.base, I.loc, I.cell, I.free, I.freeC, I.pin, I.hok, I.len⟩
theorem SP.unwish {D : Ends} {f : Flow} {s' : Shared} (h : SP (X.wish E) pins D f s') : SP X pins D f s' := by
  cases f with
  | next => obtain ⟨σ', H', I, q⟩ := h; exact ⟨σ', H', I.unwish, q⟩
  | brk => obtain ⟨σ', H', I, q⟩ := h; exact ⟨σ', H', I.unwish, q⟩
  | cont => obtain ⟨σ', H', I, q⟩ := h; exact ⟨σ', H', I.unwish, q⟩
  | ret u => obtain ⟨v, σ', H', I, r, q⟩ := h; exact ⟨v, σ', H', I.unwish, r, q⟩
theorem PSs.nox {st : List Stmt} {t : TS} (h : PSs X.nox st t) : PSs X st t := fun pins s σ H D I hw =>
  wpAny_mono (h pins s σ H D (I.wish _) hw) (fun _ _ q => q.unwish) fun _ _ z => False.elim z
end

/-! ### blocks and small statements -/
section
variable {X : Cx} {st : Stmt} {rest : List Stmt} {t u : TS} {e : Expr} {te : TE} {pos : Pos}
noncomputable def tNext : TS := fun D σ H => D.nx σ H
noncomputable def tSeq (t u : TS) : TS := fun D σ H => t { D with nx := u D } σ H
theorem pss_nil : PSs X [] tNext := fun _ _ σ H _ I h => wpAny_execs_nil ⟨σ, H, I, h⟩
theorem pss_cons (h1 : PS X st t) (h2 : PSs X rest u) : PSs X (st :: rest) (tSeq t u) := by
  intro pins s σ H D I h
  refine wpAny_execs_cons (thn (h1 pins s σ H { D with nx := u D } I h) fun f s1 q => ?_)
  cases f with
  | next =>
    obtain ⟨σ', H', I', q⟩ := q
    exact h2 pins s1 σ' H' D I' q
  | ret v => exact q
  | brk => exact q
  | cont => exact q
theorem pss_one (h1 : PS X st t) : PSs X [st] t := by
  intro pins s σ H D I h
  refine wpAny_execs_cons (thn (h1 pins s σ H D I h) fun f s1 q => ?_)
  cases f with
  | next => exact wpAny_execs_nil q
  | ret v => exact q
  | brk => exact q
  | cont => exact q
theorem ps_pass : PS X (.Pass pos) tNext := fun _ _ σ H _ I h => wpAny_Pass ⟨σ, H, I, h⟩
/-- in a def's body nothing is shown -/
theorem Inv.quiet {pins : List (Addr × Obj)} {σ : St} {H : Hp} {s : Shared} (I : Inv X pins σ H s) : interactive X.env = false := by simp [interactive, I.ok.kind]
/-- an expression whose value is dropped -/
noncomputable def tDrop (te : TE) : TS := fun D σ H => te σ H fun _ H1 => D.nx σ H1
theorem ps_expr (he : PE X e te) (hs : swapsWith e none pos.line X.env = pure false := by rfl) : PS X (.Expr e pos) (tDrop te) := by
  intro pins s σ H D I h
  exact wpAny_Expr_any (thn (he pins s σ H _ I h) fun v s1 ⟨x, H1, I1, r1, q1⟩ => ⟨σ, H1, I1, q1⟩) I.quiet hs
noncomputable def tRet (te : TE) : TS := fun D σ H => te σ H D.rt
theorem ps_ret (he : PE X e te) : PS X (.Return (some e) pos) (tRet te) := by
  intro pins s σ H D I h
  exact wpAny_Return_some (thn (he pins s σ H _ I h) fun v s1 ⟨x, H1, I1, r1, q1⟩ => ⟨x, σ, H1, I1, r1, q1⟩)
noncomputable def tRetN : TS := fun D _ H => D.rt .non H
theorem ps_retN : PS X (.Return none pos) tRetN := fun _ _ σ H _ I h => wpAny_Return_none ⟨.non, σ, H, I, rfl, h⟩
noncomputable def tIfS (c : TT) (t u : TS) : TS := fun D σ H => c σ H fun b H1 => if b = true then t D σ H1 else u D σ H1
theorem ps_if {c : Expr} {a b : List Stmt} {tc : TT} (hc : PT X c tc) (ha : PSs X a t) (hb : PSs X b u) : PS X (.If c a b pos) (tIfS tc t u) := by
  intro pins s σ H D I h
  refine wpAny_If (thn (hc pins s σ H _ I h) fun d s1 ⟨H1, I1, q1⟩ => ?_)
  cases d with
  | true => exact ha pins s1 σ H1 D I1 q1
  | false => exact hb pins s1 σ H1 D I1 q1
end

/-! ### targets -/
noncomputable abbrev TG := V → St → Hp → (St → Hp → Prop) → Prop
noncomputable def PG (X : Cx) (target : Expr) (t : TG) : Prop :=
  ∀ (pins : List (Addr × Obj)) (s : Shared) (σ : St) (H : Hp) (v : V) (u : Value) (Q : St → Hp → Prop), Inv X pins σ H s → RelV v u → t v σ H Q →
    wpAny (model X.prog X.w) X.A (assign target X.env u) (fun _ s' => ∃ σ' H', Inv X pins σ' H' s' ∧ Q σ' H') X.xe s
/-- o[i] = v, by values -/
noncomputable abbrev TSet := V → V → V → Hp → (Hp → Prop) → Prop
noncomputable def PSet (X : Cx) (t : TSet) : Prop :=
  ∀ (pins : List (Addr × Obj)) (s : Shared) (σ : St) (H : Hp) (o i v : V) (ov iv u : Value) (Q : Hp → Prop), Inv X pins σ H s → RelV o ov → RelV i iv → RelV v u → t o i v H Q →
    wpAny (model X.prog X.w) X.A (setItem ov iv u) (fun _ s' => ∃ H', Inv X pins σ H' s' ∧ Q H') X.xe s
section
variable {X : Cx} {pos : Pos}
noncomputable def gName (i : Nat) : TG := fun v σ H Q => Q (σ.set i (some v)) H
theorem pg_name {i : Nat} {x : Str} (hN : X.N.Nodup) (hi : X.N[i]? = some x) (hx : Loc X.env.scope x) (hf : X.fn x = true ∨ X.env.scope.names.lookup x = some .local := by first | exact .inl rfl | exact .inr rfl | assumption) : PG X (.Name x pos) (gName i) := by
  intro pins s σ H v u Q I r h
  exact wpAny_assign_Name (store_ok I hN hi hx r (fun s' I' => ⟨_, H, I', h⟩) hf)
/-- o[i] = .. -/
noncomputable def gSub (to ti : TE) (t : TSet) : TG := fun v σ H Q => to σ H fun o H1 => ti σ H1 fun i H2 => t o i v H2 fun H3 => Q σ H3
theorem pg_sub {o i : Expr} {to ti : TE} {t : TSet} (ho : PE X o to) (hi : PE X i ti) (hs : PSet X t)
    (ha : ∀ v, assign (.Subscript o i pos) X.env v = (do
      let ov ← holding [v] (eval o X.env)
      let iv ← holding [v, ov] (eval i X.env)
      standAt pos
      holding [v, ov, iv] (setItem ov iv v)
      release [v, ov, iv] []) := by intro _; rfl) : PG X (.Subscript o i pos) (gSub to ti t) := by
  intro pins s σ H v u Q I r h
  rw [ha]
  refine wpAny_bind (wpAny_holding (thn (ho pins s σ H _ I h) fun ov s1 ⟨x, H1, I1, r1, q1⟩ => ?_))
  refine wpAny_bind (wpAny_holding (thn (hi pins s1 σ H1 _ I1 q1) fun iv s2 ⟨y, H2, I2, r2, q2⟩ => ?_))
  refine wpAny_bind (wpAny_standAt (wpAny_bind (wpAny_holding (thn (hs pins s2 σ H2 x y v ov iv u _ I2 r1 r2 r q2) fun _ s3 ⟨H3, I3, q3⟩ => ?_))))
  exact wpAny_release ⟨σ, H3, I3, q3⟩
/-- target = value -/
noncomputable def tAsg (te : TE) (g : TG) : TS := fun D σ H => te σ H fun x H1 => g x σ H1 D.nx
theorem ps_asg {tg e : Expr} {te : TE} {g : TG} (he : PE X e te) (hg : PG X tg g) (hs : swapsWithSole [tg] e pos.line X.env = pure false := by rfl) (hw : swappedStores [tg] e X.env = pure none := by rfl)
    (h1 : (assignEach [tg] X.env).map (·.2) = [assign tg X.env] := by rfl) : PS X (.Assign [tg] e pos) (tAsg te g) := by
  intro pins s σ H D I h
  refine wpAny_Assign_stores (thn (he pins s σ H _ I h) fun v s1 ⟨x, H1, I1, r1, q1⟩ => ?_) hs hw
  rw [h1]
  exact thn (hg pins s1 σ H1 x v _ I1 r1 q1) fun _ s2 q => q
/-- name = value -/
theorem ps_set {i : Nat} {x : Str} {e : Expr} {te : TE} {pos' : Pos} (hN : X.N.Nodup) (hi : X.N[i]? = some x) (hx : Loc X.env.scope x) (he : PE X e te) (hs : swapsWith e (some (.Name x pos')) pos.line X.env = pure false := by rfl) (hf : X.fn x = true ∨ X.env.scope.names.lookup x = some .local := by first | exact .inl rfl | exact .inr rfl | assumption) :
    PS X (.Assign [.Name x pos'] e pos) (tAsg te (gName i)) := by
  intro pins s σ H D I h
  refine wpAny_Assign_Name (thn (he pins s σ H _ I h) fun v s1 ⟨y, H1, I1, r1, q1⟩ => ?_) hs
  exact store_ok I1 hN hi hx r1 (fun s2 I2 => ⟨_, H1, I2, q1⟩) hf
end

/-! ### while -/
section
variable {X : Cx} {pos : Pos}
end

/-! ### what a loop or a comprehension walks -/
/-- at turn i: it yields x (the heap may grow), or it stops -/
structure It where
  go : Nat → Hp → Prop
  yld : Nat → Hp → V → Hp → Prop
  stop : Nat → Hp → Prop
/-- the iterator's own objects may turn: they are not the frame's, not pinned, younger than the entry (or a comprehension's own) -/
noncomputable def FpOk (X : Cx) (pins : List (Addr × Obj)) (H : Hp) (b : Addr) : Prop :=
  H b = none ∧ b ≠ X.env.locals ∧ b ∉ X.fs ∧ (b ∈ X.ex ∨ X.s₀.heap.objs.size ≤ b) ∧ (∀ x c, X.env.cells.lookup x = some c → c ≠ b) ∧ ∀ p ∈ X.pn ++ pins, p.1 ≠ b
theorem Inv.fpOk {X : Cx} {pins : List (Addr × Obj)} {σ : St} {H H' : Hp} {s : Shared} {b : Addr} (I : Inv X pins σ H s) (hb : s.heap.objs.size ≤ b) (hn : H' b = none) : FpOk X pins H' b := by
  refine ⟨hn, Nat.ne_of_gt (Nat.lt_of_lt_of_le I.lt hb), I.nofs hb, .inr (Nat.le_trans I.sz hb), fun x c e z => ?_, fun p hp z => ?_⟩
  · obtain ⟨v, q⟩ := I.cell x c e
    exact absurd (Nat.lt_of_lt_of_le q.lt (by rw [z]; exact hb)) (Nat.lt_irrefl _)
  · exact absurd (Nat.lt_of_lt_of_le (Heap.lt_size (I.pin p hp).1) (by rw [z]; exact hb)) (Nat.lt_irrefl _)
structure Turn (P : Program) (w : World) (K : PySem.W.Frag) (tg : Expr) (J : It) (fp : List Addr) (it : Addr) (tn : Nat → Heap → Prop) : Prop where
  mem : it ∈ fp
  obj : ∀ i h, tn i h → ∀ b ∈ fp, ∃ o, h.get? b = some o ∧ ∀ v, o.data ≠ .cell v
  keep : ∀ i h h', tn i h → (∀ b ∈ fp, ∀ o, h.get? b = some o → h'.get? b = some o) → tn i h'
  item : ∀ (X : Cx), X.prog = P → X.w = w → X.K = K → X.calm = true → ∀ (i : Nat) (pins : List (Addr × Obj)) (s : Shared) (σ : St) (H : Hp) (E : Value → Shared → Prop), Inv X pins σ H s → (∀ b ∈ fp, FpOk X pins H b) → tn i s.heap → J.go i H →
    wpAny (model P w) X.A (pyNext (.ref it)) (fun r s1 => ∃ u, r = some u ∧
      wpAny (model P w) X.A (letOwnedTupleGo tg (.ref it) u) (fun _ s2 => ∃ x H', Inv X pins σ H' s2 ∧ RelV x u ∧ J.yld i H x H' ∧ tn (i + 1) s2.heap ∧ ∀ b ∈ fp, H' b = none) E s1) E s
  done : ∀ (X : Cx), X.prog = P → X.w = w → X.K = K → X.calm = true → ∀ (i : Nat) (pins : List (Addr × Obj)) (s : Shared) (σ : St) (H : Hp) (E : Value → Shared → Prop), Inv X pins σ H s → (∀ b ∈ fp, FpOk X pins H b) → tn i s.heap → J.stop i H →
    wpAny (model P w) X.A (pyNext (.ref it)) (fun r s1 => r = none ∧ Inv X pins σ H s1) E s
  self : ∀ (A : Around) (i : Nat) (s : Shared) (Q : Value → Shared → Prop) (E : Value → Shared → Prop), tn i s.heap → Q (.ref it) s → wpAny (model P w) A (pyIter (.ref it)) Q E s
noncomputable abbrev TI := St → Hp → (It → Hp → Prop) → Prop
/-- an iterator has come -/
noncomputable def PIE (X : Cx) (pins : List (Addr × Obj)) (σ : St) (tg : Expr) (R : It → Hp → Prop) (itv : Value) (s2 : Shared) : Prop :=
  ∃ (it : Addr) (fp : List Addr) (tn : Nat → Heap → Prop) (J : It) (H' : Hp), itv = .ref it ∧ Inv X pins σ H' s2 ∧ Turn X.prog X.w X.K tg J fp it tn ∧ tn 0 s2.heap ∧ (∀ b ∈ fp, FpOk X pins H' b) ∧ R J H'
noncomputable def PI (X : Cx) (tg iter : Expr) (wi : TI) : Prop :=
  ∀ (pins : List (Addr × Obj)) (s : Shared) (σ : St) (H : Hp) (R : It → Hp → Prop), Inv X pins σ H s → wi σ H R →
    wpAny (model X.prog X.w) X.A (eval iter X.env) (fun v s1 => wpAny (model X.prog X.w) X.A (pyIter v) (PIE X pins σ tg R) X.xe s1) X.xe s

/-- the step ahead of the store is nothing for an iterator that keeps no tuple -/
theorem go_of {M : Model} {A : Around} {E : Value → Shared → Prop} {s : Shared} {tg : Expr} {it : Addr} {u : Value} {o : Obj} {n : String} {vs : Array Value} {Q : Unit → Shared → Prop} (ho : s.heap.get? it = some o) (hc : o.cls = .type n) (hd : o.data = .fields vs)
    (hn : ["enumerate", "zip", "dict_itemiterator", "dict_reverseitemiterator", "odict_iterator", "itertools.zip_longest", "itertools.pairwise"].contains n = false) (hQ : Q () s) : wpAny M A (letOwnedTupleGo tg (.ref it) u) Q E s := by
  unfold letOwnedTupleGo
  cases tg <;> first
    | exact wpAny_pure hQ
    | (cases u <;> first
        | exact wpAny_pure hQ
        | (refine wpAny_bind (wpAny_load ho ?_)
           rw [hc, hd]
           show wpAny M A (if (["enumerate", "zip", "dict_itemiterator", "dict_reverseitemiterator", "odict_iterator", "itertools.zip_longest", "itertools.pairwise"].contains n && vs[0]? == some (rawInt _)) = true then _ else _) Q E s
           rw [if_neg (by intro h; rw [hn, Bool.false_and] at h; cases h)]
           exact wpAny_pure hQ))

/-- the list at a, as it stands at each turn (a loop may append to it) -/
noncomputable def Itl (K : PySem.W.Frag) (a : Addr) : It :=
  ⟨fun i H => ∃ xs x, SqL K H a xs ∧ xs[i]? = some x, fun i H x H' => H' = H ∧ ∀ xs, SqL K H a xs → xs[i]? = some x, fun i H => ∃ xs, SqL K H a xs ∧ xs.length ≤ i⟩
noncomputable def Itt (K : PySem.W.Frag) (a : Addr) : It :=
  ⟨fun i H => ∃ xs x, SqT K H a xs ∧ xs[i]? = some x, fun i H x H' => H' = H ∧ ∀ xs, SqT K H a xs → xs[i]? = some x, fun i H => ∃ xs, SqT K H a xs ∧ xs.length ≤ i⟩
/-- lo, lo + 1, .. (n of them) -/
noncomputable def Itr (lo : Int) (n : Nat) : It := ⟨fun i _ => i < n, fun i H x H' => H' = H ∧ x = .int (lo + i), fun i _ => n ≤ i⟩
theorem turn_list {P : Program} {w : World} {K : PySem.W.Frag} {tg : Expr} (a it : Addr) : Turn P w K tg (Itl K a) [it] it (fun i h => h.IsListIter it a i) where
  mem := by simp
  obj := fun i h st b hb => by
    have e : b = it := by simpa using hb
    subst e
    obtain ⟨o, e, c, d⟩ := st
    exact ⟨o, e, fun v z => by rw [d] at z; cases z⟩
  keep := fun i h h' st k => st.at fun o e => k it (by simp) o e
  item := by
    intro X hP hw hK hc i pins s σ H E I hf st hg
    subst hP hw hK
    obtain ⟨xs, x, hq, hx⟩ := hg
    obtain ⟨its, rv, p, hz⟩ := I.list hq
    obtain ⟨u, hu, ru⟩ := rv.get hx
    obtain ⟨f0, f1, f2, f3, f4, f5⟩ := hf it (by simp)
    refine wpAny_pyNext_list_item st p.isList (x := u) (by simpa using hu) fun h' st' sb => ?_
    have I1 : Inv X pins σ H { s with heap := h' } := I.turned (t' := s.toks) (fun b o hb e => (sb.2 b hb).trans e) f0 f1 f3 f4 f5
    obtain ⟨o, e, c, d⟩ := id st'
    exact ⟨u, rfl, go_of (s := { s with heap := h' }) e c d (by decide) ⟨x, H, I1, ru, ⟨rfl, fun ys hy => by rw [I.list_inj hy hq]; exact hx⟩, st', fun b hb => (hf b hb).1⟩⟩
  done := by
    intro X hP hw hK hc i pins s σ H E I hf st hg
    subst hP hw hK
    obtain ⟨xs, hq, hx⟩ := hg
    obtain ⟨its, rv, p, hz⟩ := I.list hq
    obtain ⟨f0, f1, f2, f3, f4, f5⟩ := hf it (by simp)
    have hl := rv.length
    exact wpAny_pyNext_list_end (I.ok.hd hc) st p.isList (by simp; omega) fun h' eb => ⟨rfl, I.turned (t' := s.toks) (fun b o hb e => eb b o hb e) f0 f1 f3 f4 f5⟩
  self := fun _ _ _ _ _ st h => wpAny_pyIter_listiter st h
theorem turn_tuple {P : Program} {w : World} {K : PySem.W.Frag} {tg : Expr} (a it : Addr) : Turn P w K tg (Itt K a) [it] it (fun i h => h.IsTupleIter it a i) where
  mem := by simp
  obj := fun i h st b hb => by
    have e : b = it := by simpa using hb
    subst e
    obtain ⟨o, e, c, d⟩ := st
    exact ⟨o, e, fun v z => by rw [d] at z; cases z⟩
  keep := fun i h h' st k => st.at fun o e => k it (by simp) o e
  item := by
    intro X hP hw hK hc i pins s σ H E I hf st hg
    subst hP hw hK
    obtain ⟨xs, x, hq, hx⟩ := hg
    obtain ⟨its, rv, p, hz⟩ := I.tuple hq
    obtain ⟨u, hu, ru⟩ := rv.get hx
    obtain ⟨f0, f1, f2, f3, f4, f5⟩ := hf it (by simp)
    refine wpAny_pyNext_tuple_item st (show s.heap.IsTuple a its.toArray from p) (x := u) (by simpa using hu) fun h' st' sb => ?_
    have I1 : Inv X pins σ H { s with heap := h' } := I.turned (t' := s.toks) (fun b o hb e => (sb.2 b hb).trans e) f0 f1 f3 f4 f5
    obtain ⟨o, e, c, d⟩ := id st'
    exact ⟨u, rfl, go_of (s := { s with heap := h' }) e c d (by decide) ⟨x, H, I1, ru, ⟨rfl, fun ys hy => by rw [I.tuple_inj hy hq]; exact hx⟩, st', fun b hb => (hf b hb).1⟩⟩
  done := by
    intro X hP hw hK hc i pins s σ H E I hf st hg
    subst hP hw hK
    obtain ⟨xs, hq, hx⟩ := hg
    obtain ⟨its, rv, p, hz⟩ := I.tuple hq
    obtain ⟨f0, f1, f2, f3, f4, f5⟩ := hf it (by simp)
    have hl := rv.length
    exact wpAny_pyNext_tuple_end (I.ok.hd hc) st (show s.heap.IsTuple a its.toArray from p) (by simp; omega) fun h' eb => ⟨rfl, I.turned (t' := s.toks) (fun b o hb e => eb b o hb e) f0 f1 f3 f4 f5⟩
  self := fun _ _ _ _ _ st h => wpAny_pyIter_tupleiter st h
theorem turn_range {P : Program} {w : World} {K : PySem.W.Frag} {tg : Expr} (it : Addr) (lo : Int) (n : Nat) : Turn P w K tg (Itr lo n) [it] it (fun i h => IsRangeIter h it (lo + (i : Nat) * 1) ((n : Int) - (i : Nat)) 1) where
  mem := by simp
  obj := fun i h st b hb => by
    have e : b = it := by simpa using hb
    subst e
    exact ⟨_, st, fun v z => by
      have z' : Data.fields _ = Data.cell v := z
      cases z'⟩
  keep := fun i h h' st k => k it (by simp) _ st
  item := by
    intro X hP hw hK hc i pins s σ H E I hf st hg
    subst hP hw hK
    obtain ⟨f0, f1, f2, f3, f4, f5⟩ := hf it (by simp)
    have W := Walks.range (prog := X.prog) (w := X.w) (I.ok.hd hc) it lo 1 n
    refine W.item i s _ _ hg st fun v h' tk hv st' kk => ?_
    obtain ⟨t, rfl⟩ := hv
    have I1 : Inv X pins σ H { s with heap := h', toks := tk } := I.turned (fun b o hb e => kk b o (by simpa using hb) e) f0 f1 f3 f4 f5
    refine ⟨_, rfl, go_of (s := { s with heap := h', toks := tk }) (n := "range_iterator") st' rfl rfl (by decide) ⟨.int (lo + i), H, I1, ⟨t, ?_⟩, ⟨rfl, rfl⟩, st', fun b hb => (hf b hb).1⟩⟩
    rw [Int.mul_one]
  done := by
    intro X hP hw hK hc i pins s σ H E I hf st hg
    subst hP hw hK
    obtain ⟨f0, f1, f2, f3, f4, f5⟩ := hf it (by simp)
    exact wpAny_pyNext_range_end (I.ok.hd hc) st (by have : n ≤ i := hg; omega) fun h' eb => ⟨rfl, I.turned (t' := s.toks) (fun b o hb e => eb b o hb e) f0 f1 f3 f4 f5⟩
  self := fun _ _ _ _ _ st h => wpAny_pyIter_rangeiter st h
end L2

namespace L2
open PySem PySem.Spec PyProof.Rows
section
variable {X : Cx} {tg : Expr}
noncomputable def iList (K : PySem.W.Frag) (tl : TE) : TI := fun σ H R => tl σ H fun x H1 => ∃ a, x = .ref a ∧ (∃ xs, SqL K H1 a xs) ∧ R (Itl K a) H1
noncomputable def iTup (K : PySem.W.Frag) (tl : TE) : TI := fun σ H R => tl σ H fun x H1 => ∃ a, x = .ref a ∧ (∃ xs, SqT K H1 a xs) ∧ R (Itt K a) H1
theorem pi_list {l : Expr} {tl : TE} (hl : PE X l tl) : PI X tg l (iList X.K tl) := by
  intro pins s σ H R I h
  refine thn (hl pins s σ H _ I h) fun v s1 ⟨x, H1, I1, r1, q1⟩ => ?_
  obtain ⟨a, e, ⟨xs, hq⟩, q⟩ := q1
  subst e
  cases r1
  obtain ⟨its, rv, p, hz⟩ := I1.list hq
  refine wpAny_pyIter_list p.isList ?_
  refine ⟨s1.heap.objs.size, [s1.heap.objs.size], _, _, H1, rfl, I1.kept (t' := s1.toks) fun b o e => Heap.get?_push_of_some _ e, turn_list a _, ⟨_, Heap.get?_push_size _ rfl, rfl, rfl⟩, fun b hb => ?_, q⟩
  have e : b = s1.heap.objs.size := by simpa using hb
  subst e
  exact I1.fpOk (Nat.le_refl _) (I1.hok.fresh (Nat.le_refl _))
theorem pi_tup {l : Expr} {tl : TE} (hl : PE X l tl) : PI X tg l (iTup X.K tl) := by
  intro pins s σ H R I h
  refine thn (hl pins s σ H _ I h) fun v s1 ⟨x, H1, I1, r1, q1⟩ => ?_
  obtain ⟨a, e, ⟨xs, hq⟩, q⟩ := q1
  subst e
  cases r1
  obtain ⟨its, rv, p, hz⟩ := I1.tuple hq
  refine wpAny_pyIter_tuple (show s1.heap.IsTuple a its.toArray from p) ?_
  refine ⟨s1.heap.objs.size, [s1.heap.objs.size], _, _, H1, rfl, I1.kept (t' := s1.toks) fun b o e => Heap.get?_push_of_some _ e, turn_tuple a _, ⟨_, Heap.get?_push_size _ rfl, rfl, rfl⟩, fun b hb => ?_, q⟩
  have e : b = s1.heap.objs.size := by simpa using hb
  subst e
  exact I1.fpOk (Nat.le_refl _) (I1.hok.fresh (Nat.le_refl _))
/-- a range object just made, walked -/
theorem range_it {pins : List (Addr × Obj)} {σ : St} {H : Hp} {s : Shared} {R : It → Hp → Prop} {E : Value → Shared → Prop} {lo hi : Int} {t u v : Tok} {tk : Nat} (I : Inv X pins σ H s) (h1 : -(2 ^ 62) ≤ lo) (h2 : lo < 2 ^ 62) (h3 : -(2 ^ 62) ≤ hi) (h4 : hi < 2 ^ 62)
    (q : R (Itr lo (hi - lo).toNat) H) : wpAny (model X.prog X.w) X.A (pyIter (.ref s.heap.objs.size)) (PIE X pins σ tg R) E { s with heap := s.heap.push { cls := .type "range", data := .fields #[.int lo t, .int hi u, .int 1 v] }, toks := tk } := by
  refine wpAny_pyIter_range (IsRange.new ..) (small_one h1 h2 h3 h4) ?_
  have I1 : Inv X pins σ H { s with heap := s.heap.push { cls := .type "range", data := .fields #[.int lo t, .int hi u, .int 1 v] }, toks := tk } := I.kept fun b o e => Heap.get?_push_of_some _ e
  refine ⟨(s.heap.push { cls := .type "range", data := .fields #[.int lo t, .int hi u, .int 1 v] }).objs.size, [(s.heap.push { cls := .type "range", data := .fields #[.int lo t, .int hi u, .int 1 v] }).objs.size], _, _, H, rfl,
    I1.kept (t' := tk) fun b o e => Heap.get?_push_of_some _ e, turn_range _ lo (hi - lo).toNat, ?_, fun b hb => ?_, q⟩
  · have e1 : lo + ((0 : Nat) : Int) * 1 = lo := by simp
    have e2 : (((hi - lo).toNat : Nat) : Int) - ((0 : Nat) : Int) = Builtin.Range.rangeSize lo hi 1 := by rw [rangeSize_one]; split <;> omega
    show IsRangeIter _ _ (lo + ((0 : Nat) : Int) * 1) ((((hi - lo).toNat : Nat) : Int) - ((0 : Nat) : Int)) 1
    rw [e1, e2]
    exact Heap.get?_push_size _ rfl
  · have e : b = (s.heap.push { cls := .type "range", data := .fields #[.int lo t, .int hi u, .int 1 v] }).objs.size := by simpa using hb
    subst e
    exact I1.fpOk (Nat.le_refl _) (I1.hok.fresh (Nat.le_refl _))
noncomputable def iRng1 (ta : TA) : TI := fun σ H R => ta σ H fun vs H1 => ∃ j : Int, vs = [.int j] ∧ -(2 ^ 62) ≤ j ∧ j < 2 ^ 62 ∧ R (Itr 0 j.toNat) H1
noncomputable def iRng2 (ta : TA) : TI := fun σ H R => ta σ H fun vs H1 => ∃ i j : Int, vs = [.int i, .int j] ∧ (-(2 ^ 62) ≤ i ∧ i < 2 ^ 62 ∧ -(2 ^ 62) ≤ j ∧ j < 2 ^ 62) ∧ R (Itr i (j - i).toNat) H1
theorem pi_range1 {a : Expr} {ta : TA} {p pos : Pos} (hg : Gl X "range") (hm : X.mg "range" = none) (ha : PA X [a] ta) (hs : starEach [a] X.env = [(false, eval a X.env)] := by rfl) : PI X tg (.Call (.Name "range" p) [a] [] pos) (iRng1 ta) := by
  intro pins s σ H R I h
  refine Call_ (ld_blt I hg hm boot_range (PyProof.Rows.callWith_type1 (thn (ha pos pins s σ H _ I h) fun us s1 ⟨vs, H1, I1, r1, q1⟩ => ?_) hs rfl))
  obtain ⟨j, e, q1, q2, q⟩ := q1
  subst e
  cases r1 with
  | cons r rr =>
    cases rr
    obtain ⟨t, rfl⟩ := r
    exact call_range_1 (range_it I1 (by omega) (by omega) q1 q2 (by simpa using q))
theorem pi_range2 {a b : Expr} {ta : TA} {p pos : Pos} (hg : Gl X "range") (hm : X.mg "range" = none) (ha : PA X [a, b] ta) (hs : starEach [a, b] X.env = [(false, eval a X.env), (false, eval b X.env)] := by rfl) (hs2 : starEach [b] X.env = [(false, eval b X.env)] := by rfl) :
    PI X tg (.Call (.Name "range" p) [a, b] [] pos) (iRng2 ta) := by
  intro pins s σ H R I h
  refine Call_ (ld_blt I hg hm boot_range (PyProof.Rows.callWith_type1 (thn (ha pos pins s σ H _ I h) fun us s1 ⟨vs, H1, I1, r1, q1⟩ => ?_) (by rw [hs, hs2]) (by rw [hs2]; rfl)))
  obtain ⟨i, j, e, ⟨q1, q2, q3, q4⟩, q⟩ := q1
  subst e
  cases r1 with
  | cons r rr =>
    cases rr with
    | cons r' rr =>
      cases rr
      obtain ⟨t, rfl⟩ := r
      obtain ⟨t', rfl⟩ := r'
      exact call_range_2 (range_it I1 q1 q2 q3 q4 q)

/-! ### for -/
/-- W: the invariant by the turn and a measure; N: what the body is to reach -/
noncomputable def tFor (wi : TI) (g : TG) (tb : TS) : TS := fun D σ H => wi σ H fun J H1 => ∃ W : Nat → Nat → St → Hp → Prop, (∃ m, W 0 m σ H1) ∧ ∀ i m σ H, W i m σ H →
  (J.stop i H ∧ D.nx σ H) ∨ (J.go i H ∧ ∃ N : St → Hp → Prop, (∀ σ' H', N σ' H' → ∃ m', m' < m ∧ W (i + 1) m' σ' H') ∧ ∀ x H', J.yld i H x H' → g x σ H' fun σ2 H2 => tb { D with nx := N, ct := N, bk := D.nx } σ2 H2)
/-- the records at fp as they stand -/
noncomputable def pinsAt (fp : List Addr) (h : Heap) : List (Addr × Obj) := fp.filterMap fun b => (h.get? b).map fun o => (b, o)
theorem mem_pinsAt {fp : List Addr} {h : Heap} {b : Addr} {o : Obj} (hb : b ∈ fp) (e : h.get? b = some o) : (b, o) ∈ pinsAt fp h := List.mem_filterMap.mpr ⟨b, hb, by rw [e]; rfl⟩
theorem of_pinsAt {fp : List Addr} {h : Heap} {p : Addr × Obj} (hp : p ∈ pinsAt fp h) : p.1 ∈ fp ∧ h.get? p.1 = some p.2 := by
  obtain ⟨b, hb, e⟩ := List.mem_filterMap.mp hp
  cases q : h.get? b with
  | none => rw [q] at e; cases e
  | some o =>
    rw [q] at e
    have e' : (b, o) = p := Option.some.inj e
    subst e'
    exact ⟨hb, q⟩
theorem Inv.pinned {pins : List (Addr × Obj)} {σ : St} {H : Hp} {s : Shared} {fp : List Addr} (I : Inv X pins σ H s) (hf : ∀ b ∈ fp, FpOk X pins H b) (ho : ∀ b ∈ fp, ∃ o, s.heap.get? b = some o ∧ ∀ v, o.data ≠ .cell v) : Inv X (pins ++ pinsAt fp s.heap) σ H s :=
  I.pins_of fun p hp => (List.mem_append.mp hp).elim (fun z => I.pin p (List.mem_append_right _ z)) fun z => by
    obtain ⟨hb, e⟩ := of_pinsAt z
    obtain ⟨f0, f1, f2, _⟩ := hf p.1 hb
    obtain ⟨o, e', d⟩ := ho p.1 hb
    rw [e] at e'; cases e'
    exact ⟨e, f0, f1, f2, d⟩
theorem Inv.unpinned {pins pl : List (Addr × Obj)} {σ : St} {H : Hp} {s : Shared} (I : Inv X (pins ++ pl) σ H s) : Inv X pins σ H s := I.pins_of fun p hp => I.pin p (List.mem_append_right _ (List.mem_append_left _ hp))
theorem ps_for {iter : Expr} {body : List Stmt} {wi : TI} {g : TG} {tb : TS} {pos : Pos} (hp : PassesOwn (model X.prog X.w) X.A X.env X.xe) (hc : X.calm = true) (hi : PI X tg iter wi) (hg : PG X tg g) (hb : PSs X body tb)
    (hs : ∀ x, foldedSetIterable iter X.env x = pure x := by intro _; rfl) : PS X (.For tg iter body [] pos) (tFor wi g tb) := by
  intro pins s σ H D I h
  refine wpAny_For (thn (hi pins s σ H _ I h) fun v s1 h1 => thn h1 fun itv s2 h2 => ?_) hs
  obtain ⟨it, fp, tn, J, H2, e, I2, T, st2, f2, W, ⟨m0, w0⟩, turn⟩ := h2
  subst e
  -- what stays true of the iterator's objects through the loop
  have stat : ∀ {H' : Hp}, (∀ b ∈ fp, H' b = none) → ∀ b ∈ fp, FpOk X pins H' b := fun hn b hb => ⟨hn b hb, (f2 b hb).2⟩
  refine codeAny_forLoop_any (fun n s' => ∃ i σ' H', Inv X pins σ' H' s' ∧ tn i s'.heap ∧ (∀ b ∈ fp, H' b = none) ∧ W i n σ' H') ?_ m0 ⟨0, σ, H2, I2, st2, fun b hb => (f2 b hb).1, w0⟩
  rintro n s3 ⟨i, σ3, H3, I3, st3, fr3, w3⟩
  rcases turn i n σ3 H3 w3 with ⟨stop, qn⟩ | ⟨go, N, hN, step⟩
  · refine wpAny_passesOwn hp (thn (T.done X rfl rfl rfl hc i pins s3 σ3 H3 X.xe I3 (stat fr3) st3 stop) fun r s4 ⟨hr, I4⟩ => ?_)
    subst hr
    exact wpAny_execs_nil ⟨σ3, H3, I4, qn⟩
  · refine wpAny_passesOwn hp (thn (T.item X rfl rfl rfl hc i pins s3 σ3 H3 X.xe I3 (stat fr3) st3 go) fun r s4 ⟨u, hr, h4⟩ => ?_)
    subst hr
    refine wpAny_passesOwn hp (thn h4 fun _ s5 ⟨x, H5, I5, r5, y5, st5, fr5⟩ => ?_)
    have I5' := I5.pinned (stat fr5) (T.obj _ _ st5)
    refine wpAny_passesOwn hp (thn (hg _ s5 σ3 H5 x u _ I5' r5 (step x H5 y5)) fun _ s6 ⟨σ6, H6, I6, q6⟩ => ?_)
    refine wpAny_passesOwn hp (thn (hb _ s6 σ6 H6 _ I6 q6) fun f s7 q7 => ?_)
    have again : ∀ {σ7 : St} {H7 : Hp}, Inv X (pins ++ pinsAt fp s5.heap) σ7 H7 s7 → N σ7 H7 → ∃ m, m < n ∧ ∃ i σ' H', Inv X pins σ' H' s7 ∧ tn i s7.heap ∧ (∀ b ∈ fp, H' b = none) ∧ W i m σ' H' := fun {σ7 H7} I7 n7 => by
      obtain ⟨m', hm, w7⟩ := hN σ7 H7 n7
      refine ⟨m', hm, i + 1, σ7, H7, I7.unpinned, T.keep _ _ _ st5 fun b hb o e => (I7.pin (b, o) (List.mem_append_right _ (List.mem_append_right _ (mem_pinsAt hb e)))).1, fun b hb => ?_, w7⟩
      obtain ⟨o, e, d⟩ := T.obj _ _ st5 b hb
      exact (I7.pin (b, o) (List.mem_append_right _ (List.mem_append_right _ (mem_pinsAt hb e)))).2.1
    cases f with
    | next => obtain ⟨σ7, H7, I7, n7⟩ := q7; exact again I7 n7
    | cont => obtain ⟨σ7, H7, I7, n7⟩ := q7; exact again I7 n7
    | brk => obtain ⟨σ7, H7, I7, q7⟩ := q7; exact ⟨σ7, H7, I7.unpinned, q7⟩
    | ret v => obtain ⟨x7, σ7, H7, I7, r7, q7⟩ := q7; exact ⟨x7, σ7, H7, I7.unpinned, r7, q7⟩
end

/-! ### the forms one uses -/
end L2

namespace L2
open PySem PySem.Spec PyProof.Rows

noncomputable abbrev R2 := V → V → Hp → VK → Prop
/-- a two-place operation on values: f is binaryOp op, inplaceOp op or compareOp op -/
noncomputable def OpR (X : Cx) (f : Value → Value → Sem Value) (r : R2) : Prop :=
  ∀ (pins : List (Addr × Obj)) (s : Shared) (σ : St) (H : Hp) (x y : V) (v u : Value) (Q : VK), Inv X pins σ H s → RelV x v → RelV y u → r x y H Q →
    wpAny (model X.prog X.w) X.A (f v u) (EP X pins σ Q) X.xe s
/-- a one-place operation -/
noncomputable def UnR (X : Cx) (f : Value → Sem Value) (r : V → Hp → VK → Prop) : Prop :=
  ∀ (pins : List (Addr × Obj)) (s : Shared) (σ : St) (H : Hp) (x : V) (v : Value) (Q : VK), Inv X pins σ H s → RelV x v → r x H Q →
    wpAny (model X.prog X.w) X.A (f v) (EP X pins σ Q) X.xe s
/-- a call of a value that is known (a builtin, a type) with values -/
noncomputable def CallR (X : Cx) (f : Value) (r : List V → Hp → VK → Prop) : Prop :=
  ∀ (pins : List (Addr × Obj)) (s : Shared) (σ : St) (H : Hp) (xs : List V) (us : List Value) (Q : VK), Inv X pins σ H s → Vals xs us → r xs H Q →
    wpAny (model X.prog X.w) X.A (call f us) (EP X pins σ Q) X.xe s

noncomputable def tOp (r : R2) (ta tb : TE) : TE := fun σ H Q => ta σ H fun x H1 => tb σ H1 fun y H2 => r x y H2 Q
noncomputable def tUn (r : V → Hp → VK → Prop) (ta : TE) : TE := fun σ H Q => ta σ H fun x H1 => r x H1 Q
/-- ints in, under C, and a value out -/
noncomputable def rI (C : Int → Int → Prop) (g : Int → Int → V) : R2 := fun x y H Q => ∃ i j, x = .int i ∧ y = .int j ∧ C i j ∧ Q (g i j) H
noncomputable def rI0 (g : Int → Int → V) : R2 := fun x y H Q => ∃ i j, x = .int i ∧ y = .int j ∧ Q (g i j) H
noncomputable def rU (g : Int → V) : V → Hp → VK → Prop := fun x H Q => ∃ i, x = .int i ∧ Q (g i) H

section
variable {X : Cx} {a b c : Expr} {ta tb tc : TE} {pos : Pos}

theorem binT (ha : PE X a ta) (hb : PE X b tb) {pins : List (Addr × Obj)} {s : Shared} {σ : St} {H : Hp} {R : V → V → Hp → Prop} (I : Inv X pins σ H s)
    (h : ta σ H fun x H1 => tb σ H1 fun y H2 => R x y H2) {Q : Value → Shared → Prop} {f : Value → Value → Sem Value}
    (hf : ∀ v u s2 x y H2, Inv X pins σ H2 s2 → RelV x v → RelV y u → R x y H2 → wpAny (model X.prog X.w) X.A (f v u) Q X.xe s2) :
    wpAny (model X.prog X.w) X.A (eval a X.env) (fun v s₁ => wpAny (model X.prog X.w) X.A (eval b X.env) (fun u s₂ => wpAny (model X.prog X.w) X.A (f v u) Q X.xe s₂) X.xe s₁) X.xe s := by
  refine thn (ha pins s σ H _ I h) fun v s1 ⟨x, H1, I1, r1, q1⟩ => ?_
  refine thn (hb pins s1 σ H1 _ I1 q1) fun u s2 ⟨y, H2, I2, r2, q2⟩ => ?_
  exact hf v u s2 x y H2 I2 r1 r2 q2

theorem pe_op {op : Operator} {r : R2} (ho : OpR X (binaryOp op) r) (ha : PE X a ta) (hb : PE X b tb) : PE X (.BinOp a op b pos) (tOp r ta tb) := by
  intro pins s σ H Q I h
  exact wpAny_BinOp (binT ha hb I h fun v u s2 x y H2 I2 rx ry q => ho pins s2 σ H2 x y v u Q I2 rx ry q)
theorem pe_un {op : UnaryOp} {r : V → Hp → VK → Prop} (ho : UnR X (unaryOp op) r) (ha : PE X a ta) : PE X (.UnaryOp op a pos) (tUn r ta) := by
  intro pins s σ H Q I h
  exact UnaryOp_ (thn (ha pins s σ H _ I h) fun v s1 ⟨x, H1, I1, r1, q1⟩ => ho pins s1 σ H1 x v Q I1 r1 q1)

/-! ### ints -/
theorem opI {f : Value → Value → Sem Value} {C : Int → Int → Prop} {g : Int → Int → Int}
    (rule : ∀ (i j : Int) (t u : Tok) (s : Shared) (Q : Value → Shared → Prop) (E : Value → Shared → Prop), C i j → Q (.int (g i j) s.toks) { s with toks := s.toks + 1 } → wpAny (model X.prog X.w) X.A (f (.int i t) (.int j u)) Q E s) :
    OpR X f (rI C fun i j => .int (g i j)) := by
  intro pins s σ H x y v u Q I rx ry h
  obtain ⟨i, j, rfl, rfl, hc, q⟩ := h
  obtain ⟨t, rfl⟩ := rx
  obtain ⟨t', rfl⟩ := ry
  exact rule i j t t' s _ _ hc ⟨.int (g i j), H, I.tok _, ⟨_, rfl⟩, q⟩
theorem opI0 {f : Value → Value → Sem Value} {g : Int → Int → Int}
    (rule : ∀ (i j : Int) (t u : Tok) (s : Shared) (Q : Value → Shared → Prop) (E : Value → Shared → Prop), Q (.int (g i j) s.toks) { s with toks := s.toks + 1 } → wpAny (model X.prog X.w) X.A (f (.int i t) (.int j u)) Q E s) :
    OpR X f (rI0 fun i j => .int (g i j)) := by
  intro pins s σ H x y v u Q I rx ry h
  obtain ⟨i, j, rfl, rfl, q⟩ := h
  obtain ⟨t, rfl⟩ := rx
  obtain ⟨t', rfl⟩ := ry
  exact rule i j t t' s _ _ ⟨.int (g i j), H, I.tok _, ⟨_, rfl⟩, q⟩
theorem opB0 {f : Value → Value → Sem Value} {g : Int → Int → Bool}
    (rule : ∀ (i j : Int) (t u : Tok) (s : Shared) (Q : Value → Shared → Prop) (E : Value → Shared → Prop), Q (.bool (g i j)) s → wpAny (model X.prog X.w) X.A (f (.int i t) (.int j u)) Q E s) :
    OpR X f (rI0 fun i j => .bl (g i j)) := by
  intro pins s σ H x y v u Q I rx ry h
  obtain ⟨i, j, rfl, rfl, q⟩ := h
  obtain ⟨t, rfl⟩ := rx
  obtain ⟨t', rfl⟩ := ry
  exact rule i j t t' s _ _ ⟨.bl (g i j), H, I, rfl, q⟩

noncomputable def CPow (i j : Int) : Prop := 0 ≤ j ∧ j ≤ 1000000 ∧ i.natAbs < 2 ^ 64
noncomputable def CMul (i j : Int) : Prop := (-(2 ^ 64) < i ∧ i < 2 ^ 64) ∨ (-(2 ^ 64) < j ∧ j < 2 ^ 64)
theorem CMul.ok {i j : Int} (h : CMul i j) : IntMulOk i j := by
  rcases h with ⟨h1, h2⟩ | ⟨h1, h2⟩
  · exact .of_left (intBits_le_64 h1 h2)
  · exact .of_right (intBits_le_64 h1 h2)

theorem op_add : OpR X (binaryOp .Add) (rI0 fun i j => .int (i + j)) := opI0 fun _ _ _ _ _ _ _ q => add_int q
theorem op_sub : OpR X (binaryOp .Sub) (rI0 fun i j => .int (i - j)) := opI0 fun _ _ _ _ _ _ _ q => sub_int q
/-- % by a positive divisor of any size -/
theorem op_mod : OpR X (binaryOp .Mod) (rI (fun _ j => 0 < j) fun i j => .int (i % j)) := opI fun i j _ _ _ _ _ hc q => by
  have h1 : (0 : Int) < j := hc
  exact mod_int' (by omega) (by rw [Int.fmod_eq_emod_of_nonneg i (by omega)]; exact q)
theorem op_pow : OpR X (binaryOp .Pow) (rI CPow fun i j => .int (i ^ j.toNat)) := opI fun _ _ _ _ _ _ _ hc q => pow_int_small hc.1 hc.2.1 hc.2.2 q


theorem unI {f : Value → Sem Value} {g : Int → Int}
    (rule : ∀ (i : Int) (t : Tok) (s : Shared) (Q : Value → Shared → Prop) (E : Value → Shared → Prop), Q (.int (g i) s.toks) { s with toks := s.toks + 1 } → wpAny (model X.prog X.w) X.A (f (.int i t)) Q E s) :
    UnR X f (rU fun i => .int (g i)) := by
  intro pins s σ H x v Q I rx h
  obtain ⟨i, rfl, q⟩ := h
  obtain ⟨t, rfl⟩ := rx
  exact rule i t s _ _ ⟨.int (g i), H, I.tok _, ⟨_, rfl⟩, q⟩
theorem un_neg : UnR X (unaryOp .USub) (rU fun i => .int (-i)) := unI fun _ _ _ _ _ q => neg_int q

/-! ### bools among ints: n += (a < b) -/
end

/-! ### comparisons -/


section
variable {X : Cx} {a b c : Expr} {ta tb tc : TE} {pos : Pos}
theorem fin_bl {pins : List (Addr × Obj)} {σ : St} {H : Hp} {s : Shared} {Q : VK} {k k' : Bool} (I : Inv X pins σ H s) (q : Q (.bl k) H) (e : k = k') : EP X pins σ Q (.bool k') s := by
  subst e
  exact ⟨.bl k, H, I, rfl, q⟩

theorem op_lt : OpR X (compareOp .Lt) (rI0 fun i j => .bl (decide (i < j))) := opB0 fun _ _ _ _ _ _ _ q => lt_int q
theorem op_gt : OpR X (compareOp .Gt) (rI0 fun i j => .bl (decide (j < i))) := opB0 fun _ _ _ _ _ _ _ q => gt_int q

/-- is None, is not None: the right side a value none -/
theorem op_isN : OpR X (compareOp .Is) (fun x y H Q => y = .non ∧ Q (.bl (decide (x = .non))) H) := by
  intro pins s σ H x y v u Q I rx ry h
  obtain ⟨rfl, q⟩ := h
  cases ry
  refine is_none_gen (fin_bl I q ?_)
  cases x <;> first
    | (cases rx; rfl)
    | (obtain ⟨t, rfl⟩ := rx; rfl)
theorem op_notN : OpR X (compareOp .IsNot) (fun x y H Q => y = .non ∧ Q (.bl (!decide (x = .non))) H) := by
  intro pins s σ H x y v u Q I rx ry h
  obtain ⟨rfl, q⟩ := h
  cases ry
  refine isnot_none_gen (fin_bl I q ?_)
  cases x <;> first
    | (cases rx; rfl)
    | (obtain ⟨t, rfl⟩ := rx; rfl)



theorem nomark (b : Expr) {op : CmpOp} (h : op ≠ .In := by decide) (h2 : op ≠ .NotIn := by decide) : behindInMarks op b = false := by
  have e1 : (op == CmpOp.In) = false := by cases op <;> first | rfl | exact absurd rfl h
  have e2 : (op == CmpOp.NotIn) = false := by cases op <;> first | rfl | exact absurd rfl h2
  cases b <;> simp [behindInMarks, e1, e2]
/-- a comparison as a value; hm: nomark b, or (for in, not in) by with_unfolding_all rfl -/
theorem pe_cmpR {op : CmpOp} {r : R2} (ho : OpR X (compareOp op) r) (ha : PE X a ta) (hb : PE X b tb) (hm : behindInMarks op b = false) : PE X (.Compare a [op] [b] pos) (tOp r ta tb) := by
  intro pins s σ H Q I h
  exact wpAny_Compare1 (binT ha hb I h fun v u s2 x y H2 I2 rx ry q => ho pins s2 σ H2 x y v u Q I2 rx ry q) hm
/-- a reading of a value as a test -/
noncomputable def tTest (t : TE) : TT := fun σ H Q => t σ H fun x H' => ∃ k, x = .bl k ∧ Q k H'
theorem pt_cmpR {op : CmpOp} {r : R2} (ho : OpR X (compareOp op) r) (ha : PE X a ta) (hb : PE X b tb) (hm : behindInMarks op b = false) : PT X (.Compare a [op] [b] pos) (tTest (tOp r ta tb)) := by
  intro pins s σ H Q I h
  refine wpAny_isTrue_Compare1 (thn (ha pins s σ H _ I h) fun v s1 ⟨x, H1, I1, r1, q1⟩ => thn (hb pins s1 σ H1 _ I1 q1) fun u s2 ⟨y, H2, I2, r2, q2⟩ =>
    thn (ho pins s2 σ H2 x y v u _ I2 r1 r2 q2) fun c s3 ⟨z, H3, I3, r3, k, e, q3⟩ => ?_) hm
  subst e
  cases r3
  exact wpAny_truthy_bool ⟨H3, I3, q3⟩

/-! ### truth -/
theorem line63 : (sizeLine : Nat) < 2 ^ 63 := by rw [sizeLine_eq]; decide

/-! ### strs and bytes -/


/-! ### scalar builtins, by CallR -/
theorem vals1 {x : V} {us : List Value} (r : Vals [x] us) : ∃ u, us = [u] ∧ RelV x u := by
  cases r with
  | cons r1 r2 => cases r2; exact ⟨_, rfl, r1⟩
theorem vals2 {x y : V} {us : List Value} (r : Vals [x, y] us) : ∃ u w', us = [u, w'] ∧ RelV x u ∧ RelV y w' := by
  cases r with
  | cons r1 r2 =>
    cases r2 with
    | cons r3 r4 => cases r4; exact ⟨_, _, rfl, r1, r3⟩
theorem call_max2 (hc : X.calm = true) : CallR X (.builtin "max") (fun xs H Q => ∃ i j, xs = [.int i, .int j] ∧ Q (.int (if j > i then j else i)) H) := by
  intro pins s σ H xs us Q I r h
  obtain ⟨i, j, rfl, q⟩ := h
  obtain ⟨u, w', rfl, ⟨t, rfl⟩, ⟨t', rfl⟩⟩ := vals2 r
  refine max_two_ints (I.ok.hd hc) fun h' tk k => ⟨_, H, I.kept k, ?_, q⟩
  by_cases hj : j > i
  · rw [if_pos hj, if_pos hj]; exact ⟨_, rfl⟩
  · rw [if_neg hj, if_neg hj]; exact ⟨_, rfl⟩
theorem call_min2 (hc : X.calm = true) : CallR X (.builtin "min") (fun xs H Q => ∃ i j, xs = [.int i, .int j] ∧ Q (.int (if j < i then j else i)) H) := by
  intro pins s σ H xs us Q I r h
  obtain ⟨i, j, rfl, q⟩ := h
  obtain ⟨u, w', rfl, ⟨t, rfl⟩, ⟨t', rfl⟩⟩ := vals2 r
  refine min_two_ints (I.ok.hd hc) fun h' tk k => ⟨_, H, I.kept k, ?_, q⟩
  by_cases hj : j < i
  · rw [if_pos hj, if_pos hj]; exact ⟨_, rfl⟩
  · rw [if_neg hj, if_neg hj]; exact ⟨_, rfl⟩
theorem call_int1 : CallR X (.type "int") (fun xs H Q => (∃ i, xs = [.int i] ∧ Q (.int i) H) ∨ ∃ k, xs = [.bl k] ∧ Q (.int (if k then 1 else 0)) H) := by
  intro pins s σ H xs us Q I r h
  rcases h with ⟨i, rfl, q⟩ | ⟨k, rfl, q⟩
  · obtain ⟨u, rfl, t, rfl⟩ := vals1 r
    exact call_int_int ⟨.int i, H, I, ⟨_, rfl⟩, q⟩
  · obtain ⟨u, rfl, r1⟩ := vals1 r
    cases r1
    exact call_int_bool ⟨.int (if k then 1 else 0), H, I.tok _, ⟨_, rfl⟩, q⟩
end
end L2

namespace L2
open PySem PySem.Spec PyProof.Rows

/-! ### an instance, its attributes a map -/
structure ObjM (h : Heap) (x dx C : Addr) (mA : Str → Option Value) : Prop where
  obj : h.get? x = some (PySem.W.instObj C dx)
  ns : h.Ns1 dx mA
  ne : dx ≠ x

theorem lookIn_ns {h : Heap} {dx : Addr} {mA : Str → Option Value} (n : h.Ns1 dx mA) : ∃ od, h.get? dx = some od ∧ ∀ name, PySem.W.lookIn name od = some (mA name) := by
  obtain ⟨o, es, ep, ho, hd, hk, _, hm⟩ := n
  refine ⟨o, ho, fun name => ?_⟩
  have e := hm name
  unfold nsFind findBy at e
  rw [← Array.find?_toList] at e
  unfold PySem.W.lookIn
  rw [hd]
  dsimp only
  split
  · rename_i y q
    rw [q] at e
    exact congrArg some e
  · rename_i q
    rw [q] at e
    have a : es.toList.any (·.refKey) = false := by
      rw [List.any_eq_false]
      intro y hy
      obtain ⟨z, t, hkey⟩ := hk y (Array.mem_toList_iff.mp hy)
      simp [DictEntry.refKey, hkey]
    have a' : ¬ es.toList.any (·.refKey) = true := by rw [a]; exact Bool.false_ne_true
    rw [if_neg a']
    exact congrArg some e

theorem ObjM.look {h : Heap} {x dx C : Addr} {mA : Str → Option Value} (I : ObjM h x dx C mA) : ∃ od, PySem.W.InstAt h x (PySem.W.instObj C dx) C (some od) ∧ ∀ name, PySem.W.lookIn name od = some (mA name) :=
  let ⟨od, ho, hl⟩ := lookIn_ns I.ns
  ⟨od, ⟨I.obj, rfl, rfl, ho⟩, hl⟩

section
variable {prog : Program} {w : World} {A : Around} {E : Value → Shared → Prop} {s : Shared} {K : PySem.W.Frag} {x dx C f : Addr} {mA : Str → Option Value} {name : Str} {v : Value}

theorem get_map {expr : Bool} {Q : Value → Shared → Prop} (X : K.In s.heap) (I : ObjM s.heap x dx C mA) (hg : PySem.W.plainGet K C name = true) (hh : PySem.W.hasDictIn K C = true)
    (ha : PySem.W.findIn K (.ref C) name = some none) (hv : mA name = some v) (hv' : PySem.W.handedIn v = true) (h : Q v { s with toks := s.toks + 1 }) :
    wpAny (model prog w) A (getAttr (.ref x) name expr) Q E s := by
  obtain ⟨od, J, hl⟩ := I.look
  exact PySem.W.get_value X J (PySem.W.plainGet_of hg).1 (PySem.W.findObj_own hh ha rfl (by rw [hl, hv])) hv' h


theorem get_meth {pl : Sem Bool} {Q : Value × List Value → Shared → Prop} (X : K.In s.heap) (I : ObjM s.heap x dx C mA) (hg : PySem.W.plainGet K C name = true)
    (hf : PySem.W.findIn K (.ref C) name = some (some (.ref f))) (ht : PySem.W.isFn K (.ref f) = true) (hv : mA name = none) (h : Q (.ref f, [.ref x]) s) :
    wpAny (model prog w) A (getMethod (.ref x) name pl) Q E s := by
  obtain ⟨od, J, hl⟩ := I.look
  exact PySem.W.method_fn X J (PySem.W.plainGet_of hg).1 (PySem.W.plainGet_of hg).2 hf (beq_iff_eq.mp ht) (by show (PySem.W.lookIn name od).map (·.isSome) = some false; rw [hl, hv]; rfl) h

theorem set_map {ns : List Str} {Q : Unit → Shared → Prop} (X : K.In s.heap) (I : ObjM s.heap x dx C mA)
    (hs : PySem.W.findIn K (.ref C) "__setattr__" = some (some (.builtin "object.__setattr__"))) (hp : PySem.W.plainOver K C = true) (ht : PySem.W.takerIn K C name = some none) (hh : PySem.W.hasDictIn K C = true)
    (hw : PySem.Within mA ns) (hsz : ns.length ≤ sizeLine)
    (h : ∀ h', ObjM h' x dx C (fun y => if y = name then some v else mA y) → Heap.SameBut dx s.heap h' → Q () { s with heap := h', toks := s.toks + 2 }) :
    wpAny (model prog w) A (setAttr (.ref x) name v) Q E s := by
  obtain ⟨od, J, hl⟩ := I.look
  refine PySem.W.set_plain X J hs (PySem.W.osa_open (s := { s with toks := s.toks + 1 }) (r := none) X J hp ht fun b => ?_)
  obtain ⟨cd, hc, hd'⟩ := PySem.W.any_some hh
  have hx : s.heap.get? x = some ⟨.ref C, some dx, .plain, #[]⟩ := I.obj
  refine wpAny_bind (wpAny_pure (wpAny_bind (wpAny_bind (wpAny_loadPart hx (wpAny_bind (PySem.W.Looks.here (s := { s with toks := s.toks + 1 }) (PySem.W.looks_clsIn X hc) ?_))))))
  rw [hd']
  refine wpAny_pure (a := some dx) (wpAny_bind (wpAny_pure (wpAny_bind ?_)))
  refine wpAny_nsSet1 (s := { s with toks := s.toks + 1 }) I.ns fun h' hn2 hs2 => ?_
  obtain ⟨oD, esD, epD, hoD, hdD, hcD⟩ := hn2.count (PySem.Within.cons name v hw)
  refine wpAny_bind (wpAny_lookBehind hoD (by rw [hdD]; exact pastItsLine_dict (Nat.le_trans hcD (by rw [List.length_cons]; omega))) ?_)
  exact wpAny_pure (h _ ⟨(hs2.2 _ (Ne.symm I.ne)).trans I.obj, hn2, I.ne⟩ hs2)

/-- C(..): the dict at the heap's end, the instance behind it; then its __init__ -/
theorem make_map {R : Result → Shared → Prop} {vs : List Value} {kw : List (Str × Value)} (X : K.In s.heap) (hm : PySem.W.makesIn K C = true)
    (hi : PySem.W.findIn K (.ref C) "__init__" = some (some (.ref f))) (hf : PySem.W.typeIn K (.ref f) = some (.type "function"))
    (h : codeAny (model prog w) (A.under (.builtin "type.__call__" ⟨.ref C :: vs, kw⟩)) (.call (.ref f) ⟨.ref (s.heap.objs.size + 1) :: vs, kw⟩) (PySem.W.InitBack (s.heap.objs.size + 1) R)
      { s with heap := (s.heap.push PySem.W.emptyDict).push (PySem.W.instObj C s.heap.objs.size) }) :
    codeAny (model prog w) A (.call (.ref C) ⟨vs, kw⟩) R s := by
  obtain ⟨hh, g, d, t, os⟩ := s
  exact PySem.W.make_core (PySem.W.makes_of X hm) (PySem.W.looks_findIn X hi) (fun self => PySem.W.bind_fn X self hf) (.inl rfl) h
end

/-! ### the attributes as a list of pairs -/
noncomputable def putF (f : Str) (v : V) : List (Str × V) → List (Str × V)
  | [] => [(f, v)]
  | (g, x) :: r => if g = f then (g, v) :: r else (g, x) :: putF f v r
theorem lookup_putF (f g : Str) (v : V) : ∀ fs : List (Str × V), (putF f v fs).lookup g = if g = f then some v else fs.lookup g
  | [] => by
    show List.lookup g [(f, v)] = _
    by_cases h : g = f
    · have hb : (g == f) = true := beq_iff_eq.mpr h
      simp only [List.lookup, hb, if_pos h]
    · have hb : (g == f) = false := beq_eq_false_iff_ne.mpr h
      simp only [List.lookup, hb, if_neg h]
  | (k, x) :: r => by
    have ih := lookup_putF f g v r
    rw [show putF f v ((k, x) :: r) = (if k = f then (k, v) :: r else (k, x) :: putF f v r) from rfl]
    by_cases hk : k = f
    · rw [if_pos hk]
      by_cases h : g = k
      · have hb : (g == k) = true := beq_iff_eq.mpr h
        simp only [List.lookup, hb, if_pos (h.trans hk)]
      · have hb : (g == k) = false := beq_eq_false_iff_ne.mpr h
        simp only [List.lookup, hb, if_neg (fun e : g = f => h (e.trans hk.symm))]
    · rw [if_neg hk]
      by_cases h : g = k
      · have hb : (g == k) = true := beq_iff_eq.mpr h
        simp only [List.lookup, hb, if_neg (fun e : g = f => hk (h.symm.trans e))]
      · have hb : (g == k) = false := beq_eq_false_iff_ne.mpr h
        simp only [List.lookup, hb]
        exact ih
theorem keys_putF (f : Str) (v : V) : ∀ fs : List (Str × V), f ∈ (putF f v fs).map (·.1) ∧ ∀ g, g ∈ fs.map (·.1) → g ∈ (putF f v fs).map (·.1)
  | [] => ⟨by simp [putF], fun g h => by simp at h⟩
  | (k, x) :: r => by
    obtain ⟨i1, i2⟩ := keys_putF f v r
    rw [show putF f v ((k, x) :: r) = (if k = f then (k, v) :: r else (k, x) :: putF f v r) from rfl]
    by_cases hk : k = f
    · rw [if_pos hk]
      subst hk
      exact ⟨by simp, fun g h => by simpa using h⟩
    · rw [if_neg hk]
      refine ⟨?_, fun g h => ?_⟩
      · rw [List.map_cons]
        exact List.mem_cons_of_mem _ i1
      · rw [List.map_cons] at h ⊢
        rcases List.mem_cons.mp h with e | e
        · exact List.mem_cons.mpr (.inl e)
        · exact List.mem_cons_of_mem _ (i2 g e)
theorem length_putF (f : Str) (v : V) : ∀ fs : List (Str × V), (putF f v fs).length ≤ fs.length + 1
  | [] => by simp [putF]
  | (k, x) :: r => by
    have ih := length_putF f v r
    rw [show putF f v ((k, x) :: r) = (if k = f then (k, v) :: r else (k, x) :: putF f v r) from rfl]
    by_cases hk : k = f
    · rw [if_pos hk, List.length_cons, List.length_cons]; omega
    · rw [if_neg hk, List.length_cons, List.length_cons]; omega

theorem RelO.some_of {v : V} {o : Option Value} (r : RelO (some v) o) : ∃ u, o = some u ∧ RelV v u := by
  cases o with
  | none => exact (show False from r).elim
  | some u => exact ⟨u, rfl, r⟩
theorem RelO.none_of {o : Option Value} (r : RelO none o) : o = none := by
  cases o with
  | none => rfl
  | some u => exact (show False from r).elim
theorem handed_of {v : V} {u : Value} (r : RelV v u) : PySem.W.handedIn u = true := by
  cases v with
  | non => cases (show u = Value.none from r); rfl
  | bl b => cases (show u = Value.bool b from r); rfl
  | int i => obtain ⟨t, e⟩ := (show ∃ t, u = Value.int i t from r); cases e; rfl
  | str x => obtain ⟨t, e⟩ := (show ∃ t, u = Value.str x t from r); cases e; rfl
  | byt b => obtain ⟨t, e⟩ := (show ∃ t, u = Value.bytes b t from r); cases e; rfl
  | flt b => obtain ⟨t, e⟩ := (show ∃ t, u = Value.float b t from r); cases e; rfl
  | ref a => cases (show u = Value.ref a from r); rfl
  | ty n => cases (show u = Value.type n from r); rfl

section
variable {P : Program} {w : World} {H H' : Hp} {h h' : Heap} {a C dx : Addr} {fs fs' : List (Str × V)}
theorem ins_get (hok : HOk P w H h) (e : H a = some (.ins C dx fs)) : ∃ mA, ObjM h a dx C mA ∧ (∀ f, RelO (fs.lookup f) (mA f)) ∧ PySem.Within mA (fs.map (·.1)) ∧ fs.length ≤ 1000 ∧ H dx = some (.own a) := by
  obtain ⟨d, z, ne, ob, mA, n, r, q⟩ := (show ObjOk P w H h a (.ins C dx fs) from hok a _ e)
  exact ⟨mA, ⟨ob, n, ne⟩, r, q, z, d⟩
end

/-! ### what of the text a class must have -/
structure Cls (K : PySem.W.Frag) (C : Addr) : Prop where
  pg : PySem.W.plainGet K C Str.empty = true
  hd : PySem.W.hasDictIn K C = true
  po : PySem.W.plainOver K C = true
  sa : PySem.W.findIn K (.ref C) "__setattr__" = some (some (.builtin "object.__setattr__"))
theorem Cls.get {K : PySem.W.Frag} {C : Addr} (c : Cls K C) (f : Str) : PySem.W.plainGet K C f = true := c.pg
/-- no class of it has the name -/
noncomputable def NoAttr (K : PySem.W.Frag) (C : Addr) (f : Str) : Prop := PySem.W.findIn K (.ref C) f = some none
theorem NoAttr.taker {K : PySem.W.Frag} {C : Addr} {f : Str} (n : NoAttr K C f) : PySem.W.takerIn K C f = some none := by
  unfold PySem.W.takerIn
  rw [show PySem.W.findIn K (.ref C) f = some none from n]
  rfl
/-- a constant of the class -/
structure Con (K : PySem.W.Frag) (C : Addr) (f : Str) (v : V) (u : Value) : Prop where
  at_ : PySem.W.findIn K (.ref C) f = some (some u)
  rel : RelV v u
  get : PySem.W.specialIn K u "__get__" = some none
  cp : PySem.W.copiedNames.contains f = false
/-- a method: a plain def of the class or of one above it -/
structure Meth (K : PySem.W.Frag) (C : Addr) (m : Str) (f : Addr) : Prop where
  at_ : PySem.W.findIn K (.ref C) m = some (some (.ref f))
  fn : PySem.W.isFn K (.ref f) = true
  kp : PySem.W.keepIn K (.ref f) = true

section
variable {X : Cx} {pins : List (Addr × Obj)} {σ : St} {H : Hp} {s : Shared} {a C dx : Addr} {fs : List (Str × V)} {f : Str} {v : V} {A : Around} {E : Value → Shared → Prop}

theorem getattr_ok {b : Bool} {Q : Value → Shared → Prop} (I : Inv X pins σ H s) (e : H a = some (.ins C dx fs)) (c : Cls X.K C) (n : NoAttr X.K C f) (l : fs.lookup f = some v)
    (h : ∀ u s', Inv X pins σ H s' → RelV v u → Q u s') : wpAny (model X.prog X.w) A (getAttr (.ref a) f b) Q E s := by
  obtain ⟨mA, O, r, _, _, _⟩ := ins_get I.hok e
  obtain ⟨u, hu, ru⟩ := RelO.some_of (v := v) (o := mA f) (by rw [← l]; exact r f)
  exact get_map I.kIn O (c.get f) c.hd n hu (handed_of ru) (h u _ (I.tok _) ru)


theorem getmeth_ok {m : Str} {g : Addr} {pl : Sem Bool} {Q : Value × List Value → Shared → Prop} (I : Inv X pins σ H s) (e : H a = some (.ins C dx fs)) (c : Cls X.K C) (k : Meth X.K C m g) (l : fs.lookup m = none)
    (h : Q (.ref g, [.ref a]) s) : wpAny (model X.prog X.w) A (getMethod (.ref a) m pl) Q E s := by
  obtain ⟨mA, O, r, _, _, _⟩ := ins_get I.hok e
  have hn : mA m = none := RelO.none_of (by rw [← l]; exact r m)
  exact get_meth I.kIn O (c.get m) k.at_ k.fn hn h

theorem setattr_ok {y : V} {u : Value} {Q : Unit → Shared → Prop} (I : Inv X pins σ H s) (e : H a = some (.ins C dx fs)) (c : Cls X.K C) (n : NoAttr X.K C f) (hl : fs.length < 1000) (ry : RelV y u)
    (h : ∀ s', Inv X pins σ (upd H a (.ins C dx (putF f y fs))) s' → Q () s') : wpAny (model X.prog X.w) A (setAttr (.ref a) f u) Q E s := by
  obtain ⟨mA, O, r, wi, _, ho⟩ := ins_get I.hok e
  have hz : (fs.map (·.1)).length ≤ sizeLine := by rw [List.length_map, sizeLine_eq]; omega
  refine set_map I.kIn O c.sa c.po n.taker c.hd wi hz fun h' O' sb => h _ ?_
  have hd : ∃ o, h'.get? dx = some o := let ⟨o, _, _, e', _⟩ := O'.ns; ⟨o, e'⟩
  refine I.write (x := a) (e := dx) (by rw [e]; exact True.intro) (.inr ho) (fun b q hb z => (sb.2 b hb).trans z) hd ?_
  refine ⟨by rw [upd_ne O.ne]; exact ho, ?_, O.ne, O'.obj, _, O'.ns, fun g => ?_, fun g hg => ?_⟩
  · have := length_putF f y fs; omega
  · show RelO ((putF f y fs).lookup g) (if g = f then some u else mA g)
    rw [lookup_putF]
    by_cases q : g = f
    · rw [if_pos q, if_pos q]; exact ry
    · rw [if_neg q, if_neg q]; exact r g
  · by_cases q : g = f
    · rw [q]; exact (keys_putF f y fs).1
    · refine (keys_putF f y fs).2 g (wi g fun z => hg ?_)
      show (if g = f then some u else mA g) = none
      rw [if_neg q]; exact z

/-- a new instance, tracked, without attributes -/
theorem Inv.made (I : Inv X pins σ H s) : Inv X pins σ (upd (upd H s.heap.objs.size (.own (s.heap.objs.size + 1))) (s.heap.objs.size + 1) (.ins C s.heap.objs.size []))
    { s with heap := (s.heap.push PySem.W.emptyDict).push (PySem.W.instObj C s.heap.objs.size) } := by
  have e1 : (s.heap.push PySem.W.emptyDict).get? s.heap.objs.size = some PySem.W.emptyDict := Heap.get?_push_size s.heap rfl
  have e2 : ((s.heap.push PySem.W.emptyDict).push (PySem.W.instObj C s.heap.objs.size)).get? (s.heap.objs.size + 1) = some (PySem.W.instObj C s.heap.objs.size) := by
    have := Heap.get?_push_size (s.heap.push PySem.W.emptyDict) (o := PySem.W.instObj C s.heap.objs.size) rfl
    rwa [Heap.size_push] at this
  have e3 : (s.heap.push PySem.W.emptyDict).Ns s.heap.objs.size (fun _ => none) := ⟨PySem.W.emptyDict, #[], _, e1, rfl, (fun e he => absurd he (by simp)), fun _ => rfl⟩
  have I1 := I.laid (a := s.heap.objs.size) (o := .own (s.heap.objs.size + 1)) (h' := s.heap.push PySem.W.emptyDict) (t' := s.toks) (fun b u q => Heap.get?_push_of_some _ q) (Nat.le_refl _) ⟨_, e1⟩
  refine I1.laid (a := s.heap.objs.size + 1) (o := .ins C s.heap.objs.size []) (t' := s.toks) (fun b u q => Heap.get?_push_of_some _ q) (Nat.le_of_eq (Heap.size_push _ _)) ?_
  have ne : s.heap.objs.size ≠ s.heap.objs.size + 1 := Nat.ne_of_lt (Nat.lt_succ_self _)
  refine ⟨by rw [upd_ne ne, upd_same], Nat.zero_le _, ne, e2, fun _ => none, (Heap.Ns1.of_empty e3).at fun o q => Heap.get?_push_of_some _ q, fun _ => True.intro, fun y hy => absurd rfl hy⟩

/-- e.f where nothing but the object is asked: through attributeBase (super) and the last hold -/
theorem attr_of {prog : Program} {w : World} {env : Env} {e : Expr} {f : Str} {pos : Pos} {s : Shared} {Q : Value → Shared → Prop} (hb : attributeBase e f env (eval e env) = eval e env)
    (h : wpAny (model prog w) A (eval e env) (fun o s₁ => wpAny (model prog w) A (getAttr o f true) Q E s₁) E s) : wpAny (model prog w) A (eval (.Attribute e f pos) env) Q E s :=
  Attribute_any_ h (by rw [arm_eval_Attribute, hb])
end

/-! ### readings and rules -/
/-- e.f, an attribute of the instance -/
noncomputable def tFld (K : PySem.W.Frag) (ta : TE) (f : Str) : TE := fun σ H Q => ta σ H fun x H1 => ∃ a C dx fs v, x = .ref a ∧ H1 a = some (.ins C dx fs) ∧ Cls K C ∧ NoAttr K C f ∧ fs.lookup f = some v ∧ Q v H1
/-- e.f = value -/
noncomputable def sFld (K : PySem.W.Frag) (ta tv : TE) (f : Str) : TS := fun D σ H => tv σ H fun y H1 => ta σ H1 fun x H2 => ∃ a C dx fs, x = .ref a ∧ H2 a = some (.ins C dx fs) ∧ Cls K C ∧ NoAttr K C f ∧ fs.length < 1000 ∧
  D.nx σ (upd H2 a (.ins C dx (putF f y fs)))

section
variable {X : Cx} {o e value : Expr} {f : Str} {pos pos' tpos : Pos} {ta tv : TE}
theorem pe_fld (he : PE X e ta) (hb : attributeBase e f X.env (eval e X.env) = eval e X.env) : PE X (.Attribute e f pos) (tFld X.K ta f) := by
  intro pins s σ H Q I h
  refine attr_of hb (thn (he pins s σ H _ I h) fun u s1 ⟨x, H1, I1, rx, a, C, dx, fs, v, ex, ea, c, n, l, q⟩ => ?_)
  subst ex
  obtain rfl : u = Value.ref a := rx
  exact getattr_ok I1 ea c n l fun u' s2 I2 ru => ⟨v, H1, I2, ru, q⟩
theorem ps_fld (ha : PE X o ta) (hv : PE X value tv) (hs : swapsWith value (some (.Attribute o f pos')) pos.line X.env = pure false) : PS X (.Assign [.Attribute o f pos'] value pos) (sFld X.K ta tv f) := by
  intro pins s σ H D I h
  refine plainObj_wpAny_Assign_Attribute (thn (hv pins s σ H _ I h) fun u s1 ⟨y, H1, I1, ry, q⟩ => thn (ha pins s1 σ H1 _ I1 q) fun ov s2 ⟨x, H2, I2, rx, a, C, dx, fs, ex, ea, c, n, l, q2⟩ => ?_) hs
  subst ex
  obtain rfl : ov = Value.ref a := rx
  exact setattr_ok I2 ea c n l ry fun s3 I3 => ⟨σ, _, I3, q2⟩

/-- what is between an instance and its method: the tree of a method call -/
theorem methcall_of {pl : Sem Bool} {m : Str} {apos : Pos} {args : List Expr} {pins : List (Addr × Obj)} {s : Shared} {σ : St} {H : Hp} {Q : Value → Shared → Prop} {te : TE} (he : PE X e te) (I : Inv X pins σ H s)
    (h : te σ H fun x H1 => ∃ a C dx fs g, x = .ref a ∧ H1 a = some (.ins C dx fs) ∧ Cls X.K C ∧ Meth X.K C m g ∧ fs.lookup m = none ∧
      ∀ s1, Inv X pins σ H1 s1 → wpAny (model X.prog X.w) X.A (callWith pos (.ref g) [.ref a] (backTo pos (starEach args X.env)) (backToKw pos (keywordEach [] X.env))) Q X.xe s1)
    (ht : eval (.Call (.Attribute e m apos) args [] pos) X.env = (do
      let ov ← eval e X.env
      standAt apos.atName
      let (f, first) ← holding [ov] (getMethod ov m pl)
      callWith pos f first (backTo pos (starEach args X.env)) (backToKw pos (keywordEach [] X.env)))) :
    wpAny (model X.prog X.w) X.A (eval (.Call (.Attribute e m apos) args [] pos) X.env) Q X.xe s := by
  refine PySem.W.methodCall_KW (pl := pl) (thn (he pins s σ H _ I h) fun u s1 ⟨x, H1, I1, rx, a, C, dx, fs, g, ex, ea, c, k, l, q⟩ => ?_) ht
  subst ex
  obtain rfl : u = Value.ref a := rx
  exact getmeth_ok I1 ea c k l (q s1 I1)
end

/-! ### isinstance -/
section
variable {X : Cx} {pins : List (Addr × Obj)} {σ : St} {H : Hp} {s : Shared} {A : Around} {E : Value → Shared → Prop} {Q : Value → Shared → Prop} {c : Value} {b : Bool}
/-- the type of a value, as the fragment's deciders take it; for an instance its class -/
inductive TyOf (K : PySem.W.Frag) (H : Hp) : V → Value → Prop where
  | non : TyOf K H .non (.type "NoneType")
  | bl (x : Bool) : TyOf K H (.bl x) (.type "bool")
  | int (i : Int) : TyOf K H (.int i) (.type "int")
  | str (x : Str) : TyOf K H (.str x) (.type "str")
  | flt (x : UInt64) : TyOf K H (.flt x) (.type "float")
  | lst {a : Addr} {xs : List V} (e : H a = some (.lst xs)) : TyOf K H (.ref a) (.type "list")
  | frz {a : Addr} {o : Obj} {xs : List V} (e : H a = some (.frz o (.lst xs))) : TyOf K H (.ref a) (.type "list")
  | tup {a : Addr} {xs : List V} (e : H a = some (.tup xs)) : TyOf K H (.ref a) (.type "tuple")
  | dK {a : Addr} {kvs : List (Key × V)} (e : H a = some (.dK kvs)) : TyOf K H (.ref a) (.type "dict")
  | dT {a : Addr} {kvs : List (List Key × V)} (e : H a = some (.dT kvs)) : TyOf K H (.ref a) (.type "dict")
  | ins {a C dx : Addr} {fs : List (Str × V)} (e : H a = some (.ins C dx fs)) (cl : Cls K C) (ha : PySem.W.findIn K (.ref C) "__class__" = some (some (.builtin "object.__class__")))
      (hn : PySem.W.specialIn K (.builtin "object.__class__") "__get__" = some (some (.builtin "getset_descriptor.__get__"))) (htk : PySem.W.takesIn K (.builtin "object.__class__") = some true)
      (hm : PySem.W.mroIn K C (.type "object") = some true) : TyOf K H (.ref a) (.ref C)
end
end L2

namespace L2
open PySem PySem.Spec PyProof.Rows

/-! ### room -/
structure Room (k : Nat) (A : Around) : Prop where
  hd : A.handled = none
  dp : A.depth + 3 * k + 5 < recursionLimit
  un : A.units + 16 * k + 200 < cLine
theorem Room.mono {j k : Nat} {A : Around} (r : Room k A) (h : j ≤ k) : Room j A := ⟨r.hd, by have := r.dp; omega, by have := r.un; omega⟩
theorem Room.deeper {k : Nat} {A : Around} (r : Room (k + 1) A) (env : Env) : Room k (A.deeper env) :=
  ⟨r.hd, by have := r.dp; show A.depth + 1 + 3 * k + 5 < _; omega, by have := r.un; show A.units + 3 + 16 * k + 200 < _; omega⟩
theorem make_depth {A : Around} {C : Addr} {us : List Value} {kw : List (Str × Value)} : (A.under (.builtin "type.__call__" ⟨.ref C :: us, kw⟩)).depth = A.depth + 1 := by
  first | rfl | simp [Around.under, Code.weight, Code.isCreation, Code.isGuard, Code.isCaller, Code.frames, Code.isFrame, guardIds]
theorem make_units {A : Around} {C : Addr} {us : List Value} {kw : List (Str × Value)} : (A.under (.builtin "type.__call__" ⟨.ref C :: us, kw⟩)).units = A.units + 1 := by
  first | rfl | simp [Around.under, Code.cUnits, Code.frames, Code.isFrame]
theorem Room.make {k : Nat} {A : Around} (r : Room (k + 1) A) (C : Addr) (us : List Value) (kw : List (Str × Value)) : Room k (A.under (.builtin "type.__call__" ⟨.ref C :: us, kw⟩)) :=
  ⟨r.hd, by have := r.dp; rw [make_depth]; omega, by have := r.un; rw [make_units]; omega⟩
theorem Room.depth {k : Nat} {A : Around} (r : Room k A) : A.depth < recursionLimit := by have := r.dp; omega
theorem Room.units {k : Nat} {A : Around} (r : Room k A) : A.units + 64 < cLine := by have := r.un; omega

/-! ### argument lists and displays -/
noncomputable def tNil : TA := fun _ H Q => Q [] H
noncomputable def tCons (ta : TE) (tr : TA) : TA := fun σ H Q => ta σ H fun x H1 => tr σ H1 fun xs H2 => Q (x :: xs) H2
section
variable {X : Cx} {e : Expr} {es : List Expr} {te : TE} {t : TA} {pos : Pos}
theorem pa_nil : PA X [] tNil := fun _ _ _ _ H Q I h => Calls.spliced_nil ⟨[], H, I, .nil, h⟩
theorem pa_cons (ha : PE X e te) (hr : PA X es t) (hs : starEach (e :: es) X.env = (false, eval e X.env) :: starEach es X.env := by rfl) : PA X (e :: es) (tCons te t) := by
  intro pos pins s σ H Q I h
  rw [hs]
  show wpAny _ _ (spliced ((false, eval e X.env) :: backTo pos (starEach es X.env))) _ _ s
  refine Calls.spliced_cons (thn (ha pins s σ H _ I h) fun u s1 ⟨x, H1, I1, r1, q1⟩ => ?_)
  exact thn (hr pos pins s1 σ H1 _ I1 q1) fun us s2 ⟨xs, H2, I2, r2, q2⟩ => ⟨x :: xs, H2, I2, .cons r1 r2, q2⟩

/-- a tuple, a list of written items -/
noncomputable def tTup (t : TA) : TE := fun σ H Q => t σ H fun xs H1 => xs.length ≤ sizeLine ∧ ∀ p, H1 p = none → Q (.ref p) (upd H1 p (.tup xs))
noncomputable def tLst (t : TA) : TE := fun σ H Q => t σ H fun xs H1 => xs.length ≤ sizeLine ∧ ∀ p, H1 p = none → Q (.ref p) (upd H1 p (.lst xs))
theorem pe_tup {x1} (h : PA X es t) : PE X (.Tuple es x1 pos) (tTup t) := by
  intro pins s σ H Q I hq
  refine wpAny_Tuple_spliced (thn (h pos pins s σ H _ I hq) fun us s1 ⟨xs, H1, I1, r, z, q⟩ => ⟨by rw [← r.length]; exact z, ?_⟩)
  have hf : H1 s1.heap.objs.size = none := I1.hok.fresh (Nat.le_refl _)
  refine ⟨.ref s1.heap.objs.size, upd H1 s1.heap.objs.size (.tup xs), I1.laid (t' := s1.toks) (fun b u e => Heap.get?_push_of_some _ e) (Nat.le_refl _) ?_, rfl, q _ hf⟩
  exact ⟨z, us, r, ⟨_, Heap.get?_push_size _ rfl, rfl, _, rfl⟩⟩
theorem pe_lst (h : PA X es t) : PE X (.List es pos) (tLst t) := by
  intro pins s σ H Q I hq
  refine wpAny_List_spliced (thn (h pos pins s σ H _ I hq) fun us s1 ⟨xs, H1, I1, r, z, q⟩ => ⟨by rw [← r.length]; exact z, ?_⟩)
  have hf : H1 s1.heap.objs.size = none := I1.hok.fresh (Nat.le_refl _)
  refine ⟨.ref s1.heap.objs.size, upd H1 s1.heap.objs.size (.lst xs), I1.laid (t' := s1.toks) (fun b u e => Heap.get?_push_of_some _ e) (Nat.le_refl _) ?_, rfl, q _ hf⟩
  exact ⟨z, us, 0, r, Heap.get?_push_size _ rfl⟩
end

/-! ### what a def promises -/
/-- a def's promise: the bound arguments in the parameters' order, the heap, the wanted end, the wanted exception -/
noncomputable abbrev Sp := List V → Hp → VK → XK → Prop
/-- how an exception lies behind a call (file 08 gives it): the callers' frames, abstract heap and state ahead of the call, the wish, the exception, the state -/
noncomputable abbrev CXT := List Env → Hp → Shared → XK → Value → Shared → Prop

/-- the state at a call -/
structure Env0 (P : Program) (w : World) (K : PySem.W.Frag) (mg : Str → Option Value) (base : Heap) (A : Around) (outer : List Env) (s : Shared) (H : Hp) : Prop where
  frames : A.frames = some outer
  mod : Mod K mg base
  bs : ∀ b o, base.get? b = some o → s.heap.get? b = some o ∧ H b = none
  bsz : base.objs.size ≤ s.heap.objs.size
  funs : s.heap.FunFrames base outer
  frf : ∀ b ∈ frs outer, H b = none
  hok : HOk P w H s.heap
  bare : AllBare s.gens
/-- a call's end -/
noncomputable def CE (outer : List Env) (P : Program) (w : World) (H : Hp) (s : Shared) (Q : VK) (u : Value) (s' : Shared) : Prop :=
  ∃ v H', s'.os = s.os ∧ AllBare s'.gens ∧ Un (frs outer) [] H H' s.heap s'.heap ∧ HOk P w H' s'.heap ∧ RelV v u ∧ Q v H'
noncomputable def CR (CX : CXT) (outer : List Env) (P : Program) (w : World) (H : Hp) (s : Shared) (Q : VK) (E : XK) (r : Result) (s' : Shared) : Prop :=
  match r with
  | .ok (.ret u) => CE outer P w H s Q u s'
  | .ok _ => False
  | .error e => CX outer H s E e s'
structure FnOk (P : Program) (w : World) (K : PySem.W.Frag) (mg : Str → Option Value) (base : Heap) (CX : CXT) (k : Nat) (f : Addr) (fd : FuncData) (ps : List Str) (sp : Sp) : Prop where
  len : ∀ vs H Q E, sp vs H Q E → vs.length = ps.length
  run : ∀ (A : Around) (outer : List Env) (s : Shared) (H : Hp) (args : Args) (us : List Value) (vs : List V) (Q : VK) (E : XK), Room k A → Env0 P w K mg base A outer s H → BindsTo s fd args (ps.zip us) → Vals vs us → sp vs H Q E →
    codeAny (model P w) A (.call (.ref f) args) (CR CX outer P w H s Q E) s
/-- a weaker promise -/
theorem FnOk.imp {P : Program} {w : World} {K : PySem.W.Frag} {mg : Str → Option Value} {base : Heap} {CX : CXT} {k : Nat} {f : Addr} {fd : FuncData} {ps : List Str} {sp sp' : Sp} (F : FnOk P w K mg base CX k f fd ps sp)
    (h : ∀ vs H Q E, sp' vs H Q E → sp vs H Q E) : FnOk P w K mg base CX k f fd ps sp' :=
  ⟨fun vs H Q E q => F.len vs H Q E (h _ _ _ _ q), fun A outer s H args us vs Q E hr he hb hv hs => F.run A outer s H args us vs Q E hr he hb hv (h _ _ _ _ hs)⟩

theorem Env0.make {P : Program} {w : World} {K : PySem.W.Frag} {mg : Str → Option Value} {base : Heap} {A : Around} {outer : List Env} {s : Shared} {H : Hp} (e : Env0 P w K mg base A outer s H) (C : Addr) (us : List Value) (kw : List (Str × Value)) :
    Env0 P w K mg base (A.under (.builtin "type.__call__" ⟨.ref C :: us, kw⟩)) outer s H := ⟨by first | exact e.frames | (simpa [Around.under, Code.envs, Code.isFrame, pushEnvs] using e.frames), e.mod, e.bs, e.bsz, e.funs, e.frf, e.hok, e.bare⟩

section
variable {X : Cx} {pins : List (Addr × Obj)} {σ : St} {H : Hp} {s s' : Shared}
/-- from a body: what a callee wants -/
theorem Inv.env0 (I : Inv X pins σ H s) : Env0 X.prog X.w X.K X.mg X.base X.A X.stack s H :=
  ⟨I.ok.frames, I.ok.mod, I.bs, Nat.le_trans I.ok.bsz I.sz, I.stack, I.stkFree, I.hok, I.bare⟩
/-- behind a call -/
theorem Inv.after {Q : VK} {u : Value} (I : Inv X pins σ H s) (h : CE X.stack X.prog X.w H s Q u s') : EP X pins σ Q u s' := by
  obtain ⟨v, H', os, bare, un, hok, r, q⟩ := h
  obtain ⟨hh, g, d, t, os'⟩ := s'
  obtain rfl : os' = s.os := os
  exact ⟨v, H', I.call (h' := hh) (g' := g) (d' := d) (t' := t) (ch := []) un hok bare (fun b z => absurd z (by simp)), r, q⟩
end

/-! ### calls -/
/-- f(..): the written arguments, then the defaults dvs; E: what is wanted of an exception -/
noncomputable def tCall (sp : Sp) (dvs : List V) (E : XK) (t : TA) : TE := fun σ H Q => t σ H fun vs H1 => sp (vs ++ dvs) H1 Q E
/-- o.m(..) of an instance of the class at C -/
noncomputable def tMeth (C : Addr) (m : Str) (sp : Sp) (dvs : List V) (E : XK) (ta : TE) (t : TA) : TE := fun σ H Q => ta σ H fun x H1 => ∃ a dx fs, x = .ref a ∧ H1 a = some (.ins C dx fs) ∧ fs.lookup m = none ∧
  t σ H1 fun vs H2 => sp (x :: (vs ++ dvs)) H2 Q E
/-- C(..): a new instance and its dict, then __init__ -/
noncomputable def tMake (C : Addr) (sp : Sp) (dvs : List V) (E : XK) (t : TA) : TE := fun σ H Q => t σ H fun vs H1 => ∀ x dx, H1 x = none → H1 dx = none → dx ≠ x →
  sp (.ref x :: (vs ++ dvs)) (upd (upd H1 dx (.own x)) x (.ins C dx [])) (fun v H2 => v = .non ∧ Q (.ref x) H2) E

/-- how the parameters are bound: us the positional arguments, kw the keywords' values by name, ds the defaults that fill up -/
noncomputable def Binds (K : PySem.W.Frag) (fd : FuncData) (ps : List Str) (ds : List Value) : Prop :=
  ∀ (s : Shared) (us : List Value), K.In s.heap → (us ++ ds).length = ps.length → BindsTo s fd ⟨us, []⟩ (ps.zip (us ++ ds))
/-- every parameter is given -/
theorem Binds.all {K : PySem.W.Frag} {fd : FuncData} {ps : List Str} (h : ∀ us : List Value, us.length = ps.length → bindArgs fd ⟨us, []⟩ = pure (ps.zip us)) : Binds K fd ps [] := fun s us _ hl => by
  rw [List.append_nil] at hl ⊢
  exact .of_eq (h us hl)

/-- an exception of a callee reaches what this body wants of exceptions -/
noncomputable def Passes (CX : CXT) (X : Cx) (E : XK) : Prop := ∀ (pins : List (Addr × Obj)) (σ : St) (H : Hp) (s : Shared) (e : Value) (s' : Shared), Inv X pins σ H s → CX X.stack H s E e s' → X.xe e s'

section
variable {X : Cx} {CX : CXT} {k : Nat} {f C : Addr} {fd : FuncData} {ps : List Str} {sp : Sp} {dvs : List V} {ds : List Value} {E : XK} {x m : Str} {p pos apos : Pos} {e o : Expr} {es : List Expr} {ta : TE} {t : TA}

/-- the callee runs -/
theorem run_fn {pins : List (Addr × Obj)} {σ : St} {H : Hp} {s : Shared} {Q : VK} {us : List Value} {vs : List V} (F : FnOk X.prog X.w X.K X.mg X.base CX k f fd ps sp) (hr : Room k X.A) (hb : Binds X.K fd ps ds) (hd : Vals dvs ds) (hx : Passes CX X E)
    (I : Inv X pins σ H s) (r : Vals vs us) (h : sp (vs ++ dvs) H Q E) : wpAny (model X.prog X.w) X.A (call (.ref f) us) (EP X pins σ Q) X.xe s := by
  have r2 : Vals (vs ++ dvs) (us ++ ds) := r.append hd
  have hl : (us ++ ds).length = ps.length := by rw [← r2.length]; exact F.len _ _ _ _ h
  refine wpAny_call (codeAny_mono (F.run X.A X.stack s H ⟨us, []⟩ (us ++ ds) (vs ++ dvs) Q E hr I.env0 (hb s us I.kIn hl) r2 h) fun r s' hq => ?_)
  cases r with
  | error e => exact hx pins σ H s e s' I hq
  | ok fl =>
    cases fl with
    | ret u => exact I.after hq
    | next => exact False.elim hq
    | brk => exact False.elim hq
    | cont => exact False.elim hq

theorem pe_call (F : FnOk X.prog X.w X.K X.mg X.base CX k f fd ps sp) (hr : Room k X.A) (hg : Gl X x) (hm : X.mg x = some (.ref f)) (hk : PySem.W.keepIn X.K (.ref f) = true) (hb : Binds X.K fd ps ds) (hd : Vals dvs ds) (hx : Passes CX X E)
    (ha : PA X (e :: es) t) (hdb : (x == ("__debug__" : Str)) = false := by decide) (he : starEach (e :: es) X.env = (false, eval e X.env) :: starEach es X.env := by rfl) (hpl : (backTo pos (starEach es X.env)).any (·.1) = false := by rfl) :
    PE X (.Call (.Name x p) (e :: es) [] pos) (tCall sp dvs E t) := by
  intro pins s σ H Q I h
  refine wpAny_Call_Name_kw (ld_glob I hg hm ?_ hdb)
  refine PySem.W.callWith_K (h₀ := X.base) I.ok.mod.kin hk (thn (ha pos pins s σ H _ I h) fun us s1 ⟨vs, H1, I1, r, q⟩ => ⟨I1.kIn, ?_⟩) he hpl
  exact run_fn F hr hb hd hx I1 r q

/-- o.m(e, ..) -/
theorem pe_meth {pl : Sem Bool} (he : PE X o ta) (c : Cls X.K C) (hm : Meth X.K C m f) (F : FnOk X.prog X.w X.K X.mg X.base CX k f fd ps sp) (hr : Room k X.A) (hb : Binds X.K fd ps ds) (hd : Vals dvs ds) (hx : Passes CX X E) (ha : PA X (e :: es) t)
    (hst : starEach (e :: es) X.env = (false, eval e X.env) :: starEach es X.env := by rfl) (hpl : (backTo pos (starEach es X.env)).any (·.1) = false := by rfl)
    (ht : eval (.Call (.Attribute o m apos) (e :: es) [] pos) X.env = (do
      let ov ← eval o X.env
      standAt apos.atName
      let (f, first) ← holding [ov] (getMethod ov m pl)
      callWith pos f first (backTo pos (starEach (e :: es) X.env)) (backToKw pos (keywordEach [] X.env))) := by rfl) :
    PE X (.Call (.Attribute o m apos) (e :: es) [] pos) (tMeth C m sp dvs E ta t) := by
  intro pins s σ H Q I h
  refine PySem.W.methodCall_KW (pl := pl) (thn (he pins s σ H _ I h) fun u s1 ⟨x, H1, I1, rx, a, dx, fs, ex, ea, l, q⟩ => ?_) ht
  subst ex
  obtain rfl : u = Value.ref a := rx
  refine getmeth_ok I1 ea c hm l ?_
  refine PySem.W.callWith_K (first := [.ref a]) (h₀ := X.base) I.ok.mod.kin hm.kp (thn (ha pos pins s1 σ H1 _ I1 q) fun us s2 ⟨vs, H2, I2, r, q2⟩ => ⟨I2.kIn, ?_⟩) hst hpl
  exact run_fn (us := .ref a :: us) (vs := .ref a :: vs) F hr hb hd hx I2 (.cons rfl r) q2
/-- o.m() -/
theorem pe_meth0 {pl : Sem Bool} (he : PE X o ta) (c : Cls X.K C) (hm : Meth X.K C m f) (F : FnOk X.prog X.w X.K X.mg X.base CX k f fd ps sp) (hr : Room k X.A) (hb : Binds X.K fd ps ds) (hd : Vals dvs ds) (hx : Passes CX X E)
    (ht : eval (.Call (.Attribute o m apos) [] [] pos) X.env = (do
      let ov ← eval o X.env
      standAt apos.atName
      let (f, first) ← holding [ov] (getMethod ov m pl)
      callWith pos f first (backTo pos (starEach [] X.env)) (backToKw pos (keywordEach [] X.env))) := by rfl) :
    PE X (.Call (.Attribute o m apos) [] [] pos) (tMeth C m sp dvs E ta tNil) := by
  intro pins s σ H Q I h
  refine PySem.W.methodCall_KW (pl := pl) (thn (he pins s σ H _ I h) fun u s1 ⟨x, H1, I1, rx, a, dx, fs, ex, ea, l, q⟩ => ?_) ht
  subst ex
  obtain rfl : u = Value.ref a := rx
  refine getmeth_ok I1 ea c hm l ?_
  exact PySem.W.callWith_K0 (first := [.ref a]) I1.kIn hm.kp (run_fn (us := [.ref a]) (vs := [.ref a]) F hr hb hd hx I1 (.cons rfl .nil) q)

/-- what a class must have to be made -/
structure Mk (K : PySem.W.Frag) (C f : Addr) : Prop where
  makes : PySem.W.makesIn K C = true
  init : PySem.W.findIn K (.ref C) "__init__" = some (some (.ref f))
  fn : PySem.W.isFn K (.ref f) = true
  kp : PySem.W.keepIn K (.ref C) = true

theorem run_make {pins : List (Addr × Obj)} {σ : St} {H : Hp} {s : Shared} {Q : VK} {us : List Value} {vs : List V} (M : Mk X.K C f) (F : FnOk X.prog X.w X.K X.mg X.base CX k f fd ps sp) (hr : Room (k + 1) X.A) (hb : Binds X.K fd ps ds) (hd : Vals dvs ds)
    (hx : Passes CX X E) (I : Inv X pins σ H s) (r : Vals vs us)
    (h : ∀ x dx, H x = none → H dx = none → dx ≠ x → sp (.ref x :: (vs ++ dvs)) (upd (upd H dx (.own x)) x (.ins C dx [])) (fun v H2 => v = .non ∧ Q (.ref x) H2) E) :
    wpAny (model X.prog X.w) X.A (call (.ref C) us) (EP X pins σ Q) X.xe s := by
  have hq := h (s.heap.objs.size + 1) s.heap.objs.size (I.hok.fresh (Nat.le_succ _)) (I.hok.fresh (Nat.le_refl _)) (Nat.ne_of_lt (Nat.lt_succ_self _))
  have I2 := Inv.made (C := C) I
  have r2 : Vals (V.ref (s.heap.objs.size + 1) :: (vs ++ dvs)) (Value.ref (s.heap.objs.size + 1) :: (us ++ ds)) := .cons rfl (r.append hd)
  have hl : (Value.ref (s.heap.objs.size + 1) :: us ++ ds).length = ps.length := by
    have e := r2.length
    rw [F.len _ _ _ _ hq] at e
    exact e.symm
  refine wpAny_call (make_map (f := f) I.kIn M.makes M.init (beq_iff_eq.mp M.fn) (codeAny_mono (F.run _ X.stack _ _ ⟨Value.ref (s.heap.objs.size + 1) :: us, []⟩ (Value.ref (s.heap.objs.size + 1) :: (us ++ ds)) _ _ E (hr.make C us [])
    (I2.env0.make C us []) (hb _ (Value.ref (s.heap.objs.size + 1) :: us) I2.kIn hl) r2 hq) fun r s' hq' => ?_))
  cases r with
  | error e => exact hx pins σ _ _ e s' I2 hq'
  | ok fl =>
    cases fl with
    | ret u =>
      obtain ⟨v, H', I3, rv, ev, q3⟩ := I2.after hq'
      subst ev
      exact ⟨rv, ⟨V.ref (s.heap.objs.size + 1), H', I3, rfl, q3⟩⟩
    | next => exact False.elim hq'
    | brk => exact False.elim hq'
    | cont => exact False.elim hq'
theorem pe_make (M : Mk X.K C f) (F : FnOk X.prog X.w X.K X.mg X.base CX k f fd ps sp) (hr : Room (k + 1) X.A) (hg : Gl X x) (hm : X.mg x = some (.ref C)) (hb : Binds X.K fd ps ds) (hd : Vals dvs ds) (hx : Passes CX X E)
    (ha : PA X (e :: es) t) (hdb : (x == ("__debug__" : Str)) = false := by decide) (he : starEach (e :: es) X.env = (false, eval e X.env) :: starEach es X.env := by rfl) (hpl : (backTo pos (starEach es X.env)).any (·.1) = false := by rfl) :
    PE X (.Call (.Name x p) (e :: es) [] pos) (tMake C sp dvs E t) := by
  intro pins s σ H Q I h
  refine wpAny_Call_Name_kw (ld_glob I hg hm ?_ hdb)
  refine PySem.W.callWith_K (h₀ := X.base) I.ok.mod.kin M.kp (thn (ha pos pins s σ H _ I h) fun us s1 ⟨vs, H1, I1, r, q⟩ => ⟨I1.kIn, ?_⟩) he hpl
  exact run_make M F hr hb hd hx I1 r q
end

/-! ### keywords -/
section
variable {X : Cx} {CX : CXT} {k : Nat} {f C : Addr} {fd : FuncData} {ps ks : List Str} {sp : Sp} {E : XK} {x m : Str} {p pos apos kpos : Pos} {e o : Expr} {es : List Expr} {kws : List Keyword} {te ta : TE} {t tk : TA} {nm : Option Str}

/-- how a call with keywords binds: g puts the positional values us and the keywords' values ws (names ks) in the parameters' order, defaults among them -/
structure KBinds (K : PySem.W.Frag) (fd : FuncData) (ps ks : List Str) (g : List Value → List Value → List Value) (gV : List V → List V → List V) : Prop where
  to : ∀ (s : Shared) (us ws : List Value), K.In s.heap → (g us ws).length = ps.length → BindsTo s fd ⟨us, ks.zip ws⟩ (ps.zip (g us ws))
  rel : ∀ {vs : List V} {us : List Value} {zs : List V} {ws : List Value}, Vals vs us → Vals zs ws → Vals (gV vs zs) (g us ws)
variable {g : List Value → List Value → List Value} {gV : List V → List V → List V}
end

/-! ### a def's body keeps its promise -/
/-- names: the parameters first -/
structure FnScope (N P : List Str) (sc : Scope) : Prop where
  kind : sc.kind = .function
  co : sc.isCoroutine = false
  gen : sc.isGenerator = false
  nd : N.Nodup
  pre : N.take P.length = P
  par : ∀ x ∈ P, sc.names.lookup x = some .local ∨ sc.names.lookup x = some .cell
  nofree : ∀ y ∈ sc.names, y.2 ≠ .free

theorem bindL_out {kindOf : Str → Option NameKind} {x : Str} : ∀ {binds : List (Str × Value)} {m : Str → Option Value}, (∀ v, (x, v) ∉ binds) → bindL kindOf binds m x = m x
  | [], _, _ => rfl
  | (n, v) :: r, m, h => by
    unfold bindL
    rw [bindL_out fun w hw => h w (List.mem_cons_of_mem _ hw)]
    split
    · have : x ≠ n := by rintro rfl; exact h v List.mem_cons_self
      simp [this]
    · rfl
theorem bindC_out {kindOf : Str → Option NameKind} {x : Str} : ∀ {binds : List (Str × Value)} {m : Str → Option Value}, (∀ v, (x, v) ∉ binds) → bindC kindOf binds m x = m x
  | [], _, _ => rfl
  | (n, v) :: r, m, h => by
    unfold bindC
    rw [bindC_out fun w hw => h w (List.mem_cons_of_mem _ hw)]
    split
    · rfl
    · have : x ≠ n := by rintro rfl; exact h v List.mem_cons_self
      simp [this]
theorem bindL_get {kindOf : Str → Option NameKind} {x : Str} {v : Value} : ∀ {P : List Str} {vs : List Value} {i : Nat} {m : Str → Option Value}, P.Nodup → P[i]? = some x → vs[i]? = some v → kindOf x = some .local →
    bindL kindOf (P.zip vs) m x = some v
  | [], _, _, _, _, h, _, _ => by simp at h
  | _ :: _, [], _, _, _, _, h, _ => by simp at h
  | p :: P, w :: vs, 0, m, nd, h1, h2, hk => by
    simp at h1 h2; subst h1; subst h2
    show bindL kindOf ((p, w) :: P.zip vs) m p = _
    unfold bindL
    rw [bindL_out fun v hv => (List.nodup_cons.mp nd).1 (List.of_mem_zip hv).1, if_pos hk]
    simp
  | p :: P, w :: vs, i + 1, m, nd, h1, h2, hk => by
    show bindL kindOf ((p, w) :: P.zip vs) m x = _
    unfold bindL
    exact bindL_get (i := i) (List.nodup_cons.mp nd).2 (by simpa using h1) (by simpa using h2) hk
theorem bindC_get {kindOf : Str → Option NameKind} {x : Str} {v : Value} : ∀ {P : List Str} {vs : List Value} {i : Nat} {m : Str → Option Value}, P.Nodup → P[i]? = some x → vs[i]? = some v → kindOf x ≠ some .local →
    bindC kindOf (P.zip vs) m x = some v
  | [], _, _, _, _, h, _, _ => by simp at h
  | _ :: _, [], _, _, _, _, h, _ => by simp at h
  | p :: P, w :: vs, 0, m, nd, h1, h2, hk => by
    simp at h1 h2; subst h1; subst h2
    show bindC kindOf ((p, w) :: P.zip vs) m p = _
    unfold bindC
    rw [bindC_out fun v hv => (List.nodup_cons.mp nd).1 (List.of_mem_zip hv).1, if_neg hk]
    simp
  | p :: P, w :: vs, i + 1, m, nd, h1, h2, hk => by
    show bindC kindOf ((p, w) :: P.zip vs) m x = _
    unfold bindC
    exact bindC_get (i := i) (List.nodup_cons.mp nd).2 (by simpa using h1) (by simpa using h2) hk

/-- the names' values at the entry -/
noncomputable def start (N : List Str) (vs : List V) : St := vs.map some ++ List.replicate (N.length - vs.length) none

/-- the context of a def's body, at its entry; an exception leaves the frame, then lies as CX says -/
noncomputable def cxOf (CX : CXT) (P : Program) (w : World) (K : PySem.W.Frag) (mg : Str → Option Value) (base : Heap) (N : List Str) (qual : Str) (scope : Scope) (f : Addr) (cd : Value) (A : Around) (outer : List Env) (s : Shared) (H : Hp) (E : XK) : Cx where
  prog := P
  w := w
  K := K
  mg := mg
  base := base
  A := A.deeper (envOfC qual scope s.heap.objs.size f cd)
  N := N
  s₀ := s
  H₀ := H
  env := envOfC qual scope s.heap.objs.size f cd
  outer := outer
  stack := envOfC qual scope s.heap.objs.size f cd :: outer
  ex := []
  calm := true
  fn := fun _ => true
  pn := []
  xe := fun e s' => wpAny (model P w) (A.deeper (envOfC qual scope s.heap.objs.size f cd)) (leaving (envOfC qual scope s.heap.objs.size f cd) e) (fun _ s'' => CX outer H s E e s'') (fun e' s'' => CX outer H s E e' s'') s'

theorem cell_has {sc : Scope} {n : Nat} {x : Str} (h : sc.names.lookup x = some .cell) : ∃ c, (cellsFrom n sc.names []).lookup x = some c := by
  have q := PySem.W.cellsFrom_some sc.names n [] (.inl h)
  exact Option.isSome_iff_exists.mp q

theorem inv_start {CX : CXT} {P : Program} {w : World} {K : PySem.W.Frag} {mg : Str → Option Value} {base : Heap} {N ps : List Str} {qual : Str} {scope : Scope} {f : Addr} {cd : Value} {A : Around} {outer : List Env} {s s1 : Shared} {H : Hp} {E : XK} {us : List Value} {vs : List V}
    (S : FnScope N ps scope) (hd : A.handled = none) (e0 : Env0 P w K mg base A outer s H) (hl : vs.length = ps.length) (r : Vals vs us)
    (x : InCallC s s.heap.objs.size (bindL (envOfC qual scope s.heap.objs.size f cd).kindOf (ps.zip us) fun _ => none) (cellsFrom (s.heap.objs.size + 1) scope.names []) (bindC (envOfC qual scope s.heap.objs.size f cd).kindOf (ps.zip us) fun _ => none) s1) :
    Inv (cxOf CX P w K mg base N qual scope f cd A outer s H E) [] (start N vs) H s1 := by
  have hpl : ps.length ≤ N.length := by have := congrArg List.length S.pre; rw [List.length_take] at this; omega
  obtain ⟨h1, tk, rfl, hk⟩ := x.done
  have noA : ∀ b : Addr, b ∉ (cxOf CX P w K mg base N qual scope f cd A outer s H E).ex := fun b z => absurd (show b ∈ ([] : List Addr) from z) (by simp)
  refine ⟨⟨e0.mod, S.kind, rfl, rfl, Nat.le_refl _, fun y z c h1 h2 => ?_, fun y hy => ?_, fun y c _ h => ?_, fun _ => hd, Around.frames_deeper e0.frames, .inr ⟨rfl, rfl⟩, fun b z => absurd z (noA b), e0.bs, e0.bsz, fun b _ _ => noA b, fun b z => absurd z (noA b), e0.funs, e0.frf⟩,
    rfl, e0.bare, Un.kept hk, ⟨_, x.toInCall.ns, fun i y v h1 h2 h3 => ?_⟩, fun y c h => ⟨_, x.cell y c h⟩, e0.hok.fresh (Nat.le_refl _), fun y c h => ?_, fun p hp => absurd (show p ∈ ([] : List (Addr × Obj)) from hp) (by simp), e0.hok.kept hk, ?_⟩
  · exact name_of_addr x.apart (PySem.mem_of_lookup h1) (PySem.mem_of_lookup h2)
  · have hy : scope.names.lookup y = some .cell ∨ scope.names.lookup y = some .free := hy
    rcases hy with hy | hy
    · exact cell_has hy
    · exact absurd rfl (S.nofree _ (PySem.mem_of_lookup hy))
  · exact Nat.le_of_lt (x.above y c (PySem.mem_of_lookup h))
  · have hi : i < vs.length := by
      unfold start at h2
      by_cases hi : i < vs.length
      · exact hi
      · rw [List.getElem?_append_right (by simpa using hi)] at h2
        rw [List.getElem?_replicate] at h2
        split at h2 <;> cases h2
    have ha : vs[i]? = some v := by
      unfold start at h2
      rw [List.getElem?_append_left (by simpa using hi), List.getElem?_map] at h2
      cases e : vs[i]? with
      | none => rw [e] at h2; cases h2
      | some a => rw [e] at h2; cases h2; rfl
    obtain ⟨u, hu, rv⟩ := r.get ha
    have hp : ps[i]? = some y := by
      rw [← S.pre, List.getElem?_take_of_lt (by omega)]; exact h1
    have ndP : ps.Nodup := by rw [← S.pre]; exact S.nd.sublist (List.take_sublist _ _)
    refine ⟨u, rv, ?_⟩
    rcases S.par y (List.mem_of_getElem? hp) with k | k
    · exact .inl ⟨k, bindL_get ndP hp hu k⟩
    · obtain ⟨c, e⟩ := cell_has (n := s.heap.objs.size + 1) k
      refine .inr ⟨.inl k, c, e, ?_⟩
      have q := x.cell y c e
      rw [bindC_get ndP hp hu (by show scope.names.lookup y ≠ _; rw [k]; decide)] at q
      exact q
  · exact e0.hok.fresh (Nat.le_of_lt (x.above y c (PySem.mem_of_lookup h)))
  · unfold start
    show _ = N.length
    rw [List.length_append, List.length_map, List.length_replicate]
    omega

/-- THE RULE: a def (or a method) of the text, by its body. The body's reading t is chosen for each entry; it is run at the parameters' values -/
theorem fn_of {CX : CXT} {P : Program} {w : World} {K : PySem.W.Frag} {mg : Str → Option Value} {base : Heap} {k : Nat} {f : Addr} {name qual : Str} {params : Arguments} {body : List Stmt} {scope : Scope} {dV kV doc pm cdv ct oc : Value} {an od : Option Addr}
    {osl : Array (Option Value)} {N ps : List Str} {sp : Sp} (lk : K.lookup f = some ⟨oc, od, .func (PySem.W.fnOf name qual params body scope dV kV doc pm an cdv ct), osl⟩) (hcd : PySem.W.codeIn K cdv qual = true) (S : FnScope N ps scope)
    (len : ∀ vs H Q E, sp vs H Q E → vs.length = ps.length)
    (hbody : ∀ (A : Around) (outer : List Env) (s : Shared) (H : Hp) (vs : List V) (Q : VK) (E : XK), Room k (A.deeper (envOfC qual scope s.heap.objs.size f cdv)) → sp vs H Q E →
      ∃ t, PSs (cxOf CX P w K mg base N qual scope f cdv A outer s H E) body t ∧ t { nx := fun _ H' => Q .non H', rt := Q } (start N vs) H) :
    FnOk P w K mg base CX (k + 1) f (PySem.W.fnOf name qual params body scope dV kV doc pm an cdv ct) ps sp := by
  refine ⟨len, fun A outer s H args us vs Q E hr e0 hb r hsp => ?_⟩
  have hl := len _ _ _ _ hsp
  have KX : K.In s.heap := e0.mod.kin.keeps fun b o e => (e0.bs b o e).1
  have lim : s.heap.NoLimit := e0.mod.nolimit.keeps fun b o e => (e0.bs b o e).1
  have hkind : ∀ y ∈ ps.zip us, scope.names.lookup y.1 = some .local ∨ (scope.names.lookup y.1 = some .cell ∧ ((cellsFrom (s.heap.objs.size + 1) scope.names []).lookup y.1).isSome = true) := fun ⟨n, v⟩ hy => by
    rcases S.par n (List.of_mem_zip hy).1 with q | q
    · exact .inl q
    · exact .inr ⟨q, PySem.W.cellsFrom_some _ _ _ (.inl q)⟩
  refine codeAny_call_function hr.depth (KX _ _ lk) rfl S.co S.gen rfl (PySem.W.codeRec_of KX hcd) (hb _ _ _ _ ?_)
  refine wpAny_newFunctionEnv_cells S.kind hkind fun env he s1 x => ?_
  subst he
  refine ⟨lim.keeps x.toInCall.keep, codeAny_func ?_⟩
  obtain ⟨t, ht, hq⟩ := hbody A outer s H vs Q E (hr.deeper _) hsp
  have I : Inv (cxOf CX P w K mg base N qual scope f cdv A outer s H E) [] (start N vs) H s1 := inv_start S hr.hd e0 hl r x
  refine wpAny_mono (ht [] s1 (start N vs) H _ I hq) (fun fl s' hs => ?_) fun e s' hs => hs
  have fin : ∀ {σ' : St} {H' : Hp} {v : V} {u : Value}, Inv (cxOf CX P w K mg base N qual scope f cdv A outer s H E) [] σ' H' s' → RelV v u → Q v H' → CE outer P w H s Q u s' :=
    fun {σ' H' v u} J rv q => ⟨v, H', J.os, J.bare, J.base, J.hok, rv, q⟩
  cases fl with
  | ret u =>
    obtain ⟨v, σ', H', J, rv, q⟩ := hs
    exact fin J rv q
  | next =>
    obtain ⟨σ', H', J, q⟩ := hs
    exact fin (v := V.non) (u := Value.none) J rfl q
  | brk =>
    obtain ⟨_, _, _, q⟩ := hs
    exact False.elim q
  | cont =>
    obtain ⟨_, _, _, q⟩ := hs
    exact False.elim q
end L2

namespace L2
open PySem PySem.Spec PyProof.Rows
section
variable {X : Cx} {x : Str} {p pos : Pos} {e : Expr} {es : List Expr} {t : TA} {id T : String} {r : List V → Hp → VK → Prop}

noncomputable def tCB (r : List V → Hp → VK → Prop) (t : TA) : TE := fun σ H Q => t σ H fun vs H1 => r vs H1 Q
/-- f(e, ..), f a built-in function -/
theorem pe_callB (hc : CallR X (.builtin id) r) (hg : Gl X x) (hm : X.mg x = none) (hv : bootBuiltins x = some (.builtin id)) (ha : PA X (e :: es) t) (hn : x ≠ "__name__" := by decide) (hdb : (x == ("__debug__" : Str)) = false := by decide)
    (he : starEach (e :: es) X.env = (false, eval e X.env) :: starEach es X.env := by rfl) (hpl : (backTo pos (starEach es X.env)).any (·.1) = false := by rfl) : PE X (.Call (.Name x p) (e :: es) [] pos) (tCB r t) := by
  intro pins s σ H Q I h
  refine wpAny_Call_Name_kw (ld_blt I hg hm hv ?_ hn hdb)
  exact PyProof.Rows.callWith_builtin1 (thn (ha pos pins s σ H _ I h) fun us s1 ⟨vs, H1, I1, r1, q1⟩ => hc pins s1 σ H1 vs us Q I1 r1 q1) he hpl
/-- T(e, ..), T a built-in type -/
theorem pe_callTy (hc : CallR X (.type T) r) (hg : Gl X x) (hm : X.mg x = none) (hv : bootBuiltins x = some (.type T)) (ha : PA X (e :: es) t) (hn : x ≠ "__name__" := by decide) (hdb : (x == ("__debug__" : Str)) = false := by decide)
    (he : starEach (e :: es) X.env = (false, eval e X.env) :: starEach es X.env := by rfl) (hpl : (backTo pos (starEach es X.env)).any (·.1) = false := by rfl) : PE X (.Call (.Name x p) (e :: es) [] pos) (tCB r t) := by
  intro pins s σ H Q I h
  refine wpAny_Call_Name_kw (ld_blt I hg hm hv ?_ hn hdb)
  exact PyProof.Rows.callWith_type1 (thn (ha pos pins s σ H _ I h) fun us s1 ⟨vs, H1, I1, r1, q1⟩ => hc pins s1 σ H1 vs us Q I1 r1 q1) he hpl
end
end L2

namespace HT
open PySem PyProof.Rows



section
open PySem.SeqAt
open PySem.AutoSeq1 (wpAny_loadPart')
open PySem.MeetsSeq PySem.MeetsSeq2 PySem.MeetsSeq3

end

section
variable {prog : Program} {w : World} {A : Around} {E : Value → Shared → Prop} {s : Shared}


/-- t + u, t not empty -/
theorem cat_tup {t b : Addr} {vs ws : List Value} {Q : Value → Shared → Prop} (ht : IsTup s.heap t vs.toArray) (hb : IsTup s.heap b ws.toArray) (hv : vs ≠ [])
    (h1 : ws = [] → Q (.ref t) s) (h2 : ws ≠ [] → Q (.ref s.heap.objs.size) { s with heap := s.heap.push { cls := .type "tuple", data := .seq (vs ++ ws).toArray } })
    (hsz : vs.length + ws.length ≤ sizeLine) : wpAny (model prog w) A (binaryOp .Add (.ref t) (.ref b)) Q E s := by
  obtain ⟨⟨cls, dd, data, sl⟩, ho, hc, n, hd⟩ := id ht
  obtain ⟨⟨cls2, dd2, data2, sl2⟩, ho2, hc2, n2, hd2⟩ := id hb
  simp only at hc hd hc2 hd2
  subst hc hd hc2 hd2
  have e : vs.toArray ++ ws.toArray = (vs ++ ws).toArray := by simp
  by_cases hw : ws = []
  · exact concat_meets ⟨_, ho, rfl⟩ ⟨_, ho2, rfl⟩ noFill_tuple_add seq_tuple_add PySem.F.slot_tuple_add PySem.F.entry_tuple_add (PySem.F.args_tuple_add_2 _ _)
      (tuple_addW1 t b vs.toArray ws.toArray n n2 dd dd2 sl sl2 (by simpa using hv) (by simp [hw])) ⟨ho, ho2, h1 hw⟩
  · refine concat_meets ⟨_, ho, rfl⟩ ⟨_, ho2, rfl⟩ noFill_tuple_add seq_tuple_add PySem.F.slot_tuple_add PySem.F.entry_tuple_add (PySem.F.args_tuple_add_2 _ _)
      (tuple_addW2 t b vs.toArray ws.toArray n n2 dd dd2 sl sl2 (by simpa using hv) (by simpa using hw) (by rw [List.size_toArray, List.size_toArray]; exact hsz)) ⟨ho, ho2, ?_⟩
    rw [e]
    exact h2 hw

/-! ### t[a:b], not the whole -/
/-- a slice's bound as a place among n (d where it is left out) -/
noncomputable def sIx (n d : Nat) : Option Int → Nat
  | none => d
  | some v => if v < 0 then (v + (n : Int)).toNat else min v.toNat n
theorem sIx_le (n d : Nat) (hd : d ≤ n) (o : Option Int) : sIx n d o ≤ n := by
  cases o with
  | none => exact hd
  | some v =>
    show (if v < 0 then (v + (n : Int)).toNat else min v.toNat n) ≤ n
    by_cases hv : v < 0
    · rw [if_pos hv]; omega
    · rw [if_neg hv]; exact Nat.min_le_right _ _
theorem clip_eq (v : Int) (n d : Nat) : (if v < 0 then max (v + (n : Int)) 0 else min v (n : Int)) = ((sIx n d (some v) : Nat) : Int) := by
  show (if v < 0 then max (v + (n : Int)) 0 else min v (n : Int)) = (((if v < 0 then (v + (n : Int)).toNat else min v.toNat n) : Nat) : Int)
  by_cases hv : v < 0
  · simp only [if_pos hv]; omega
  · simp only [if_neg hv]; omega
theorem adjust_gen (lo hi : Option Int) (n : Nat) : Builtin.Slice.sliceAdjust lo hi 1 (n : Int) = (((sIx n 0 lo : Nat) : Int), ((sIx n n hi : Nat) : Int)) := by
  have h1 : ¬ ((1 : Int) < 0) := by omega
  unfold Builtin.Slice.sliceAdjust
  simp only [h1, if_false]
  refine Prod.ext ?_ ?_
  · cases lo with
    | none => rfl
    | some v => exact clip_eq v n 0
  · cases hi with
    | none => rfl
    | some v => exact clip_eq v n n
theorem places_gen (i j : Nat) : Builtin.Slice.slicePlaces (i : Int) (j : Int) 1 = j - i := by
  unfold Builtin.Slice.slicePlaces
  have h1 : (1 : Int) > 0 := by omega
  simp only [h1, if_true, Int.ediv_one]
  split <;> omega
theorem slicePart_ {v : Value} {o : Option Int} {Q : Option Int → Shared → Prop} (p : IsPart v o) (h : Q o s) : wpAny (model prog w) A (Builtin.Slice.slicePartIndex v) Q E s := by
  cases p with
  | none => exact slicePart_none h
  | int i t => exact slicePart_int h
theorem sliceApplied_gen {sl : Addr} {vl vu : Value} {lo hi : Option Int} {n : Nat} {Q : Int × Int × Nat → Shared → Prop} (hs : s.heap.IsSliceOf sl vl vu .none) (pl : IsPart vl lo) (pu : IsPart vu hi)
    (h : Q (((sIx n 0 lo : Nat) : Int), 1, sIx n n hi - sIx n 0 lo) s) : wpAny (model prog w) A (Builtin.Slice.sliceApplied (.ref sl) (pure (n : Int))) Q E s := by
  obtain ⟨os, hos, hcs, hds⟩ := id hs
  unfold Builtin.Slice.sliceApplied Builtin.Slice.sliceFields
  refine wpAny_bind (wpAny_bind (wpAny_field hos hds (x := vl) rfl (wpAny_bind (wpAny_field hos hds (x := vu) rfl (wpAny_bind (wpAny_field hos hds (x := .none) rfl (wpAny_pure ?_)))))))
  refine wpAny_bind (slicePart_none ?_)
  show wpAny _ _ (if ((1 : Int) == 0) = true then _ else _) _ _ s
  rw [if_neg (by decide)]
  refine wpAny_bind (slicePart_ pl (wpAny_bind (slicePart_ pu (wpAny_bind (wpAny_pure ?_)))))
  show wpAny _ _ (match Builtin.Slice.sliceAdjust lo hi 1 (n : Int) with | (lo, hi) => pure (lo, (1 : Int), Builtin.Slice.slicePlaces lo hi 1)) _ _ s
  rw [adjust_gen lo hi n]
  show wpAny _ _ (pure (((sIx n 0 lo : Nat) : Int), (1 : Int), Builtin.Slice.slicePlaces ((sIx n 0 lo : Nat) : Int) ((sIx n n hi : Nat) : Int) 1)) _ _ s
  rw [places_gen]
  exact wpAny_pure h
theorem pick_gen (xs : Array Value) (i k : Nat) : ((List.range k).filterMap fun (m : Nat) => xs[((i : Int) + (m : Int) * 1).toNat]?).toArray = ((xs.toList.drop i).take k).toArray := by
  have e : (fun (m : Nat) => xs[((i : Int) + (m : Int) * 1).toNat]?) = fun m => xs[i + m]? := by
    funext m
    have : ((i : Int) + (m : Int) * 1).toNat = i + m := by omega
    rw [this]
  rw [e]
  have := pick_run xs i k
  rw [List.filterMap_map] at this
  have e2 : ((fun x => xs[x]?) ∘ fun x => i + x) = fun m => xs[i + m]? := rfl
  rw [e2] at this
  rw [this]

theorem getItem_tuple_cut {t sl : Addr} {items : Array Value} {vl vu : Value} {lo hi : Option Int} {Q : Value → Shared → Prop} (ht : IsTup s.heap t items) (hs : s.heap.IsSliceOf sl vl vu .none) (pl : IsPart vl lo) (pu : IsPart vu hi)
    (hw : ¬ (sIx items.size 0 lo = 0 ∧ sIx items.size items.size hi = items.size))
    (h : Q (.ref s.heap.objs.size) { s with heap := s.heap.push { cls := .type "tuple", data := .seq ((items.toList.drop (sIx items.size 0 lo)).take (sIx items.size items.size hi - sIx items.size 0 lo)).toArray } })
    (hsz : items.size ≤ sizeLine) : wpAny (model prog w) A (getItem (.ref t) (.ref sl)) Q E s := by
  have htake : sizeOk (.seq ((items.toList.drop (sIx items.size 0 lo)).take (sIx items.size items.size hi - sIx items.size 0 lo)).toArray) := by
    show ((items.toList.drop (sIx items.size 0 lo)).take (sIx items.size items.size hi - sIx items.size 0 lo)).toArray.size ≤ sizeLine
    rw [List.size_toArray, List.length_take, List.length_drop, Array.length_toList]
    omega
  have hj : sIx items.size items.size hi ≤ items.size := sIx_le _ _ (Nat.le_refl _) hi
  obtain ⟨os, hos, hcs, hds⟩ := id hs
  have hTs : s.TypeIs (.ref sl) "slice" := ⟨os, hos, hcs⟩
  unfold getItem
  try with_reducible refine wpAny_holding ?_
  first | refine wpAny_bind (wpAny_pure ?_) | skip
  refine wpAny_bind (wpAny_sequenceKey ht.typeIs (by decide) ?_)
  refine wpAny_bind (wpAny_callSpecial?_slot (name := Str.ofString "__getitem__") ht.typeIs PyProof.Rows.slot_tuple_getitem
    (wpAny_call_entry PyProof.Rows.slot_tuple_getitem ht.typeIs entry_tuple_getitem ?_ (args_tuple_getitem _ _)))
  show wpAny _ _ (Builtin.Tuple.tupleItemsOf (.ref t) >>= _) _ _ s
  refine wpAny_bind (tupleItemsOf_ ht ?_)
  refine wpAny_bind (wpAny_typeOf hTs ?_)
  rw [if_pos (by decide)]
  refine wpAny_bind (sliceApplied_gen hs pl pu ?_)
  have hno : ¬ ((((sIx items.size 0 lo : Nat) : Int) == 0 && (1 : Int) == 1 && (sIx items.size items.size hi - sIx items.size 0 lo) == items.size) = true) := by
    intro q
    rw [Bool.and_eq_true, Bool.and_eq_true] at q
    have q1 : ((sIx items.size 0 lo : Nat) : Int) = 0 := eq_of_beq q.1.1
    have q2 : sIx items.size items.size hi - sIx items.size 0 lo = items.size := eq_of_beq q.2
    exact hw ⟨by omega, by omega⟩
  show wpAny _ _ (if (((sIx items.size 0 lo : Nat) : Int) == 0 && (1 : Int) == 1 && (sIx items.size items.size hi - sIx items.size 0 lo) == items.size) = true then _ else _) _ _ s
  rw [if_neg hno, pick_gen]
  first
    | exact wpAny_bind (m := Builtin.Tuple.tupleExact _) (wpAny_newObj_type (wpAny_pure ⟨_, rfl, wpAny_pure h⟩) htake)
    | exact wpAny_bind (m := Builtin.Tuple.tupleExact _) (wpAny_newObj_type (wpAny_bind (wpAny_pure (wpAny_pure ⟨_, rfl, wpAny_pure h⟩))) htake)
    | exact wpAny_bind (wpAny_bind (m := Builtin.Tuple.tupleExact _) (wpAny_newObj_type (wpAny_pure (wpAny_pure ⟨_, rfl, wpAny_pure h⟩)) htake))
    | exact wpAny_bind (wpAny_bind (m := Builtin.Tuple.tupleExact _) (wpAny_newObj_type (wpAny_pure ⟨_, rfl, wpAny_pure h⟩) htake))
end
end HT

namespace L2
open PySem PySem.Spec PyProof.Rows

/-! ### the parts of a slice -/
noncomputable abbrev TO := St → Hp → (Option Int → Hp → Prop) → Prop
/-- a slice's part (left out, or an int) -/
noncomputable def PO (X : Cx) (e : Option Expr) (t : TO) : Prop :=
  ∀ (pins : List (Addr × Obj)) (s : Shared) (σ : St) (H : Hp) (Q : Option Int → Hp → Prop), Inv X pins σ H s → t σ H Q →
    wpAny (model X.prog X.w) X.A (evalPart e X.env) (fun u s' => ∃ o H', Inv X pins σ H' s' ∧ IsPart u o ∧ Q o H') X.xe s
noncomputable def tNoPart : TO := fun _ H Q => Q none H
noncomputable def tPart (t : TE) : TO := fun σ H Q => t σ H fun x H1 => ∃ i, x = .int i ∧ Q (some i) H1


section
variable {X : Cx} {e : Expr} {te : TE} {lo hi : Option Expr} {tl th : TO} {pos p2 : Pos}

theorem po_none : PO X none tNoPart := by
  intro pins s σ H Q I h
  rw [evalPart_none]
  exact wpAny_pure ⟨none, H, I, .none, h⟩
theorem po_some (h : PE X e te) : PO X (some e) (tPart te) := by
  intro pins s σ H Q I hw
  rw [evalPart_some]
  refine thn (h pins s σ H _ I hw) fun u s1 ⟨x, H1, I1, r1, q1⟩ => ?_
  obtain ⟨i, rfl, q⟩ := q1
  obtain ⟨t, rfl⟩ := r1
  exact ⟨some i, H1, I1, .int i t, q⟩

/-- what a slice of a value is, by values: the slice object stands at sl -/
noncomputable def SlR (X : Cx) (r : V → Option Int → Option Int → Hp → VK → Prop) : Prop :=
  ∀ (pins : List (Addr × Obj)) (s : Shared) (σ : St) (H : Hp) (x : V) (v vl vu : Value) (lo hi : Option Int) (sl : Addr) (Q : VK), Inv X pins σ H s → RelV x v → s.heap.IsSliceOf sl vl vu .none → IsPart vl lo → IsPart vu hi → r x lo hi H Q →
    ∃ T id, typeLookup (.type T) "__getitem__" = pure (some (.builtin id)) ∧ s.TypeIs v T ∧ wpAny (model X.prog X.w) X.A (getItem v (.ref sl)) (EP X pins σ Q) X.xe s
theorem SlR.or {r r' : V → Option Int → Option Int → Hp → VK → Prop} (h : SlR X r) (h' : SlR X r') : SlR X (fun x lo hi H Q => r x lo hi H Q ∨ r' x lo hi H Q) := by
  intro pins s σ H x v vl vu lo hi sl Q I rx hs pl pu q
  rcases q with q | q
  · exact h pins s σ H x v vl vu lo hi sl Q I rx hs pl pu q
  · exact h' pins s σ H x v vl vu lo hi sl Q I rx hs pl pu q
noncomputable def tSl (r : V → Option Int → Option Int → Hp → VK → Prop) (te : TE) (tl th : TO) : TE := fun σ H Q => te σ H fun x H1 => tl σ H1 fun l H2 => th σ H2 fun u H3 => r x l u H3 Q
/-- a[lo:hi], any a -/
theorem pe_slice {r : V → Option Int → Option Int → Hp → VK → Prop} (hr : SlR X r) (he : PE X e te) (hl : PO X lo tl) (hu : PO X hi th) : PE X (.Subscript e (.Slice lo hi none p2) pos) (tSl r te tl th) := by
  intro pins s σ H Q I h
  refine Subscript_ (thn (he pins s σ H _ I h) fun v s1 ⟨x, H1, I1, r1, q1⟩ => ?_)
  refine wpAny_Slice (thn (hl pins s1 σ H1 _ I1 q1) fun vl s2 ⟨l, H2, I2, pl, q2⟩ => thn (hu pins s2 σ H2 _ I2 q2) fun vu s3 ⟨u, H3, I3, pu, q3⟩ => ?_)
  rw [evalPart_none]
  refine wpAny_pure ?_
  have I4 : Inv X pins σ H3 { s3 with heap := s3.heap.push { cls := .type "slice", data := .fields #[vl, vu, .none] } } := I3.kept (t' := s3.toks) fun b ob q => Heap.get?_push_of_some _ q
  obtain ⟨T, id, hT, ht, hg⟩ := hr pins { s3 with heap := s3.heap.push { cls := .type "slice", data := .fields #[vl, vu, .none] } } σ H3 x v vl vu l u s3.heap.objs.size Q I4 r1 (Heap.IsSliceOf.new ..) pl pu q3
  show wpAny (model X.prog X.w) X.A (subscriptTail e (.Slice lo hi none p2) v (.ref s3.heap.objs.size)) (EP X pins σ Q) X.xe { s3 with heap := s3.heap.push { cls := .type "slice", data := .fields #[vl, vu, .none] } }
  exact tail_any (ops := [.ref s3.heap.objs.size, v]) ht hT hg (by with_unfolding_all rfl)

/-- the items of xs[lo:hi] -/
noncomputable def cutV (xs : List V) (lo hi : Option Int) : List V := (xs.drop (HT.sIx xs.length 0 lo)).take (HT.sIx xs.length xs.length hi - HT.sIx xs.length 0 lo)
theorem cutV_length (xs : List V) (lo hi : Option Int) : (cutV xs lo hi).length ≤ xs.length := by
  unfold cutV
  rw [List.length_take, List.length_drop]
  omega
/-- t[lo:hi], not the whole of it (the whole would be t itself) -/
noncomputable def rSlT (K : PySem.W.Frag) : V → Option Int → Option Int → Hp → VK → Prop := fun x lo hi H Q => ∃ a xs, x = .ref a ∧ SqT K H a xs ∧
  ¬ (HT.sIx xs.length 0 lo = 0 ∧ HT.sIx xs.length xs.length hi = xs.length) ∧ ∀ p, H p = none → Q (.ref p) (upd H p (.tup (cutV xs lo hi)))
theorem sl_tup : SlR X (rSlT X.K) := by
  intro pins s σ H x v vl vu lo hi sl Q I rx hs pl pu h
  obtain ⟨a, xs, rfl, hx, hw, q⟩ := h
  cases rx
  obtain ⟨its, r, ht, hz⟩ := I.tuple hx
  have hlen : its.toArray.size = xs.length := by rw [List.size_toArray]; exact r.length.symm
  refine ⟨"tuple", _, PyProof.Rows.slot_tuple_getitem.lookup, ht.typeIs, ?_⟩
  refine HT.getItem_tuple_cut ht hs pl pu (by rw [hlen]; exact hw) ?_ (by rw [hlen]; exact hz)
  rw [hlen]
  refine ⟨.ref s.heap.objs.size, _, I.laid (t' := s.toks) (o := .tup (cutV xs lo hi)) (fun b ob q => Heap.get?_push_of_some _ q) (Nat.le_refl _) ?_, rfl, q _ (I.hok.fresh (Nat.le_refl _))⟩
  exact ⟨Nat.le_trans (cutV_length xs lo hi) hz, _, (r.drop (HT.sIx xs.length 0 lo)).take (HT.sIx xs.length xs.length hi - HT.sIx xs.length 0 lo), IsTup.new _ _⟩

/-! ### t < u, t + u -/
/-- t + u, t not empty: u empty gives t itself -/
noncomputable def rCatT (K : PySem.W.Frag) : R2 := fun x y H Q => ∃ a b xs ys, x = .ref a ∧ y = .ref b ∧ SqT K H a xs ∧ SqT K H b ys ∧ xs ≠ [] ∧ xs.length + ys.length ≤ sizeLine ∧
  (ys = [] → Q (.ref a) H) ∧ (ys ≠ [] → ∀ p, H p = none → Q (.ref p) (upd H p (.tup (xs ++ ys))))
theorem Vals.nil_iff {xs : List V} {us : List Value} (r : Vals xs us) : us = [] ↔ xs = [] := by
  cases r with
  | nil => simp
  | cons _ _ => simp
theorem op_catT : OpR X (binaryOp .Add) (rCatT X.K) := by
  intro pins s σ H x y v u Q I rx ry h
  obtain ⟨a, b, xs, ys, rfl, rfl, ha, hb, hx, hz, q1, q2⟩ := h
  cases rx
  cases ry
  obtain ⟨its, r1, p1, _⟩ := I.tuple ha
  obtain ⟨its2, r2, p2, _⟩ := I.tuple hb
  refine HT.cat_tup p1 p2 (fun z => hx (r1.nil_iff.mp z)) (fun z => ⟨.ref a, H, I, rfl, q1 (r2.nil_iff.mp z)⟩) (fun z => ?_) (by rw [← r1.length, ← r2.length]; exact hz)
  refine ⟨.ref s.heap.objs.size, _, I.laid (t' := s.toks) (o := .tup (xs ++ ys)) (fun b ob q => Heap.get?_push_of_some _ q) (Nat.le_refl _) ?_, rfl, q2 (fun w => z (r2.nil_iff.mpr w)) _ (I.hok.fresh (Nat.le_refl _))⟩
  exact ⟨by rw [List.length_append]; exact hz, _, r1.append r2, IsTup.new _ _⟩
end
end L2

namespace L2
open PySem PySem.Spec PyProof.Rows

/-! ### places -/
/-- the place that an index of any sign means -/
noncomputable def ixN (n : Nat) (i : Int) : Option Nat := if 0 ≤ i then (if i < n then some i.toNat else none) else if -(n : Int) ≤ i then some (i + n).toNat else none
noncomputable def atI {α : Type} (xs : List α) (i : Int) : Option α := (ixN xs.length i).bind fun j => xs[j]?
theorem ixN_seq {n : Nat} {i : Int} {j : Nat} (h : ixN n i = some j) : seqIndex? i n = some j ∧ j < n ∧ -(n : Int) ≤ i ∧ i < n := by
  unfold ixN at h
  by_cases h0 : 0 ≤ i
  · rw [if_pos h0] at h
    by_cases h1 : i < n
    · rw [if_pos h1] at h
      have e : i.toNat = j := Option.some.inj h
      exact ⟨by rw [seqIndex_of h0 h1, e], by omega, by omega, h1⟩
    · rw [if_neg h1] at h; cases h
  · rw [if_neg h0] at h
    by_cases h1 : -(n : Int) ≤ i
    · rw [if_pos h1] at h
      have e : (i + n).toNat = j := Option.some.inj h
      exact ⟨by rw [seqIndex_neg (by omega) h1, e], by omega, h1, by omega⟩
    · rw [if_neg h1] at h; cases h
theorem atI_get {α : Type} {xs : List α} {i : Int} {v : α} (h : atI xs i = some v) : ∃ j, seqIndex? i xs.length = some j ∧ xs[j]? = some v ∧ j < xs.length ∧ -(xs.length : Int) ≤ i ∧ i < xs.length := by
  unfold atI at h
  cases e : ixN xs.length i with
  | none => rw [e] at h; cases h
  | some j =>
    rw [e] at h
    obtain ⟨h1, h2, h3, h4⟩ := ixN_seq e
    exact ⟨j, h1, h, h2, h3, h4⟩
theorem atI_nat {α : Type} {xs : List α} {j : Nat} {v : α} (h : xs[j]? = some v) : atI xs (j : Int) = some v := by
  have hj : j < xs.length := (List.getElem?_eq_some_iff.mp h).1
  have e : ixN xs.length (j : Int) = some j := by
    unfold ixN
    rw [if_pos (by omega), if_pos (by omega)]; simp
  unfold atI; rw [e]; exact h

/-! ### what may be subscripted -/
/-- what stands as an index of a plain subscript -/
noncomputable def PlainIx (b : Expr) : Prop := ∀ o i, subscripted b false o i = operate [o, i] (getItem o i)
/-- a subscript by values -/
noncomputable def IxR (X : Cx) (r : R2) : Prop :=
  ∀ (value slice : Expr) (pins : List (Addr × Obj)) (s : Shared) (σ : St) (H : Hp) (x y : V) (v u : Value) (Q : VK), Inv X pins σ H s → RelV x v → RelV y u → r x y H Q →
    subscripted slice false v u = operate [v, u] (getItem v u) → wpAny (model X.prog X.w) X.A (subscriptTail value slice v u) (EP X pins σ Q) X.xe s
section
variable {X : Cx} {a b : Expr} {ta tb : TE} {pos : Pos}
theorem IxR.or {r r' : R2} (h : IxR X r) (h' : IxR X r') : IxR X (fun x y H Q => r x y H Q ∨ r' x y H Q) := by
  intro value slice pins s σ H x y v u Q I rx ry q hs
  rcases q with q | q
  · exact h value slice pins s σ H x y v u Q I rx ry q hs
  · exact h' value slice pins s σ H x y v u Q I rx ry q hs
/-- a[b] -/
theorem pe_ix {r : R2} (hr : IxR X r) (ha : PE X a ta) (hb : PE X b tb) (hs : PlainIx b) : PE X (.Subscript a b pos) (tOp r ta tb) := by
  intro pins s σ H Q I h
  exact Subscript_ (binT ha hb I h fun v u s2 x y H2 I2 rx ry q => hr a b pins s2 σ H2 x y v u Q I2 rx ry q (hs _ _))

noncomputable def rIxL (K : PySem.W.Frag) : R2 := fun x y H Q => ∃ p xs i v, x = .ref p ∧ y = .int i ∧ SqL K H p xs ∧ atI xs i = some v ∧ Q v H
noncomputable def rIxT (K : PySem.W.Frag) : R2 := fun x y H Q => ∃ p xs i v, x = .ref p ∧ y = .int i ∧ SqT K H p xs ∧ atI xs i = some v ∧ Q v H
noncomputable def rIxS : R2 := fun x y H Q => ∃ z i c, x = .str z ∧ y = .int i ∧ z.length ≤ sizeLine ∧ atI z.cps.toList i = some c ∧ Q (.str ⟨#[c]⟩) H
theorem ix_list : IxR X (rIxL X.K) := by
  intro value slice pins s σ H x y v u Q I rx ry h hs
  obtain ⟨p, xs, i, z, rfl, rfl, hq, he, q⟩ := h
  cases rx
  obtain ⟨t, rfl⟩ := ry
  obtain ⟨its, r, pl, hz⟩ := I.list hq
  obtain ⟨j, h1, h2, h3, h4, h5⟩ := atI_get he
  obtain ⟨w, ew, rw'⟩ := r.get h2
  have hl := r.length
  have hn := line63
  have fin : EP X pins σ Q w s := ⟨z, H, I, rw', q⟩
  by_cases h0 : 0 ≤ i
  · have hj : i.toNat = j := by
      rw [seqIndex_of h0 h5] at h1
      exact Option.some.inj h1
    exact item_listR pl.isList h0 (by omega) (by rw [hj]; simpa using ew) fin hs
  · have hj : (i + (its.toArray.size : Int)).toNat = j := by
      rw [seqIndex_neg (by omega) h4] at h1
      rw [List.size_toArray, ← hl]
      exact Option.some.inj h1
    exact subscriptTail_builtinR (x := w) pl.isList.typeIs slot_list_getitem.lookup
      (wpAny_getItem_list_neg (Q := fun r s' => r = w ∧ EP X pins σ Q r s') pl.isList (by omega) (by rw [List.size_toArray] <;> omega) (by omega) (by rw [hj]; simpa using ew) ⟨rfl, fin⟩) hs
theorem ix_tup : IxR X (rIxT X.K) := by
  intro value slice pins s σ H x y v u Q I rx ry h hs
  obtain ⟨p, xs, i, z, rfl, rfl, hq, he, q⟩ := h
  cases rx
  obtain ⟨t, rfl⟩ := ry
  obtain ⟨its, r, pl, hz⟩ := I.tuple hq
  obtain ⟨j, h1, h2, h3, h4, h5⟩ := atI_get he
  obtain ⟨w, ew, rw'⟩ := r.get h2
  have hl := r.length
  have hn := line63
  have fin : EP X pins σ Q w s := ⟨z, H, I, rw', q⟩
  exact subscriptTail_builtinR (x := w) pl.typeIs slot_tuple_getitem.lookup
    (getItem_tuple (j := j) (Q := fun r s' => r = w ∧ EP X pins σ Q r s') pl (by omega) (by omega) (by rw [List.size_toArray, ← hl]; exact h1) (by simpa using ew) ⟨rfl, fin⟩) hs
theorem ix_str : IxR X rIxS := by
  intro value slice pins s σ H x y v u Q I rx ry h hs
  obtain ⟨z, i, c, rfl, rfl, hz, he, q⟩ := h
  obtain ⟨t, rfl⟩ := rx
  obtain ⟨t', rfl⟩ := ry
  obtain ⟨j, h1, h2, h3, h4, h5⟩ := atI_get he
  have hl : z.cps.toList.length = z.length := by simp [Str.length]
  rw [hl] at h1 h4 h5
  have hn := line63
  exact tail_any (typeIs_str s z t) slot_str_getitem.lookup (getItem_str (c := c) (by
    have e1 : decide (i < -(2 ^ 63 : Int)) = false := decide_eq_false (by omega)
    have e2 : decide (i ≥ 2 ^ 63) = false := decide_eq_false (by omega)
    rw [e1, e2, Bool.or_false]) (by rw [h1]; simpa using h2) ⟨.str ⟨#[c]⟩, H, I.tok _, ⟨_, rfl⟩, q⟩) hs
/-- list, tuple or str -/
noncomputable def rIx (K : PySem.W.Frag) : R2 := fun x y H Q => rIxL K x y H Q ∨ rIxT K x y H Q ∨ rIxS x y H Q
theorem ix_seq : IxR X (rIx X.K) := ix_list.or (ix_tup.or ix_str)

/-! ### xs[i] = v, any sign -/
/-- the list's object behind a store -/
theorem mapSeq_set (its : List Value) (n j : Nat) (u : Value) : Obj.mapSeq (·.setIfInBounds j u) { cls := .type "list", data := .seq its.toArray n } = { cls := .type "list", data := .seq (its.set j u).toArray n } := by
  simp [Obj.mapSeq]
theorem Inv.lst {pins : List (Addr × Obj)} {σ : St} {H : Hp} {s : Shared} {p : Addr} {xs : List V} (I : Inv X pins σ H s) (h : H p = some (.lst xs)) :
    ∃ (its : List Value) (n : Nat), Vals xs its ∧ s.heap.get? p = some { cls := .type "list", data := .seq its.toArray n } ∧ xs.length ≤ sizeLine := by
  obtain ⟨z, its, n, r, e⟩ := I.hok p _ h
  exact ⟨its, n, r, e, z⟩
/-- the list at p is written by an update of its object -/
theorem Inv.lstUpd {pins : List (Addr × Obj)} {σ : St} {H : Hp} {s : Shared} {p : Addr} {xs ys : List V} {its its' : List Value} {n n' : Nat} {f : Obj → Obj} (I : Inv X pins σ H s) (h : H p = some (.lst xs))
    (ho : s.heap.get? p = some { cls := .type "list", data := .seq its.toArray n }) (hf : f { cls := .type "list", data := .seq its.toArray n } = { cls := .type "list", data := .seq its'.toArray n' }) (r : Vals ys its') (hz : ys.length ≤ sizeLine) (t : Nat) :
    Inv X pins σ (upd H p (.lst ys)) { s with heap := s.heap.update p f, toks := t } := by
  have e : (s.heap.update p f).get? p = some { cls := .type "list", data := .seq its'.toArray n' } := by
    rw [Heap.get?_update_self f ho (by rw [hf] <;> rfl), hf]
  refine I.write (x := p) (e := p) (by rw [h]; trivial) (.inl rfl) (fun b u hb q => (Heap.get?_update_other _ _ (Ne.symm hb)).trans q) ⟨_, e⟩ ?_
  exact ⟨hz, its', n', r, e⟩
noncomputable def rSetL : V → V → V → Hp → (Hp → Prop) → Prop := fun o i v H Q => ∃ p xs k j, o = .ref p ∧ i = .int k ∧ H p = some (.lst xs) ∧ ixN xs.length k = some j ∧ Q (upd H p (.lst (xs.set j v)))
theorem set_list : PSet X rSetL := by
  intro pins s σ H o i v ov iv u Q I ro ri rv h
  obtain ⟨p, xs, k, j, rfl, rfl, hp, hj, q⟩ := h
  cases ro
  obtain ⟨t, rfl⟩ := ri
  obtain ⟨its, n, r, ho, hz⟩ := I.lst hp
  obtain ⟨h1, h2, h3, h4⟩ := ixN_seq hj
  have hl := r.length
  have hn := line63
  have I' : Inv X pins σ (upd H p (.lst (xs.set j v))) { s with heap := s.heap.update p (Obj.mapSeq (·.setIfInBounds j u)) } :=
    I.lstUpd hp ho (mapSeq_set its n j u) (r.set rv j) (by rw [List.length_set]; exact hz) s.toks
  by_cases h0 : 0 ≤ k
  · have hk : k.toNat = j := by
      rw [seqIndex_of h0 h4] at h1
      exact Option.some.inj h1
    exact PySem.W.ki_setAt ho h0 (by omega) (by rw [List.size_toArray, ← hl]; exact h4) (by rw [hk]; exact ⟨_, I', q⟩)
  · have hk : (k + (its.toArray.size : Int)).toNat = j := by
      rw [seqIndex_neg (by omega) h3] at h1
      rw [List.size_toArray, ← hl]
      exact Option.some.inj h1
    exact PySem.W.ki_setBack ho (by omega) (by rw [List.size_toArray, ← hl]; exact h3) (by omega) (by rw [hk]; exact ⟨_, I', q⟩)

/-! ### slices -/
theorem slice_bounds (lo hi : Option Int) (n : Nat) : (sliceBounds lo hi none n).1 = ((HT.sIx n 0 lo : Nat) : Int) ∧ (sliceBounds lo hi none n).2.1 = ((HT.sIx n n hi : Nat) : Int) ∧ (sliceBounds lo hi none n).2.2 = 1 := by
  refine ⟨?_, ?_, rfl⟩
  · cases lo with
    | none => simp [sliceBounds, HT.sIx]
    | some i =>
      simp only [sliceBounds, HT.sIx, Option.getD_none, show (1 : Int) > 0 by decide, if_true]
      by_cases h : i < 0
      · simp only [h, if_true] <;> omega
      · simp only [h, if_false] <;> omega
  · cases hi with
    | none => simp [sliceBounds, HT.sIx]
    | some i =>
      simp only [sliceBounds, HT.sIx, Option.getD_none, show (1 : Int) > 0 by decide, if_true]
      by_cases h : i < 0
      · simp only [h, if_true] <;> omega
      · simp only [h, if_false] <;> omega
theorem slicePick_cut (its : List Value) (lo hi : Option Int) : slicePick its.toArray lo hi none = ((its.drop (HT.sIx its.length 0 lo)).take (HT.sIx its.length its.length hi - HT.sIx its.length 0 lo)).toArray := by
  obtain ⟨h1, h2, h3⟩ := slice_bounds lo hi its.toArray.size
  unfold slicePick
  rw [h1, h2, h3]
  simp only [sliceRange_one, pick_run, List.size_toArray] <;> rfl
/-- xs[lo:hi] of a list: a new list -/
noncomputable def rSlL (K : PySem.W.Frag) : V → Option Int → Option Int → Hp → VK → Prop := fun x lo hi H Q => ∃ a xs, x = .ref a ∧ SqL K H a xs ∧ ∀ p, H p = none → Q (.ref p) (upd H p (.lst (cutV xs lo hi)))
theorem sl_list : SlR X (rSlL X.K) := by
  intro pins s σ H x v vl vu lo hi sl Q I rx hs pl pu h
  obtain ⟨a, xs, rfl, hx, q⟩ := h
  cases rx
  obtain ⟨its, r, ht, hz⟩ := I.list hx
  have hlen := r.length
  refine ⟨"list", _, slot_list_getitem.lookup, ht.isList.typeIs, ?_⟩
  refine wpAny_getItem_list_slice ht.isList hs pl pu .none (by simp) ?_ (by rw [List.size_toArray] <;> omega)
  rw [slicePick_cut, ← hlen]
  refine ⟨.ref s.heap.objs.size, _, I.laid (t' := s.toks) (o := .lst (cutV xs lo hi)) (fun b ob q => Heap.get?_push_of_some _ q) (Nat.le_refl _) ?_, rfl, q _ (I.hok.fresh (Nat.le_refl _))⟩
  exact ⟨Nat.le_trans (cutV_length xs lo hi) hz, _, 0, (r.drop (HT.sIx xs.length 0 lo)).take (HT.sIx xs.length xs.length hi - HT.sIx xs.length 0 lo), Heap.get?_push_size _ rfl⟩

/-! ### in, not in: flat items -/
noncomputable def flatV : V → Bool
  | .non => true
  | .bl _ => true
  | .int _ => true
  | .str _ => true
  | _ => false
/-- == of flat values -/
noncomputable def eqV : V → V → Bool
  | .non, .non => true
  | .bl a, .bl b => a == b
  | .bl a, .int b => (if a then 1 else 0) == b
  | .int a, .bl b => a == (if b then 1 else 0)
  | .int a, .int b => a == b
  | .str a, .str b => a == b
  | _, _ => false
theorem eqAt_V {A : Around} {s : Shared} {y x : V} {u v : Value} (ry : RelV y u) (rx : RelV x v) (fy : flatV y = true) (fx : flatV x = true) : SeqAt.EqAt A s u v (eqV y x) := by
  cases y with
  | non =>
    cases ry
    cases x with
    | non => cases rx; exact SeqAt.EqAt.same _
    | bl b => cases rx; exact SeqAt.EqAt.none_bool b
    | int b => obtain ⟨t, rfl⟩ := rx; exact SeqAt.EqAt.none_int b t
    | str b => obtain ⟨t, rfl⟩ := rx; exact SeqAt.EqAt.none_str b t
    | _ => exact absurd (show false = true from fx) Bool.false_ne_true
  | bl a =>
    cases ry
    cases x with
    | non => cases rx; exact SeqAt.EqAt.bool_none a
    | bl b => cases rx; exact SeqAt.EqAt.bool_bool a b
    | int b => obtain ⟨t, rfl⟩ := rx; exact SeqAt.EqAt.bool_int a b t
    | str b => obtain ⟨t, rfl⟩ := rx; exact SeqAt.EqAt.bool_str a b t
    | _ => exact absurd (show false = true from fx) Bool.false_ne_true
  | int a =>
    obtain ⟨t', rfl⟩ := ry
    cases x with
    | non => cases rx; exact SeqAt.EqAt.int_none a t'
    | bl b => cases rx; exact SeqAt.EqAt.int_bool a t' b
    | int b => obtain ⟨t, rfl⟩ := rx; exact SeqAt.EqAt.int_int a t' b t
    | str b => obtain ⟨t, rfl⟩ := rx; exact SeqAt.EqAt.int_str a t' b t
    | _ => exact absurd (show false = true from fx) Bool.false_ne_true
  | str a =>
    obtain ⟨t', rfl⟩ := ry
    cases x with
    | non => cases rx; exact SeqAt.EqAt.str_none a t'
    | bl b => cases rx; exact SeqAt.EqAt.str_bool a t' b
    | int b => obtain ⟨t, rfl⟩ := rx; exact SeqAt.EqAt.str_int a t' b t
    | str b => obtain ⟨t, rfl⟩ := rx; exact SeqAt.EqAt.str_str a t' b t
    | _ => exact absurd (show false = true from fx) Bool.false_ne_true
  | _ => exact absurd (show false = true from fy) Bool.false_ne_true
/-- the items' answers, read off the values (a value's own answer does not lean on its token) -/
noncomputable def eqU (x : V) (u : Value) : Bool := match u with
  | .none => eqV .non x
  | .bool b => eqV (.bl b) x
  | .int i _ => eqV (.int i) x
  | .str z _ => eqV (.str z) x
  | _ => false
theorem eqU_of {x y : V} {u : Value} (r : RelV y u) (f : flatV y = true) : eqU x u = eqV y x := by
  cases y with
  | non => cases r; rfl
  | bl b => cases r; rfl
  | int i => obtain ⟨t, rfl⟩ := r; rfl
  | str z => obtain ⟨t, rfl⟩ := r; rfl
  | _ => exact absurd (show false = true from f) Bool.false_ne_true
theorem any_eqU {x : V} : ∀ {xs : List V} {us : List Value}, Vals xs us → xs.all flatV = true → us.any (eqU x) = xs.any fun y => eqV y x
  | _, _, .nil, _ => rfl
  | y :: xs, u :: us, .cons r t, f => by
    rw [List.all_cons, Bool.and_eq_true] at f
    rw [List.any_cons, List.any_cons, eqU_of r f.1, any_eqU t f.2]
theorem mem_eqAt {A : Around} {s : Shared} {x : V} {v : Value} (rx : RelV x v) (fx : flatV x = true) : ∀ {xs : List V} {us : List Value}, Vals xs us → xs.all flatV = true → ∀ u ∈ us, SeqAt.EqAt A s u v (eqU x u)
  | _, _, .nil, _ => fun u hu => by cases hu
  | y :: xs, u :: us, .cons r t, f => fun u' hu => by
    rw [List.all_cons, Bool.and_eq_true] at f
    rcases List.mem_cons.mp hu with rfl | hu
    · rw [eqU_of r f.1]; exact eqAt_V r rx f.1 fx
    · exact mem_eqAt rx fx t f.2 u' hu
noncomputable def inV (x : V) (xs : List V) : Bool := xs.any fun y => eqV y x
/-- x in a list or tuple of flat items -/
noncomputable def rIn (K : PySem.W.Frag) (neg : Bool) : R2 := fun x y H Q => ∃ p xs, y = .ref p ∧ (SqL K H p xs ∨ SqT K H p xs) ∧ flatV x = true ∧ xs.all flatV = true ∧ Q (.bl (if neg then !inV x xs else inV x xs)) H
theorem op_in_seq : OpR X (compareOp .In) (rIn X.K false) := by
  intro pins s σ H x y v u Q I rx ry h
  obtain ⟨p, xs, rfl, hq, fx, fs, q⟩ := h
  cases ry
  rcases hq with hq | hq
  · obtain ⟨its, r, pl, hz⟩ := I.list hq
    refine SeqAt.in_listAt (eqU x) pl.isList (fun w hw => mem_eqAt rx fx r fs w (by simpa using hw)) ⟨.bl _, H, I, rfl, ?_⟩
    rw [show its.toArray.any (eqU x) = its.any (eqU x) by simp, any_eqU r fs]
    exact q
  · obtain ⟨its, r, pl, hz⟩ := I.tuple hq
    refine SeqAt.in_tupleAt (eqU x) pl (fun w hw => mem_eqAt rx fx r fs w (by simpa using hw)) ⟨.bl _, H, I, rfl, ?_⟩
    rw [show its.toArray.any (eqU x) = its.any (eqU x) by simp, any_eqU r fs]
    exact q
theorem op_notIn_seq : OpR X (compareOp .NotIn) (rIn X.K true) := by
  intro pins s σ H x y v u Q I rx ry h
  obtain ⟨p, xs, rfl, hq, fx, fs, q⟩ := h
  cases ry
  rcases hq with hq | hq
  · obtain ⟨its, r, pl, hz⟩ := I.list hq
    refine SeqAt.notIn_listAt (eqU x) pl.isList (fun w hw => mem_eqAt rx fx r fs w (by simpa using hw)) ⟨.bl _, H, I, rfl, ?_⟩
    rw [show its.toArray.any (eqU x) = its.any (eqU x) by simp, any_eqU r fs]
    exact q
  · obtain ⟨its, r, pl, hz⟩ := I.tuple hq
    refine SeqAt.notIn_tupleAt (eqU x) pl (fun w hw => mem_eqAt rx fx r fs w (by simpa using hw)) ⟨.bl _, H, I, rfl, ?_⟩
    rw [show its.toArray.any (eqU x) = its.any (eqU x) by simp, any_eqU r fs]
    exact q

/-! ### len, list(x), tuple(x) of any list or tuple that is read -/
theorem call_len_seq : CallR X (.builtin "len") (fun xs H Q => ∃ p ys, xs = [.ref p] ∧ (SqL X.K H p ys ∨ SqT X.K H p ys) ∧ Q (.int ys.length) H) := by
  intro pins s σ H xs us Q I r h
  obtain ⟨p, ys, rfl, hq, q⟩ := h
  obtain ⟨u, rfl, rx⟩ := vals1 r
  cases rx
  have hn := line63
  rcases hq with hq | hq
  · obtain ⟨its, r', pl, hz⟩ := I.list hq
    have hlen := r'.length
    exact Calls.call_len_list pl.isList (by simp only [List.size_toArray] <;> omega) ⟨.int ys.length, H, I.tok _, ⟨s.toks + 1, by rw [List.size_toArray, hlen]⟩, q⟩
  · obtain ⟨its, r', pl, hz⟩ := I.tuple hq
    have hlen := r'.length
    exact len_tuple pl (by simp only [List.size_toArray] <;> omega) ⟨.int ys.length, H, I.tok _, ⟨s.toks + 1, by rw [List.size_toArray, hlen]⟩, q⟩

/-! ### the call of a builtin's method: o.m(..) -/
variable {o e : Expr} {es : List Expr} {to : TE} {t : TA} {name : Str} {apos cpos : Pos} {T id : String} {r : V → List V → Hp → VK → Prop}
/- xs.append(e), list.index on a module's tuple .. are MtR facts of 06m -/
end
end L2

namespace L2
open PySem PySem.Spec PyProof.Rows

noncomputable def MtM (X : Cx) (id : String) (r : V → List V → Hp → VK → Prop) : Prop :=
  ∀ (pins : List (Addr × Obj)) (s : Shared) (σ : St) (H : Hp) (x : V) (xs : List V) (v : Value) (us : List Value) (Q : VK), Inv X pins σ H s → RelV x v → Vals xs us → r x xs H Q →
    wpAny (model X.prog X.w) X.A (call (.builtin id) (v :: us)) (EP X pins σ Q) X.xe s

/-! ### lists of values -/
theorem Vals.one : ∀ {x : V} {us : List Value}, Vals [x] us → ∃ u, us = [u] ∧ RelV x u
  | _, _, .cons r .nil => ⟨_, rfl, r⟩

section
variable {X : Cx} {pins : List (Addr × Obj)} {σ : St} {H : Hp} {s : Shared} {l b : Addr} {xs ys zs : List V}

/-! ### the two steps: a tracked list is rewritten, a new list is laid -/
theorem Inv.lset {its its' : List Value} {n : Nat} {f : Array Value → Array Value} {t' : Nat} (I : Inv X pins σ H s) (hH : H l = some (.lst xs))
    (e : s.heap.get? l = some { cls := .type "list", data := .seq its.toArray n }) (hf : f its.toArray = its'.toArray) (hv : Vals ys its') (hz : ys.length ≤ sizeLine) :
    Inv X pins σ (upd H l (.lst ys)) { s with heap := s.heap.update l (Obj.mapSeq f), toks := t' } := by
  have q := PySem.IsL.update e f
  rw [hf] at q
  refine I.write (x := l) (e := l) (by rw [hH]; exact trivial) (.inl rfl) (fun b' u hb hu => (Heap.get?_update_other s.heap (Obj.mapSeq f) (Ne.symm hb)).trans hu) ⟨_, q⟩ ?_
  exact ⟨hz, its', _, hv, q⟩
theorem Inv.lnew {its : List Value} {t' : Nat} (I : Inv X pins σ H s) (hv : Vals ys its) (hz : ys.length ≤ sizeLine) :
    Inv X pins σ (upd H s.heap.objs.size (.lst ys)) { s with heap := s.heap.push { cls := .type "list", data := .seq its.toArray }, toks := t' } :=
  I.laid (fun _ _ q => Heap.get?_push_of_some _ q) (Nat.le_refl _) ⟨hz, its, 0, hv, Heap.get?_push_size _ rfl⟩
theorem Inv.fresh (I : Inv X pins σ H s) : H s.heap.objs.size = none := I.hok.fresh (Nat.le_refl _)
theorem Inv.lstM (I : Inv X pins σ H s) (hH : H l = some (.lst xs)) : xs.length ≤ sizeLine ∧ ∃ (its : List Value) (n : Nat), Vals xs its ∧ xs.length = its.length ∧ s.heap.get? l = some { cls := .type "list", data := .seq its.toArray n } := by
  obtain ⟨z, its, n, r, e⟩ := I.hok l _ hH
  exact ⟨z, its, n, r, r.length, e⟩

theorem notLongL {n : Nat} (h : n ≤ sizeLine) : Builtin.List.listTooLong n = false := by
  unfold Builtin.List.listTooLong
  exact decide_eq_false (by omega)
end

section
variable {X : Cx}

/-! ### methods -/
noncomputable def rAppend : V → List V → Hp → VK → Prop := fun x vs H Q => ∃ l xs y, x = .ref l ∧ vs = [y] ∧ H l = some (.lst xs) ∧ xs.length < sizeLine ∧ Q .non (upd H l (.lst (xs ++ [y])))
theorem mt_append : MtM X "list.append" rAppend := by
  intro pins s σ H x vs v us Q I rx rv h
  obtain ⟨l, xs, y, rfl, rfl, hH, hz, q⟩ := h
  cases rx
  obtain ⟨u, rfl, ru⟩ := rv.one
  obtain ⟨z, its, n, r, hl, e⟩ := I.lstM hH
  refine call_meets F.slot_list_append ⟨_, e, rfl⟩ F.entry_list_append (F.args_list_append_2 _ _) (PySem.list_append l its.toArray n u (by rw [List.size_toArray]; omega)) ⟨e, ?_⟩
  refine ⟨.non, _, I.lset (its' := its ++ [u]) hH e (by simp) (r.append (.cons ru .nil)) ?_, rfl, q⟩
  rw [List.length_append, List.length_singleton]
  omega

noncomputable def rExtend : V → List V → Hp → VK → Prop := fun x vs H Q => ∃ l b xs zs, x = .ref l ∧ vs = [.ref b] ∧ H l = some (.lst xs) ∧ H b = some (.lst zs) ∧ xs.length + zs.length ≤ sizeLine ∧ Q .non (upd H l (.lst (xs ++ zs)))
theorem mt_extend : MtM X "list.extend" rExtend := by
  intro pins s σ H x vs v us Q I rx rv h
  obtain ⟨l, b, xs, zs, rfl, rfl, hH, hB, hz, q⟩ := h
  cases rx
  obtain ⟨u, rfl, ru⟩ := rv.one
  cases ru
  obtain ⟨z, its, n, r, hl, e⟩ := I.lstM hH
  obtain ⟨z2, its2, n2, r2, hl2, e2⟩ := I.lstM hB
  have hsz : its.toArray.size + its2.toArray.size ≤ sizeLine := by rw [List.size_toArray, List.size_toArray]; omega
  have hlong : ¬ (!its.toArray.isEmpty && Builtin.List.listTooLong (its.toArray.size + its2.toArray.size)) = true := by
    rw [notLongL hsz, Bool.and_false]
    exact Bool.false_ne_true
  refine call_meets F.slot_list_extend ⟨_, e, rfl⟩ F.entry_list_extend (F.args_list_extend_2 _ _)
    (AutoSeq1.list_extend_list_list_0 l its.toArray n b its2.toArray n2 hlong (by rw [List.size_toArray]; omega) (by omega)) ⟨e, e2, ?_⟩
  refine ⟨.non, _, I.lset (its' := its ++ its2) hH e (by simp) (r.append r2) ?_, rfl, q⟩
  rw [List.length_append]
  omega





/-! ### list + list, list += list, list * int -/
noncomputable def rCat : R2 := fun x y H Q => ∃ l b xs zs, x = .ref l ∧ y = .ref b ∧ H l = some (.lst xs) ∧ H b = some (.lst zs) ∧ xs.length + zs.length ≤ sizeLine ∧ ∀ p, H p = none → Q (.ref p) (upd H p (.lst (xs ++ zs)))
theorem op_cat : OpR X (binaryOp .Add) rCat := by
  intro pins s σ H x y v u Q I rx ry h
  obtain ⟨l, b, xs, zs, rfl, rfl, hH, hB, hz, q⟩ := h
  cases rx
  cases ry
  obtain ⟨z, its, n, r, hl, e⟩ := I.lstM hH
  obtain ⟨z2, its2, n2, r2, hl2, e2⟩ := I.lstM hB
  refine PySem.P.add_list e e2 ?_ (by rw [List.size_toArray, List.size_toArray]; omega)
  have ea : its.toArray ++ its2.toArray = (its ++ its2).toArray := by simp
  rw [ea]
  exact ⟨.ref _, _, I.lnew (t' := s.toks) (r.append r2) (by rw [List.length_append]; omega), rfl, q _ I.fresh⟩

/-! ### del xs[i] -/
end

/-! ### xs[a:b] = ys -/
section
variable {prog : Program} {w : World} {A : Around} {E : Value → Shared → Prop} {s : Shared}
end

section
variable {X : Cx}
end
end L2

namespace Att
open PySem PySem.W PySem.Calls PyProof.Rows

/-! ### the script -/
theorem ints_of_wellAll {P : Params} {h : Heap} : ∀ (ns : List Int) (vs : List Value), WellAll P h vs (ns.map WData.int) → IntsAre vs ns := by
  intro ns
  induction ns with
  | nil =>
    intro vs w
    rw [List.map_nil] at w
    cases w
    exact .nil
  | cons n ns ih =>
    intro vs w
    rw [List.map_cons] at w
    cases w with
    | cons a b =>
      cases a
      exact .cons _ _ (ih _ b)

theorem script_of {l : OpenLaw} {n : Nat} (hn : l.most = some n) {P : Params} {h : Heap} {args : List WData} {vals : List Value}
    (hpre : l.row.toRowW.claim.pre args = true) (hwl : WellAll P h vals args) :
    ∃ a vs ns, vals = [Value.ref a] ∧ args = [WData.list (ns.map WData.int)] ∧ h.get? a = some { cls := .type "list", data := .seq vs.toArray } ∧ IntsAre vs ns ∧ ns.length ≤ n := by
  have hsh : WShape.hasAll [] args [.list .int] = true := (pre_splitW hpre).1
  have hc : l.pre.holds [] { args := args } = true := (pre_splitW hpre).2
  obtain ⟨d, r, rfl, h1, h2⟩ := hasAllW_cons hsh
  obtain rfl := hasAllW_nil h2
  obtain ⟨xs, rfl, h3⟩ := hasW_list h1
  obtain ⟨ns, rfl⟩ := items_int h3
  have hlen : ns.length ≤ n := by
    unfold OpenLaw.pre at hc
    have h4 : (WTm.not (.lt (.lit (.int (n : Int))) (.len (.arg 0)))).holds [] { args := [.list (ns.map .int)] } = true := by
      have h4 := (holds_andW hc).1
      rw [hn] at h4
      exact h4
    have h5 := condW_of h4 (w_not (w_lt w_lit (w_len_list (w_arg rfl))))
    rw [List.length_map] at h5
    refine Nat.le_of_not_lt fun q => ?_
    have q' : (n : Int) < ((ns.length : Nat) : Int) := by omega
    first
      | (rw [decide_eq_true q'] at h5; exact absurd h5 (by decide))
      | (simp at h5; omega)
  cases hwl with
  | cons w1 w2 =>
    cases w2
    cases w1 with
    | list ho hall => exact ⟨_, _, ns, rfl, rfl, ho, ints_of_wellAll ns _ hall, hlen⟩

theorem post_true (l : OpenLaw) (args : List WData) : l.row.toRowW.claim.post args (.bool true) args = true :=
  postW_of (r := l.row.toRowW) (X := (true == true))
    (show WShape.has [] (.bool true) .bool = true by first | rfl | decide | simp [WShape.has, WShape.arms, WShape.armsAll])
    (show (WTm.eq .res (.lit (.bool true))).value [] { args := args, res := some (.bool true), after := args } = some (.bool (true == true)) from w_eq_bool (w_res rfl) w_lit) rfl

/-! ### the attachment: holds_open's last premise (the goal 'hc' behind k_head) from a wpAny of the law's body -/

/-- the same from a codeAny of the CALL (for a layer whose function contracts speak of calls) -/
theorem attach_call {l : OpenLaw} {n : Nat} {q : Program} {loose : List Str} {XP : (Str → Option Value) → Heap → Prop} {YP : World → Heap → Prop} {d : DefRec}
    (hn : l.most = some n) (hdf : d.params.defaults = [])
    (call : ∀ (w : World) (s₀ s₁ : Shared) (mg mb : Str → Option Value) (fa : Addr) (o : Obj) (pm cd doc : Value) (a : Addr) (vs : List Value) (ns : List Int),
      Ground q loose [] XP w s₀ mg mb s₁.heap → YP w s₁.heap →
      s₁.heap.get? fa = some o → o.data = .func (docDef d.name d.params d.body d.scope pm cd doc) → s₁.heap.CodeRec cd d.name → mg d.name = some (.ref fa) →
      s₁.heap.get? a = some { cls := .type "list", data := .seq vs.toArray } → IntsAre vs ns → ns.length ≤ n → s₁.gens = #[] →
      codeAny (model l.prog w) callerA (.call (.ref fa) ⟨[.ref a], []⟩) (fun r s' => r = .ok (.ret (.bool true)) ∧ OldK s₁.heap s'.heap ∧ s'.os = s₁.os ∧ AllBare s'.gens) s₁) :
    WalkO q loose XP YP l.row.toRowW d [] (fun f vs => PySem.call f vs) := by
  intro w s₀ s₁ mg mb G Y fa o pm cd doc dV kV ho hd hcd hD hmg hg args vals as hpre hlay hrd hwl hlo
  obtain rfl : dV = .none := Dflts.none hD hdf
  obtain rfl : kV = .none := Dflts.noKw hD
  obtain ⟨a, vs, ns, rfl, rfl, hobj, hints, hlen⟩ := script_of hn hpre hwl
  refine enter_call (codeAny_mono (call w s₀ s₁ mg mb fa o pm cd doc a vs ns G Y ho (fd_plain hd) hcd hmg hobj hints hlen hg) fun r s' hq => ?_)
  obtain ⟨rfl, h2, h3, h4⟩ := hq
  exact ⟨.inl ⟨.bool true, .bool true, [], rfl, fun _ => rfl, .bool true, post_true l _, fun _ => ⟨List.Pairwise.nil, fun _ hm => (nomatch hm)⟩⟩, h2, h3, h4⟩


/-! ### rules over ANY heap (no ledger) from facts about the written part K: the library's own take a ledger (News) for what they write -/
section
variable {prog : Program} {w : World} {A : Around} {E : Value → Shared → Prop} {s : Shared} {K : Frag}





/-! the whole heap as the ledger: makes every rule that writes through a ledger a rule over any heap -/

end
end Att

namespace L2
open PySem PySem.Spec PyProof.Rows

theorem vals_ints : ∀ {vs : List Value} {ns : List Int}, IntsAre vs ns → Vals (ns.map V.int) vs
  | _, _, .nil => .nil
  | _, _, .cons n t h => .cons ⟨t, rfl⟩ (vals_ints h)

/-- nothing is tracked but the script, known to the object (or it is an object of the module) -/
noncomputable def Only (H : Hp) : Prop := ∀ b, H b = none ∨ ∃ o xs, H b = some (.frz o (.lst xs))

/-- THE HEAD: the law's promise, at the heap behind the top. F, the promise of the law's def, may use that base is part of the heap (so K.In base, base.Ns mainGlobals mg stand in Mod) -/
theorem law_call {P : Program} {w : World} {K : PySem.W.Frag} {mg mb : Str → Option Value} {CX : CXT} {k : Nat} {fa a : Addr} {fd : FuncData} {x : Str} {sp : Sp} {s₁ : Shared} {vs : List Value} {ns : List Int}
    (KX : K.In s₁.heap) (hns : s₁.heap.Ns mainGlobals mg) (hb : s₁.heap.Ns builtinsNs mb) (hbb : ∀ x : Str, x ≠ "__name__" → mb x = bootBuiltins x) (hlim : s₁.heap.NoLimit) (hg : s₁.gens = #[])
    (ha : s₁.heap.get? a = some { cls := .type "list", data := .seq vs.toArray }) (hi : IntsAre vs ns) (hl : ns.length ≤ sizeLine) (hr : Room k callerA)
    (F : ∀ base : Heap, K.In base → base.Ns mainGlobals mg → FnOk P w K mg base CX k fa fd [x] sp) (hbind : ∀ (s : Shared) (u : Value), BindsTo s fd ⟨[u], []⟩ [(x, u)])
    (hsp : ∀ H : Hp, Only H → SqL K H a (ns.map V.int) → sp [.ref a] H (fun v _ => v = .bl true) fun _ _ _ => False)
    (hCX : ∀ H e s', CX [] H s₁ (fun _ _ _ => False) e s' → False) :
    codeAny (model P w) callerA (.call (.ref fa) ⟨[.ref a], []⟩) (fun r s' => r = .ok (.ret (.bool true)) ∧ OldK s₁.heap s'.heap ∧ s'.os = s₁.os ∧ AllBare s'.gens) s₁ := by
  have rv := vals_ints hi
  have lenV := hi.length
  -- from an abstract heap in which nothing but the script may be tracked
  have core : ∀ H : Hp, Only H → SqL K H a (ns.map V.int) → HOk P w H s₁.heap → (∀ b, H b ≠ none → b = a) → (H a ≠ none → K.lookup a = none) →
      codeAny (model P w) callerA (.call (.ref fa) ⟨[.ref a], []⟩) (fun r s' => r = .ok (.ret (.bool true)) ∧ OldK s₁.heap s'.heap ∧ s'.os = s₁.os ∧ AllBare s'.gens) s₁ := by
    intro H hO hS hok hA hK
    have base_of : ∀ {b : Addr} {o : Obj}, s₁.heap.get? b = some o → H b = none → (hidT s₁.heap H).get? b = some o := fun e n => hidT_get e n
    have noA : ∀ {b : Addr} {o : Obj} {es : Array DictEntry} {ep : Nat}, s₁.heap.get? b = some o → o.data = .dict es ep → H b = none := fun {b o es ep} e d => by
      cases q : H b with
      | none => rfl
      | some u =>
        have e' : b = a := hA b (by rw [q]; simp)
        subst e'
        rw [ha] at e; cases e
        have d' : Data.seq vs.toArray _ = Data.dict es ep := d
        cases d'
    have nsK : ∀ {b : Addr} {m : Str → Option Value}, s₁.heap.Ns b m → (hidT s₁.heap H).Ns b m := fun {b m} ⟨o, es, ep, e, d, r⟩ => ⟨o, es, ep, base_of e (noA e d), d, r⟩
    have hKb : K.In (hidT s₁.heap H) := fun b o e => base_of (KX b o e) (by
      cases q : H b with
      | none => rfl
      | some u =>
        have e' : b = a := hA b (by rw [q]; simp)
        subst e'
        rw [hK (by rw [q]; simp)] at e; cases e)
    have hM : Mod K mg (hidT s₁.heap H) := ⟨hKb, nsK hns, ⟨mb, nsK hb, hbb⟩, let ⟨mc, h1, h2⟩ := hlim; ⟨mc, nsK h1, h2⟩⟩
    have e0 : Env0 P w K mg (hidT s₁.heap H) callerA [] s₁ H := ⟨rfl, hM, fun b o e => of_hidT e, Nat.le_of_eq (hidT_size _ _), trivial, fun b hb => absurd (show b ∈ ([] : List Addr) from hb) (by simp), hok, .of_eq hg⟩
    refine codeAny_mono ((F _ hKb (nsK hns)).run callerA [] s₁ H ⟨[.ref a], []⟩ [.ref a] [.ref a] _ _ hr e0 (hbind s₁ (.ref a)) (.cons rfl .nil) (hsp H hO hS)) fun r s' h => ?_
    cases r with
    | error e => exact (hCX H e s' h).elim
    | ok fl =>
      cases fl with
      | next => exact False.elim h
      | brk => exact False.elim h
      | cont => exact False.elim h
      | ret u =>
        obtain ⟨v, H', os, bare, un, hok', r', q⟩ := h
        have q' : v = .bl true := q
        subst q'
        obtain rfl : u = Value.bool true := r'
        refine ⟨rfl, OldK.of_keep fun b o e => ?_, os, bare⟩
        cases q : H b with
        | none => exact un.keep b o e q (by intro z; exact absurd (show b ∈ ([] : List Addr) from z) (by simp)) (by simp)
        | some u =>
          rcases hO b with z | ⟨ob, xs, z⟩
          · rw [q] at z; cases z
          · have z2 := un.frzs b ob _ z
            obtain ⟨e1, _⟩ := hok b _ z
            obtain ⟨e2, _⟩ := hok' b _ z2
            rw [e] at e1; cases e1
            exact e2
  cases hk : K.lookup a with
  | some o =>
    -- the script is one of the module's own objects
    have e := KX a o hk
    rw [ha] at e
    cases e
    refine core (fun _ => none) (fun _ => .inl rfl) (.inr ⟨_, vs.toArray, _, hk, rfl, rfl, rfl, by rw [List.size_toArray, lenV]; exact hl, by simpa using rv⟩) (fun b u z => by have z' : (none : Option HO) = some u := z; cases z') (fun b z => absurd rfl z) fun z => absurd rfl z
  | none =>
    refine core (fun b => if b = a then some (.frz { cls := .type "list", data := .seq vs.toArray } (.lst (ns.map V.int))) else none) (fun b => ?_) (.inl (.inr ⟨{ cls := .type "list", data := .seq vs.toArray }, if_pos rfl⟩)) (fun b u z => ?_) (fun b z => ?_) fun _ => hk
    · by_cases hb : b = a
      · exact .inr ⟨_, _, if_pos hb⟩
      · exact .inl (if_neg hb)
    · by_cases hb : b = a
      · have z' := (if_pos hb).symm.trans z
        cases z'
        subst hb
        exact ⟨ha, by rw [List.length_map]; exact hl, vs, _, rv, ha⟩
      · have z' := (if_neg hb).symm.trans z
        cases z'
    · by_cases hb : b = a
      · exact hb
      · exact absurd (if_neg hb) z
end L2

namespace L2
open PySem PySem.Spec PyProof.Rows

noncomputable abbrev KOf {K : PySem.W.Frag} {h : Heap} (_ : K.In h) : PySem.W.Frag := K

/-- the goal that k_head leaves (case hc), from the law's promise. F gives the function object fd (K's own) once, then the promise over every base -/
theorem walk_of {l : PySem.W.OpenLaw} {n k : Nat} {q : Program} {loose : List Str} {XP : (Str → Option Value) → Heap → Prop} {YP : World → Heap → Prop} {d : DefRec} {K : Params → PySem.W.Frag} {CX : World → CXT} {sp : World → Sp} {x : Str}
    (hn : l.most = some n) (hn2 : n ≤ sizeLine) (hdf : d.params.defaults = []) (hr : Room k callerA)
    (hY : ∀ (w : World) (h : Heap), YP w h → (K w.params).In h)
    (F : ∀ (w : World) (mg : Str → Option Value) (fa : Addr) (h : Heap), (K w.params).In h → h.Ns mainGlobals mg → mg d.name = some (.ref fa) →
      ∃ fd : FuncData, (∀ (s : Shared) (u : Value), BindsTo s fd ⟨[u], []⟩ [(x, u)]) ∧
        ∀ base : Heap, (K w.params).In base → base.Ns mainGlobals mg → FnOk l.prog w (K w.params) mg base (CX w) k fa fd [x] (sp w))
    (hsp : ∀ (w : World) (H : Hp) (a : Addr) (ns : List Int), ns.length ≤ n → Only H → SqL (K w.params) H a (ns.map V.int) → sp w [.ref a] H (fun v _ => v = .bl true) fun _ _ _ => False)
    (hCX : ∀ (w : World) (H : Hp) (s : Shared) (e : Value) (s' : Shared), CX w [] H s (fun _ _ _ => False) e s' → False) :
    PySem.W.WalkO q loose XP YP l.row.toRowW d [] (fun f vs => PySem.call f vs) := by
  refine Att.attach_call hn hdf fun w s₀ s₁ mg mb fa o pm cd doc a vs ns G Y ho hd hcd hmg hobj hints hlen hg => ?_
  have KX := hY w _ Y
  obtain ⟨fd, hb, hF⟩ := F w mg fa _ KX G.T.g hmg
  exact law_call KX G.T.g G.T.b G.T.builtins G.T.nolimit hg hobj hints (Nat.le_trans hlen hn2) hr hF hb (fun H hO hS => hsp w H a ns hlen hO hS) fun H e s' => hCX w H s₁ e s'
end L2

/- THE LAST THEOREM (shape; LID, My.* are yours):
   My.Adr: a structure of the addresses that your layer names (classes, functions); My.Txt K t: a structure (Prop) of the equations over K;
   My.txt_mk : {K} {implicit addresses ..} (e1 : nsIn K mainGlobals "law" = some (some (.ref f))) (e2 : K.lookup f = some ⟨oc, od, .func (fnOf "law" "law" params body scope dV kV doc pm an cdv ct), sl⟩) (e3 : codeIn K cdv "law" = true) .. : ∃ t, My.Txt K t

set_option maxRecDepth 100000 in
set_option maxHeartbeats 0 in
theorem PySem.Challenge.cw_LID_holds : PySem.Challenge.rw_LID.Holds := by
  w_on; o_law; k_head; (case hw => w_witness2)
  k_fill
  refine L2.walk_of (l := PySem.Challenge.rw_LID) (n := 63) (k := 40) (x := "script") (CX := fun w => ..) (sp := fun _ => My.sp_law) rfl (by decide) rfl ⟨rfl, by decide, by decide⟩ (fun w h Y => PySem.W.kIn_of Y) ?F ?S ?C
  case F =>
    intro w mg fa h KX G hmg
    have T : ∃ t, My.Txt (L2.KOf KX) t := by
      dsimp only [L2.KOf]                          -- K must stand as «<heap const> w.params» for k_is
      refine' My.txt_mk ?e1 ?e2 ?e3 ..
      (case e1 => PySem.W.k_is)                    -- in the order: a name -> its address -> its object -> its parts
      (case e2 => PySem.W.k_is)
      ..
    obtain ⟨t, T⟩ := T
    have e0 := hmg.symm.trans (PySem.W.mg_of KX G T.law)
    cases e0                                       -- fa is the law's own address
    exact ⟨_, fun s u => .of_eq rfl, fun base kb nb => My.law_fn T kb nb⟩     -- if «.of_eq rfl» comes too early: refine' ⟨_, ?b, fun base kb nb => My.law_fn T kb nb⟩; exact fun s u => .of_eq rfl
  case S => exact fun w H a ns hl hO hS => ..
  case C => exact ..
(the tactic k_is has no namespace: write k_is) -/

/-! SHORT WORDS over the layer: a def of the text, its body, what a loop and a test want. -/
namespace L2
open PySem PySem.Spec PyProof.Rows

/-! ### the text by places -/
/-- the j-th statement of a class's body -/
noncomputable def inClass (s : Stmt) (j : Nat) : Stmt := match s with
  | .ClassDef _ _ _ body _ _ _ _ _ _ _ => body.getD j (.Pass ⟨0, 0, 0, 0⟩)
  | _ => .Pass ⟨0, 0, 0, 0⟩
noncomputable def defArgs (s : Stmt) : Arguments := match s with
  | .FunctionDef _ a _ _ _ _ _ _ _ _ => a
  | _ => { posonlyargs := [], args := [], vararg := none, kwonlyargs := [], kw_defaults := [], kwarg := none, defaults := [] }
noncomputable def defBody (s : Stmt) : List Stmt := match s with
  | .FunctionDef _ _ b _ _ _ _ _ _ _ => b
  | _ => []
noncomputable def defScope (s : Stmt) : Scope := match s with
  | .FunctionDef _ _ _ _ _ _ sc _ _ _ => sc
  | _ => { kind := .function, names := [], isGenerator := false, isCoroutine := false }

/-! ### no exception leaves a def -/
noncomputable abbrev CX0 : CXT := fun _ _ _ _ _ _ => False
noncomputable abbrev E0 : XK := fun _ _ _ => False
theorem pass0 {X : Cx} : Passes CX0 X E0 := fun _ _ _ _ _ _ _ h => h.elim

/-! ### a def (or method) of the text as it stands behind the top -/
structure Fun (K : PySem.W.Frag) (x qual : Str) (st : Stmt) (f : Addr) (fd : FuncData) : Prop where
  ex : ∃ (oc : Value) (od : Option Addr) (kV doc pm : Value) (an : Option Addr) (cdv ct : Value) (osl : Array (Option Value)),
    fd = PySem.W.fnOf x qual (defArgs st) (defBody st) (defScope st) .none kV doc pm an cdv ct ∧ K.lookup f = some ⟨oc, od, .func fd, osl⟩ ∧ PySem.W.codeIn K cdv qual = true
  kp : PySem.W.keepIn K (.ref f) = true
section
variable {P : Program} {w : World} {K : PySem.W.Frag} {mg : Str → Option Value} {base : Heap}
/-- THE RULE for a def: its body as a term of rules, and the reading of that term -/
theorem Fun.ok {x qual : Str} {st : Stmt} {f : Addr} {fd : FuncData} {N ps : List Str} {k : Nat} {sp : Sp} (F : Fun K x qual st f fd) (S : FnScope N ps (defScope st)) (len : ∀ vs H Q E, sp vs H Q E → vs.length = ps.length)
    (hbody : ∀ (cdv : Value) (A : Around) (outer : List Env) (s : Shared) (H : Hp) (vs : List V) (Q : VK) (E : XK), Room k (A.deeper (envOfC qual (defScope st) s.heap.objs.size f cdv)) → sp vs H Q E →
      ∃ t, PSs (cxOf CX0 P w K mg base N qual (defScope st) f cdv A outer s H E).nox (defBody st) t ∧ t { nx := fun _ H' => Q .non H', rt := Q } (start N vs) H) : FnOk P w K mg base CX0 (k + 1) f fd ps sp := by
  obtain ⟨oc, od, kV, doc, pm, an, cdv, ct, osl, rfl, lk, hcd⟩ := F.ex
  refine fn_of lk hcd S len fun A outer s H vs Q E hr hsp => ?_
  obtain ⟨t, h, q⟩ := hbody cdv A outer s H vs Q E hr hsp
  exact ⟨t, h.nox, q⟩
/-- how its arguments bind (no defaults): h is «fun _ _ _ _ _ _ us hl => match us, hl with | [_, _], _ => rfl», one _ a parameter -/
theorem Fun.binds {x qual : Str} {st : Stmt} {f : Addr} {fd : FuncData} {ps : List Str} (F : Fun K x qual st f fd)
    (h : ∀ (kV doc pm : Value) (an : Option Addr) (cdv ct : Value) (us : List Value), us.length = ps.length → bindArgs (PySem.W.fnOf x qual (defArgs st) (defBody st) (defScope st) .none kV doc pm an cdv ct) ⟨us, []⟩ = pure (ps.zip us)) : Binds K fd ps [] := by
  obtain ⟨oc, od, kV, doc, pm, an, cdv, ct, osl, rfl, lk, hcd⟩ := F.ex
  exact .all (h kV doc pm an cdv ct)
theorem fun_mk {x qual : Str} {st : Stmt} {f : Addr} {oc : Value} {od an : Option Addr} {osl : Array (Option Value)} {kV doc pm cdv ct : Value} (l : K.lookup f = some ⟨oc, od, .func (PySem.W.fnOf x qual (defArgs st) (defBody st) (defScope st) .none kV doc pm an cdv ct), osl⟩)
    (c : PySem.W.codeIn K cdv qual = true) (k : PySem.W.keepIn K (.ref f) = true) : Fun K x qual st f (PySem.W.fnOf x qual (defArgs st) (defBody st) (defScope st) .none kV doc pm an cdv ct) := ⟨⟨oc, od, kV, doc, pm, an, cdv, ct, osl, rfl, l, c⟩, k⟩
end
theorem small1000 {n : Nat} (h : n ≤ 1000) : n < sizeLine := Nat.lt_of_le_of_lt h (by decide)

/-! ### expressions in short: the name that stands in the i-th slot -/
section
variable {X : Cx}
theorem pv (i : Nat) {x : Str} {pos : Pos} (hN : X.N[i]? = some x := by rfl) (hv : Vis X.env.scope x := by first | exact Or.inl rfl | exact Or.inr (Or.inl rfl) | exact Or.inr (Or.inr rfl)) (hd : (x == ("__debug__" : Str)) = false := by decide)
    (hcd : (x == ("__classdict__" : Str)) = false := by decide) : PE X (.Name x pos) (tVar i) := pe_var hN hv hd hcd
end

/-! ### tests -/
theorem iteF {A B : Prop} (h : B) : if false = true then A else B := by
  rw [if_neg Bool.false_ne_true]
  exact h
theorem iteT {A B : Prop} (h : A) : if true = true then A else B := by
  rw [if_pos rfl]
  exact h

/-! ### heaps -/
end L2


set_option Elab.async false
set_option linter.all false
set_option maxRecDepth 100000
set_option maxHeartbeats 4000000
namespace L2
open PySem PySem.Spec PyProof.Rows

/-! ### lists of pairs as tables -/
section
variable {κ : Type} [DecidableEq κ]
noncomputable def valV (kvs : List (κ × V)) (k : κ) : Option V := (kvs.find? fun kv => decide (kv.1 = k)).map (·.2)
/-- in its place, or at the end -/
noncomputable def putK (kvs : List (κ × V)) (k : κ) (v : V) : List (κ × V) :=
  if (kvs.any fun kv => decide (kv.1 = k)) = true then kvs.map (fun kv => if kv.1 = k then (kv.1, v) else kv) else kvs ++ [(k, v)]

theorem valV_pos {p : κ × V} {r : List (κ × V)} {k : κ} (e : p.1 = k) : valV (p :: r) k = some p.2 := by simp [valV, List.find?_cons, e]
theorem valV_neg {p : κ × V} {r : List (κ × V)} {k : κ} (e : ¬ p.1 = k) : valV (p :: r) k = valV r k := by simp [valV, List.find?_cons, e]
theorem valV_any (k : κ) : ∀ kvs : List (κ × V), (kvs.any fun kv => decide (kv.1 = k)) = (valV kvs k).isSome
  | [] => rfl
  | p :: r => by
    rw [List.any_cons]
    by_cases e : p.1 = k
    · simp only [valV_pos e, decide_eq_true e, Bool.true_or, Option.isSome_some]
    · rw [valV_neg e, decide_eq_false e, Bool.false_or]; exact valV_any k r
theorem length_putK (kvs : List (κ × V)) (k : κ) (v : V) : (putK kvs k v).length ≤ kvs.length + 1 := by
  unfold putK
  split
  · rw [List.length_map]; omega
  · rw [List.length_append, List.length_cons, List.length_nil]; omega

theorem RelO.isSome_eq {o : Option V} {u : Option Value} (r : RelO o u) : o.isSome = u.isSome := by
  cases o with
  | none => cases u with
    | none => rfl
    | some _ => exact (show False from r).elim
  | some _ => cases u with
    | none => exact (show False from r).elim
    | some _ => rfl

/-- raw tables of the same keys -/
theorem KV.val {kvs : List (κ × V)} {vs : List (κ × Value)} (r : KV kvs vs) (k : κ) : RelO (valV kvs k) (valueAt vs k) := by
  unfold KV at r
  induction r with
  | nil => exact True.intro
  | @cons p q ps qs h t ih =>
    obtain ⟨h1, h2⟩ := h
    by_cases e : p.1 = k
    · have e' : q.1 = k := h1.symm.trans e
      have b : valueAt (q :: qs) k = some q.2 := by simp [valueAt, List.find?_cons, e']
      rw [valV_pos e, b]; exact h2
    · have e' : ¬ q.1 = k := fun z => e (h1.trans z)
      have b : valueAt (q :: qs) k = valueAt qs k := by simp [valueAt, List.find?_cons, e']
      rw [valV_neg e, b]; exact ih
theorem KV.any {kvs : List (κ × V)} {vs : List (κ × Value)} (r : KV kvs vs) (k : κ) : (kvs.any fun kv => decide (kv.1 = k)) = vs.any fun kv => decide (kv.1 = k) := by
  unfold KV at r
  induction r with
  | nil => rfl
  | cons h t ih => rw [List.any_cons, List.any_cons, ih, h.1]
theorem KV.repl {kvs : List (κ × V)} {vs : List (κ × Value)} (r : KV kvs vs) (k : κ) {y : V} {u : Value} (ry : RelV y u) :
    KV (kvs.map fun kv => if kv.1 = k then (kv.1, y) else kv) (vs.map fun kv => if kv.1 = k then (kv.1, u) else kv) := by
  unfold KV at r ⊢
  induction r with
  | nil => exact .nil
  | @cons p q ps qs h t ih =>
    rw [List.map_cons, List.map_cons]
    refine .cons ?_ ih
    obtain ⟨h1, h2⟩ := h
    by_cases e : p.1 = k
    · rw [if_pos e, if_pos (h1.symm.trans e)]; exact ⟨h1, ry⟩
    · rw [if_neg e, if_neg (fun z => e (h1.trans z))]; exact ⟨h1, h2⟩
theorem KV.put {kvs : List (κ × V)} {vs : List (κ × Value)} (r : KV kvs vs) (k : κ) {y : V} {u : Value} (ry : RelV y u) : KV (putK kvs k y) (stored vs k u) := by
  unfold putK stored
  rw [r.any k]
  by_cases e : (vs.any fun kv => decide (kv.1 = k)) = true
  · rw [if_pos e, if_pos e]; exact r.repl k ry
  · rw [if_neg e, if_neg e]; exact Paired.snoc r ⟨rfl, ry⟩
theorem KV.length {kvs : List (κ × V)} {vs : List (κ × Value)} (r : KV kvs vs) : kvs.length = vs.length := Paired.length r
end


/-! ### a tracked dict, its keys ints and texts or tuples of these -/
theorem kV_is {P : Program} {w : World} {k : Key} {u : Value} (r : RelV (kV k) u) : (mixKind P w).is k u = true := by
  cases k with
  | inl i => obtain ⟨t, e⟩ := (show ∃ t, u = Value.int i t from r); subst e; exact mixKind_int P w i t
  | inr x => obtain ⟨t, e⟩ := (show ∃ t, u = Value.str x t from r); subst e; exact mixKind_str P w x t
theorem items_are {P : Program} {w : World} : ∀ {ks : List Key} {us : List Value}, Vals (ks.map kV) us → ItemsAre (mixKind P w) ks us
  | [], _, r => by rw [List.map_nil] at r; cases r; exact .nil
  | k :: ks, _, r => by
    rw [List.map_cons] at r
    cases r with
    | cons h t => exact .cons (kV_is h) (items_are t)

/-- raw entries of a dict with tuple keys -/
noncomputable abbrev KT (H : Hp) : List (List Key × V) → List (List Key × Addr × Value) → Prop := Paired fun p q => p.1 = q.1 ∧ H q.2.1 = some (.tup (p.1.map kV)) ∧ RelV p.2 q.2.2
theorem KT.val {H : Hp} {kvs : List (List Key × V)} {xs : List (List Key × Addr × Value)} (r : KT H kvs xs) (k : List Key) : RelO (valV kvs k) ((atKey xs k).map (·.2)) := by
  induction r with
  | nil => exact True.intro
  | @cons p q ps qs h t ih =>
    obtain ⟨h1, _, h2⟩ := h
    by_cases e : p.1 = k
    · have e' : q.1 = k := h1.symm.trans e
      have b : atKey (q :: qs) k = some q.2 := by simp [atKey, List.find?_cons, e']
      rw [valV_pos e, b]; exact h2
    · have e' : ¬ q.1 = k := fun z => e (h1.trans z)
      have b : atKey (q :: qs) k = atKey qs k := by simp [atKey, List.find?_cons, e']
      rw [valV_neg e, b]; exact ih
theorem KT.repl {H : Hp} {kvs : List (List Key × V)} {xs : List (List Key × Addr × Value)} (r : KT H kvs xs) (k : List Key) {y : V} {u : Value} (ry : RelV y u) :
    KT H (kvs.map fun kv => if kv.1 = k then (kv.1, y) else kv) (xs.map (putAt k u)) := by
  induction r with
  | nil => exact .nil
  | @cons p q ps qs h t ih =>
    rw [List.map_cons, List.map_cons]
    refine .cons ?_ ih
    obtain ⟨h1, h2, h3⟩ := h
    unfold putAt
    by_cases e : p.1 = k
    · rw [if_pos e, if_pos (h1.symm.trans e)]; exact ⟨h1, h2, ry⟩
    · rw [if_neg e, if_neg (fun z => e (h1.trans z))]; exact ⟨h1, h2, h3⟩
theorem KT.put {H : Hp} {kvs : List (List Key × V)} {xs : List (List Key × Addr × Value)} (r : KT H kvs xs) (k : List Key) {b : Addr} {y : V} {u : Value} (hb : H b = some (.tup (k.map kV))) (ry : RelV y u) :
    KT H (putK kvs k y) (storedH xs k b u) := by
  have e : (kvs.any fun kv => decide (kv.1 = k)) = (atKey xs k).isSome := by
    rw [valV_any, (r.val k).isSome_eq, Option.isSome_map]
  unfold putK storedH
  rw [e]
  by_cases q : (atKey xs k).isSome = true
  · rw [if_pos q, if_pos q]; exact r.repl k ry
  · rw [if_neg q, if_neg q]; exact Paired.snoc r ⟨rfl, hb, ry⟩
theorem KT.keeps {H H' : Hp} {kvs : List (List Key × V)} {xs : List (List Key × Addr × Value)} (r : KT H kvs xs) (ht : ∀ b ys, H b = some (.tup ys) → H' b = some (.tup ys)) : KT H' kvs xs :=
  Paired.mapP r fun _ _ z => ⟨z.1, ht _ _ z.2.1, z.2.2⟩

section
variable {P : Program} {w : World} {H : Hp} {h : Heap} {a : Addr}
theorem rd_of {u : HO} (ok : HOk P w H h) (e : Rd H a u) : ObjOk P w H h a u := e.ok ok
theorem dk_rd {kvs : List (Key × V)} (ok : HOk P w H h) (e : Rd H a (.dK kvs)) : kvs.length ≤ sizeLine ∧ (a == sysModules) = false ∧ ∃ vs, KV kvs vs ∧ h.DictOf (mixKind P w) a vs :=
  show ObjOk P w H h a (.dK kvs) from rd_of ok e
theorem dk_of {kvs : List (Key × V)} (ok : HOk P w H h) (e : H a = some (.dK kvs)) : kvs.length ≤ sizeLine ∧ (a == sysModules) = false ∧ ∃ vs, KV kvs vs ∧ h.DictOf (mixKind P w) a vs := dk_rd ok (.inl e)
/-- a tracked tuple of ints and texts is a key -/
theorem key_of {ks : List Key} (ok : HOk P w H h) (e : H a = some (.tup (ks.map kV))) : (tupleKind (mixKind P w)).is h ks a := by
  obtain ⟨_, its, r, o, h1, h2, n, h3⟩ := (show ObjOk P w H h a (.tup (ks.map kV)) from ok a _ e)
  exact ⟨o, its.toArray, n, h1, h2, h3, by simpa using items_are r⟩
theorem dt_rd {kvs : List (List Key × V)} (ok : HOk P w H h) (e : Rd H a (.dT kvs)) : kvs.length ≤ sizeLine ∧ (a == sysModules) = false ∧
    ∃ xs, KT H kvs xs ∧ h.DictOfH (tupleKind (mixKind P w)) a xs := by
  obtain ⟨z, y, xs, r, o, es, ep, h1, h2, h3, h4, h5⟩ := (show ObjOk P w H h a (.dT kvs) from rd_of ok e)
  refine ⟨z, y, xs, r, o, es, ep, h1, h2, h3, h4, fun x hx => ?_, h5⟩
  have all : ∀ {l : List (List Key × V)} {m : List (List Key × Addr × Value)}, KT H l m → ∀ x ∈ m, (tupleKind (mixKind P w)).is h x.1 x.2.1 := by
    intro l m q
    induction q with
    | nil => intro x hx; exact nomatch hx
    | @cons p q ps qs hq t ih =>
      intro x hx
      rcases List.mem_cons.mp hx with e | hx
      · subst e
        exact key_of ok (by rw [← hq.1]; exact hq.2.1)
      · exact ih x hx
  exact all r x hx
theorem dt_of {kvs : List (List Key × V)} (ok : HOk P w H h) (e : H a = some (.dT kvs)) : kvs.length ≤ sizeLine ∧ (a == sysModules) = false ∧
    ∃ xs, KT H kvs xs ∧ h.DictOfH (tupleKind (mixKind P w)) a xs := dt_rd ok (.inl e)
end

/-- what the dict at a holds at the key y -/
noncomputable def DGet (H : Hp) (a : Addr) (y : V) (r : Option V) : Prop :=
  (∃ kvs k, Rd H a (.dK kvs) ∧ y = kV k ∧ r = valV kvs k) ∨ ∃ kvs k b, Rd H a (.dT kvs) ∧ y = .ref b ∧ H b = some (.tup (k.map kV)) ∧ r = valV kvs k
/-- the heap behind a[y] = v -/
noncomputable def DPut (H : Hp) (a : Addr) (y v : V) (H' : Hp) : Prop :=
  (∃ kvs k, H a = some (.dK kvs) ∧ y = kV k ∧ kvs.length < sizeLine ∧ H' = upd H a (.dK (putK kvs k v))) ∨
  ∃ kvs k b, H a = some (.dT kvs) ∧ y = .ref b ∧ H b = some (.tup (k.map kV)) ∧ kvs.length < sizeLine ∧ H' = upd H a (.dT (putK kvs k v))
theorem DGet.k {H : Hp} {a : Addr} {kvs : List (Key × V)} {k : Key} (e : H a = some (.dK kvs)) : DGet H a (kV k) (valV kvs k) := .inl ⟨kvs, k, .inl e, rfl, rfl⟩
theorem DPut.k {H : Hp} {a : Addr} {kvs : List (Key × V)} {k : Key} {v : V} (e : H a = some (.dK kvs)) (hl : kvs.length < sizeLine) : DPut H a (kV k) v (upd H a (.dK (putK kvs k v))) := .inl ⟨kvs, k, e, rfl, hl, rfl⟩


section
variable {X : Cx} {pins : List (Addr × Obj)} {σ : St} {H : Hp} {s : Shared} {a : Addr} {y v : V} {u r : Value} {o : Option V} {A : Around} {E : Value → Shared → Prop}

theorem Inv.big (I : Inv X pins σ H s) : sysModules < s.heap.objs.size := by
  have h : mainGlobals < s.heap.objs.size := (I.mod.glob.keeps I.bk).lt
  exact Nat.lt_trans (by decide) h

/-- d[y], there -/
theorem d_getItem {Q : Value → Shared → Prop} (hu : A.units + 1 < cLine) (I : Inv X pins σ H s) (g : DGet H a y (some v)) (ry : RelV y u) (h : ∀ w' s', Inv X pins σ H s' → RelV v w' → Q w' s') :
    wpAny (model X.prog X.w) A (getItem (.ref a) u) Q E s := by
  rcases g with ⟨kvs, k, e, ey, l⟩ | ⟨kvs, k, b, e, ey, eb, l⟩
  · subst ey
    obtain ⟨z, hd, vs, rel, dd⟩ := dk_rd I.hok e
    obtain ⟨w', hw, rw'⟩ := RelO.some_of (v := v) (o := valueAt vs k) (by rw [l]; exact rel.val k)
    exact wpAny_getItem_of (kV_is ry) dd.mapOf hw (h w' _ (I.tok _) rw')
  · subst ey
    cases (show u = Value.ref b from ry)
    obtain ⟨z, hd, xs, rel, dd⟩ := dt_rd I.hok e
    obtain ⟨w', hw, rw'⟩ := RelO.some_of (v := v) (o := (atKey xs k).map (·.2)) (by rw [l]; exact rel.val k)
    obtain ⟨p, hp, hp2⟩ := Option.map_eq_some_iff.mp hw
    refine wpAny_getItem_heap (tupleKind_room_in1 hu) (key_of I.hok eb) dd hp ?_
    rw [hp2]
    exact h w' _ (I.tok _) rw'
/-- a dict's object is replaced -/
theorem d_write {h' : Heap} {t' : Nat} {ob : HO} (I : Inv X pins σ H s) (mu : Mut (H a)) (hs : Heap.SameBut a s.heap h') (he : ∃ q, h'.get? a = some q) (new : ObjOk X.prog X.w (upd H a ob) h' a ob) :
    Inv X pins σ (upd H a ob) { s with heap := h', toks := t' } :=
  I.write (x := a) (e := a) mu (.inl rfl) (fun b q hb z => (hs.2 b hb).trans z) he new
theorem dk_new {P : Program} {w : World} {H' : Hp} {h' : Heap} {kvs : List (Key × V)} {vs : List (Key × Value)} (z : kvs.length ≤ sizeLine) (hd : (a == sysModules) = false) (rel : KV kvs vs) (dd : h'.DictOf (mixKind P w) a vs) :
    ObjOk P w H' h' a (.dK kvs) := ⟨z, hd, vs, rel, dd⟩
/-- d[y] = v -/
theorem d_setItem {H' : Hp} {Q : Unit → Shared → Prop} (hu : A.units + 1 < cLine) (I : Inv X pins σ H s) (g : DPut H a y v H') (ry : RelV y u) (rv : RelV v r) (h : ∀ s', Inv X pins σ H' s' → Q () s') :
    wpAny (model X.prog X.w) A (setItem (.ref a) u r) Q E s := by
  rcases g with ⟨kvs, k, e, ey, l, eH⟩ | ⟨kvs, k, b, e, ey, eb, l, eH⟩
  · subst ey eH
    obtain ⟨z, hd, vs, rel, dd⟩ := dk_of I.hok e
    have hz : vs.length ≤ sizeLine := by rw [← rel.length]; exact z
    have hl : (putK kvs k v).length ≤ sizeLine := by have := length_putK kvs k v; omega
    refine wpAny_setItem_pairs (hsz := hz) (kV_is ry) dd fun h' dd' hs => h _ ?_
    have he : ∃ q, h'.get? a = some q := let ⟨q, _, _, hq, _⟩ := dd'; ⟨q, hq⟩
    exact d_write I (by rw [e]; exact True.intro) hs he (dk_new hl hd (rel.put k rv) dd')
  · subst ey eH
    cases (show u = Value.ref b from ry)
    obtain ⟨z, hd, xs, rel, dd⟩ := dt_of I.hok e
    have hz : xs.length ≤ sizeLine := by rw [← Paired.length rel]; exact z
    have hl : (putK kvs k v).length ≤ sizeLine := by have := length_putK kvs k v; omega
    refine wpAny_setItem_heap (hsz := hz) (tupleKind_room_in1 hu) (key_of I.hok eb) dd fun h' dd' hs => h _ ?_
    obtain ⟨q, es, ep, hq, h2, h3, h4, _, h5⟩ := dd'
    refine d_write I (by rw [e]; exact True.intro) hs ⟨q, hq⟩ ⟨hl, hd, _, (rel.put k eb rv).keeps fun c ys ec => ?_, q, es, ep, hq, h2, h3, h4, h5⟩
    rw [upd_ne (ne_of ec e (fun z => nomatch z))]
    exact ec
end

section
variable {X : Cx} {pins : List (Addr × Obj)} {σ : St} {H : Hp} {s : Shared} {a : Addr} {kvs : List (Key × V)} {k : Key} {u : Value} {A : Around} {E : Value → Shared → Prop}
end


/-! ### readings and rules -/
/-- the element of a subscription, not a slice -/
noncomputable def NoSl (i : Expr) : Prop := ∀ ov iv, subscripted i false ov iv = operate [ov, iv] (getItem ov iv)
theorem subD_of {prog : Program} {w : World} {A : Around} {E : Value → Shared → Prop} {s : Shared} {env : Env} {value slice : Expr} {pos : Pos} {T id : String} {Q : Value → Shared → Prop}
    (hl : typeLookup (.type T) "__getitem__" = pure (some (.builtin id))) (hs : NoSl slice)
    (h : wpAny (model prog w) A (eval value env) (fun o s₁ => wpAny (model prog w) A (eval slice env) (fun i s₂ => s₂.TypeIs o T ∧ wpAny (model prog w) A (getItem o i) Q E s₂) E s₁) E s) :
    wpAny (model prog w) A (eval (.Subscript value slice pos) env) Q E s := by
  refine Subscript_ (wpAny_mono h (fun o s₁ h₁ => wpAny_mono h₁ (fun i s₂ h₂ => ?_) fun _ _ x => x) fun _ _ x => x)
  obtain ⟨hT, h₂⟩ := h₂
  unfold subscriptTail
  refine wpAny_bind ?_
  rw [getitemInPython_of_ne hT.not_modules]
  refine wpAny_bind (wpAny_specialOf hT hl ?_)
  have fin : wpAny (model prog w) A (subscripted slice false o i) (fun r s₃ => wpAny (model prog w) A (letTemporaryGo value o r >>= fun _ => pure r) Q E s₃) E s₂ := by
    rw [hs o i]
    exact wpAny_operating (wpAny_mono h₂ (fun r s₃ h₃ => wpAny_bind (wpAny_letTemporaryGo (wpAny_pure h₃))) fun _ _ x => x)
  first
    | exact wpAny_pure (wpAny_bind fin)
    | exact wpAny_bind (wpAny_pure (wpAny_bind fin))
    | exact wpAny_bind fin

theorem dict_typeIs {X : Cx} {pins : List (Addr × Obj)} {σ : St} {H : Hp} {s : Shared} {a : Addr} {y : V} {o : Option V} (I : Inv X pins σ H s) (g : DGet H a y o) : s.TypeIs (.ref a) "dict" := by
  rcases g with ⟨kvs, k, e, _, _⟩ | ⟨kvs, k, b, e, _, _, _⟩
  · obtain ⟨_, _, vs, _, dd⟩ := dk_rd I.hok e
    exact dd.typeIs
  · obtain ⟨_, _, xs, _, dd⟩ := dt_rd I.hok e
    exact dd.typeIs

/-- d[y] -/
noncomputable def tDGet (td ty : TE) : TE := fun σ H Q => td σ H fun x H1 => ty σ H1 fun y H2 => ∃ a v, x = .ref a ∧ DGet H2 a y (some v) ∧ Q v H2
/-- d[y] = v -/
noncomputable def sDPut (td ty tv : TE) : TS := fun D σ H => tv σ H fun v H1 => td σ H1 fun x H2 => ty σ H2 fun y H3 => ∃ a H4, x = .ref a ∧ DPut H3 a y v H4 ∧ D.nx σ H4

section
variable {X : Cx} {o i e value : Expr} {pos pos' tpos : Pos} {td ty tv : TE}
theorem pe_dget (hu : X.A.units + 1 < cLine) (ho : PE X o td) (hi : PE X i ty) (hs : NoSl i) : PE X (.Subscript o i pos) (tDGet td ty) := by
  intro pins s σ H Q I h
  refine subD_of PySem.F.slot_dict_getitem.lookup hs (thn (ho pins s σ H _ I h) fun u s1 ⟨x, H1, I1, rx, q1⟩ => thn (hi pins s1 σ H1 _ I1 q1) fun iv s2 ⟨y, H2, I2, ry, a, v, ex, g, q2⟩ => ?_)
  subst ex
  obtain rfl : u = Value.ref a := rx
  exact ⟨dict_typeIs I2 g, d_getItem hu I2 g ry fun w' s3 I3 rw' => ⟨v, H2, I3, rw', q2⟩⟩
theorem ps_dput (hu : X.A.units + 1 < cLine) (ho : PE X o td) (hi : PE X i ty) (hv : PE X value tv) (hs : swapsWith value (some (.Subscript o i pos')) pos.line X.env = pure false) :
    PS X (.Assign [.Subscript o i pos'] value pos) (sDPut td ty tv) := by
  intro pins s σ H D I h
  refine wpAny_Assign_Subscript (thn (hv pins s σ H _ I h) fun r s1 ⟨v, H1, I1, rv, q1⟩ => thn (ho pins s1 σ H1 _ I1 q1) fun u s2 ⟨x, H2, I2, rx, q2⟩ => thn (hi pins s2 σ H2 _ I2 q2) fun iv s3 ⟨y, H3, I3, ry, a, H4, ex, g, q3⟩ => ?_) hs
  subst ex
  obtain rfl : u = Value.ref a := rx
  exact d_setItem hu I3 g ry rv fun s4 I4 => ⟨σ, H4, I4, q3⟩
end


/-! ### displays -/
theorem dk_empty {P : Program} {w : World} {H : Hp} (h : Heap) (hb : sysModules < h.objs.size) : ObjOk P w H (h.push { cls := .type "dict", data := .dict #[] }) h.objs.size (.dK []) :=
  ⟨Nat.zero_le _, beq_eq_false_iff_ne.mpr (Ne.symm (Nat.ne_of_lt hb)), [], .nil, Heap.DictOf.new h⟩
section
variable {X : Cx} {pos : Pos}
end

/-- the pairs of a display, from the left -/
noncomputable def tPairs : List (TE × TE) → St → Hp → (List (V × V) → Hp → Prop) → Prop
  | [], _, H, Q => Q [] H
  | (tk, tv) :: r, σ, H, Q => tk σ H fun x H1 => tv σ H1 fun y H2 => tPairs r σ H2 fun ps H3 => Q ((x, y) :: ps) H3
noncomputable abbrev VV : List (V × V) → List (Value × Value) → Prop := Paired fun p q => RelV p.1 q.1 ∧ RelV p.2 q.2
noncomputable def PPs (X : Cx) (pos : Pos) (keys : List (Option Expr)) (values : List Expr) (trs : List (TE × TE)) : Prop :=
  ∀ (pins : List (Addr × Obj)) (s : Shared) (σ : St) (H : Hp) (Q : List (V × V) → Hp → Prop), Inv X pins σ H s → tPairs trs σ H Q →
    wpAny (model X.prog X.w) X.A (evalPairs (pairTrees keys values X.env pos)) (fun vs s' => ∃ ps H', Inv X pins σ H' s' ∧ VV ps vs ∧ Q ps H') X.xe s
theorem pps_nil {X : Cx} {pos : Pos} : PPs X pos [] [] [] := fun pins s σ H Q I h => pairTrees_nil_walk ⟨[], H, I, .nil, h⟩
theorem pps_cons {X : Cx} {pos : Pos} {k v : Expr} {ks : List (Option Expr)} {vs : List Expr} {tk tv : TE} {trs : List (TE × TE)} (hk : PE X k tk) (hv : PE X v tv) (hr : PPs X pos ks vs trs) :
    PPs X pos (some k :: ks) (v :: vs) ((tk, tv) :: trs) := fun pins s σ H Q I h =>
  pairTrees_cons_walk (thn (hk pins s σ H _ I h) fun u s1 ⟨x, H1, I1, rx, q1⟩ => thn (hv pins s1 σ H1 _ I1 q1) fun w2 s2 ⟨y, H2, I2, ry, q2⟩ =>
    thn (hr pins s2 σ H2 _ I2 q2) fun ws s3 ⟨ps, H3, I3, rel, q3⟩ => ⟨(x, y) :: ps, H3, I3, .cons ⟨rx, ry⟩ rel, q3⟩)

noncomputable def mergeK (kvs more : List (Key × V)) : List (Key × V) := more.foldl (fun acc kv => putK acc kv.1 kv.2) kvs
theorem KV.merge : ∀ {more : List (Key × V)} {rs : List (Key × Value)} {kvs : List (Key × V)} {vs : List (Key × Value)}, KV more rs → KV kvs vs → KV (mergeK kvs more) (merged vs rs) := by
  intro more rs kvs vs r
  unfold KV at r
  induction r generalizing kvs vs with
  | nil => intro q; exact q
  | @cons p q ps qs h t ih =>
    intro r0
    have e : KV (putK kvs p.1 p.2) (stored vs q.1 q.2) := by
      have := r0.put p.1 h.2
      rw [← h.1]; exact this
    exact ih e
theorem length_mergeK : ∀ (more kvs : List (Key × V)), (mergeK kvs more).length ≤ kvs.length + more.length
  | [], kvs => by show kvs.length ≤ kvs.length + 0; omega
  | p :: r, kvs => by
    have h1 := length_mergeK r (putK kvs p.1 p.2)
    have h2 := length_putK kvs p.1 p.2
    show (mergeK (putK kvs p.1 p.2) r).length ≤ _
    rw [List.length_cons]; omega
theorem carries_of {P : Program} {w : World} : ∀ {kvs : List (Key × V)} {ws : List (Value × Value)}, VV (kvs.map fun kv => (kV kv.1, kv.2)) ws → ∃ rs, Carries (mixKind P w) ws rs ∧ KV kvs rs
  | [], _, r => by rw [List.map_nil] at r; cases r; exact ⟨[], True.intro, .nil⟩
  | p :: kvs, _, r => by
    rw [List.map_cons] at r
    cases r with
    | @cons a b as bs h t =>
      obtain ⟨rs, c, q⟩ := carries_of (P := P) (w := w) t
      obtain ⟨b1, b2⟩ := b
      exact ⟨(p.1, b2) :: rs, ⟨kV_is h.1, rfl, c⟩, .cons ⟨rfl, h.2⟩ q⟩
/-- {k: v, ..} with keys ints and texts; the new dict stands empty while the pairs are made -/
noncomputable def tDisp (trs : List (TE × TE)) : TE := fun σ H Q => ∀ p, H p = none → tPairs trs σ (upd H p (.dK [])) fun ps H2 => H2 p = some (.dK []) ∧ ∃ kvs : List (Key × V), ps = kvs.map (fun kv => (kV kv.1, kv.2)) ∧ kvs.length ≤ 15 ∧ Q (.ref p) (upd H2 p (.dK (mergeK [] kvs)))
theorem pe_disp {X : Cx} {pos : Pos} {keys : List (Option Expr)} {values : List Expr} {trs : List (TE × TE)} (h : PPs X pos keys values trs) (hall : keys.all (·.isSome) = true) (hl : keys.length = values.length) (h0 : keys ≠ [])
    (h15 : keys.length ≤ 15) : PE X (.Dict keys values pos) (tDisp trs) := by
  intro pins s σ H Q I q
  have hn := I.hok.fresh (Nat.le_refl s.heap.objs.size)
  have I1 := I.laid (a := s.heap.objs.size) (o := .dK []) (h' := s.heap.push { cls := .type "dict", data := .dict #[] }) (t' := s.toks) (fun _ _ q => Heap.get?_push_of_some _ q) (Nat.le_refl _) (dk_empty s.heap I.big)
  refine wpAny_Dict_walk (knd := mixKind X.prog X.w) hall hl h0 h15 (thn (h pins _ σ _ _ I1 (q _ hn)) fun ws s2 ⟨ps, H2, I2, rel, e, kvs, ep, lk, q2⟩ => ?_)
  subst ep
  obtain ⟨rs, c, rk⟩ := carries_of (P := X.prog) (w := X.w) rel
  obtain ⟨z, hd, vs0, r0, dd⟩ := dk_of I2.hok e
  cases r0
  refine ⟨rs, c, dd, fun h' dd' hs => ⟨.ref s.heap.objs.size, _, ?_, rfl, q2⟩⟩
  have hz : (mergeK [] kvs).length ≤ sizeLine := by
    have h1 := length_mergeK kvs []
    rw [List.length_nil] at h1
    rw [sizeLine_eq]; omega
  have he : ∃ q, h'.get? s.heap.objs.size = some q := let ⟨q, _, _, hq, _⟩ := dd'; ⟨q, hq⟩
  exact d_write I2 (by rw [e]; exact True.intro) hs he (dk_new hz hd (rk.merge .nil) dd')


/-! ### methods -/
/-- a method call o.m(e) of a built-in, with one argument: what must be seen of the text -/
structure M1 (X : Cx) (o : Expr) (m : Str) (apos : Pos) (e : Expr) (cpos : Pos) : Prop where
  base : attributeBase o m X.env (eval o X.env) = eval o X.env
  few : ((backTo cpos (starEach [e] X.env)).all (fun x => !x.1) && (backToKw cpos (keywordEach [] X.env)).all (fun x => x.1.isSome)
    && decide (([e] : List Expr).length + ([] : List Keyword).length + (if ([] : List Keyword).isEmpty then 0 else 1) < 30)) = true
  line : (apos.endLine == cpos.line) = true
  trees : backTo cpos (starEach [e] X.env) = [(false, eval e X.env)]
structure M2 (X : Cx) (o : Expr) (m : Str) (apos : Pos) (e f : Expr) (cpos : Pos) : Prop where
  base : attributeBase o m X.env (eval o X.env) = eval o X.env
  few : ((backTo cpos (starEach [e, f] X.env)).all (fun x => !x.1) && (backToKw cpos (keywordEach [] X.env)).all (fun x => x.1.isSome)
    && decide (([e, f] : List Expr).length + ([] : List Keyword).length + (if ([] : List Keyword).isEmpty then 0 else 1) < 30)) = true
  line : (apos.endLine == cpos.line) = true
  trees : backTo cpos (starEach [e, f] X.env) = [(false, eval e X.env), (false, eval f X.env)]


section
variable {X : Cx} {pins : List (Addr × Obj)} {σ : St} {H : Hp} {s : Shared} {a : Addr} {y d : V} {u r : Value} {o : Option V} {A : Around} {E : Value → Shared → Prop}
end

section
variable {X : Cx} {o e f : Expr} {apos cpos : Pos} {td ty tx : TE}
end

/-! ### dict(d): a copy -/
section
variable {X : Cx} {pins : List (Addr × Obj)} {σ : St} {H : Hp} {s : Shared} {a : Addr} {kvs : List (Key × V)} {A : Around} {E : Value → Shared → Prop}
end


section
variable {X : Cx} {pins : List (Addr × Obj)} {σ : St} {H : Hp} {s : Shared} {a : Addr} {y : V} {u : Value} {A : Around} {E : Value → Shared → Prop}
end
end L2

set_option Elab.async false
set_option linter.all false
set_option maxRecDepth 100000
set_option maxHeartbeats 4000000
namespace L2
open PySem PySem.Spec PyProof.Rows
/-- the code tables that may grow -/
class TabP where
  tp : Addr → Prop
  ql : Addr → Str
noncomputable def nT : HO → Prop
  | .tbl _ => False
  | _ => True
noncomputable def cdP (c : Addr) (q : Str) : Heap → Prop := fun h => h.CodeRec (.ref c) q
noncomputable def TabOk [TabP] (H : Hp) (P : Addr) : Prop := ∃ ps : Array Value, H P = some (.tbl ps) ∧ TriplesOk ps.toList ∧ ∀ pos cv, codeAmong pos ps.toList = some cv → ∃ c, cv = .ref c ∧ H c = some (.ext (cdP c (TabP.ql P)))
noncomputable def TabsOk [TabP] (H : Hp) : Prop := ∀ P, TabP.tp P → TabOk H P
/-- all that was tracked is as it was; tables may have grown -/
structure Same [TabP] (H H' : Hp) : Prop where
  at' : ∀ b o, H b = some o → (h : nT o := by exact trivial) → H' b = some o
  tb : ∀ b ps, H b = some (.tbl ps) → ∃ ps', H' b = some (.tbl ps')
  gd : TabsOk H → TabsOk H'
variable [TabP]
theorem nT_or (o : HO) : nT o ∨ ∃ ps, o = .tbl ps := by cases o <;> first | exact .inl trivial | exact .inr ⟨_, rfl⟩
theorem Same.refl (H : Hp) : Same H H := ⟨fun _ _ h _ => h, fun _ ps h => ⟨ps, h⟩, id⟩
theorem Same.trans {H H1 H2 : Hp} (a : Same H H1) (b : Same H1 H2) : Same H H2 :=
  ⟨fun c o h n => b.at' c o (a.at' c o h n) n, fun c ps h => let ⟨p1, e1⟩ := a.tb c ps h; b.tb c p1 e1, fun g => b.gd (a.gd g)⟩
theorem Same.some {H H' : Hp} (s : Same H H') {b : Addr} (h : H b ≠ none) : H' b ≠ none := by
  cases e : H b with
  | none => exact absurd e h
  | some o =>
    rcases nT_or o with n | ⟨ps, rfl⟩
    · rw [s.at' b o e n]; intro z; cases z
    · obtain ⟨p, q⟩ := s.tb b ps e; rw [q]; intro z; cases z
theorem Same.free {H H' : Hp} (e : Same H H') {l : Addr} (h : H' l = Option.none) : H l = Option.none := by
  cases q : H l with
  | none => rfl
  | some o => exact absurd h (e.some (by rw [q]; intro z; cases z))
theorem Same.seq {K : PySem.W.Frag} {H H' : Hp} {a : Addr} {xs : List V} (e : Same H H') (h : SqL K H a xs) : SqL K H' a xs := by
  rcases h with (h | ⟨o, h⟩) | h
  · exact .inl (.inl (e.at' _ _ h))
  · exact .inl (.inr ⟨o, e.at' _ _ h⟩)
  · exact .inr h
/-- a thing changed that is no table and no code -/
theorem TabsOk.put {H : Hp} {p : Addr} (g : TabsOk H) (o : HO) (h1 : ∀ ps, H p ≠ some (.tbl ps)) (h2 : ∀ q, H p ≠ some (.ext (cdP p q))) : TabsOk (upd H p o) := fun P hP => by
  obtain ⟨ps, e, t, c⟩ := g P hP
  refine ⟨ps, by rw [upd_ne (by rintro rfl; exact h1 _ e)]; exact e, t, fun pos cv hc => ?_⟩
  obtain ⟨c', e1, e2⟩ := c pos cv hc
  exact ⟨c', e1, by rw [upd_ne (by rintro rfl; exact h2 _ e2)]; exact e2⟩
theorem TabsOk.new {H : Hp} {p : Addr} (g : TabsOk H) (h : H p = none) (o : HO) : TabsOk (upd H p o) := g.put o (fun ps => by rw [h]; intro z; cases z) (fun φ => by rw [h]; intro z; cases z)
theorem TabsOk.lst {H : Hp} {p : Addr} {zs : List V} (g : TabsOk H) (h : H p = some (.lst zs)) (o : HO) : TabsOk (upd H p o) := g.put o (fun ps => by rw [h]; intro z; cases z) (fun φ => by rw [h]; intro z; cases z)
theorem same_new {H : Hp} {p : Addr} (h : H p = none) (o : HO) : Same H (upd H p o) :=
  ⟨fun b u q _ => by rw [upd_ne (ne_of_none q h)]; exact q, fun b ps q => ⟨ps, by rw [upd_ne (ne_of_none q h)]; exact q⟩, fun g => g.new h o⟩
theorem upd_over {H1 H : Hp} {D : Addr} {zs : List V} (hD : H1 D = none) (s : Same H1 H) (hl : H D = some (.lst zs)) (o : HO) : Same H1 (upd H D o) :=
  ⟨fun b u q n => by rw [upd_ne (ne_of_none q hD)]; exact s.at' b u q n, fun b ps q => by rw [upd_ne (ne_of_none q hD)]; exact s.tb b ps q, fun g => (s.gd g).lst hl o⟩
end L2

namespace L2
open PySem
noncomputable def clGo (env : Env) : List (Str × NameKind) → List (Str × Addr) → List (Str × Addr)
  | [], acc => acc
  | (n, k) :: r, acc => if (k == NameKind.free) = true then clGo env r ((n, (env.cells.lookup n).getD 0) :: acc) else clGo env r acc
noncomputable abbrev clOf (scope : Scope) (env : Env) : List (Str × Addr) := clGo env scope.names []
theorem closureFor_cl {scope : Scope} {env : Env} (h : ∀ y ∈ scope.names, y.2 = .free → ∃ c, env.cells.lookup y.1 = some c) : closureFor scope env = pure (clOf scope env) := by
  unfold closureFor clOf
  generalize scope.names = ns at h
  generalize ([] : List (Str × Addr)) = acc
  show (forIn ns acc _ >>= _) = _
  induction ns generalizing acc with
  | nil => rfl
  | cons y r ih =>
    obtain ⟨n, k⟩ := y
    rw [List.forIn_cons]
    have ih' := fun acc => ih (fun y hy => h y (List.mem_cons_of_mem _ hy)) acc
    by_cases hk : (k == NameKind.free) = true
    · have hk' : k = .free := by simpa using hk
      obtain ⟨c, hc⟩ := h (n, k) List.mem_cons_self hk'
      have e1 : cellOf env n = pure c := by unfold cellOf; rw [hc]
      simp only [hk, if_true, e1, pure_bind, clGo, hc, Option.getD_some]
      exact ih' _
    · simp only [hk, clGo]
      exact ih' _
theorem clGo_mem {env : Env} : ∀ {ns : List (Str × NameKind)} {acc : List (Str × Addr)} {p : Str × Addr}, p ∈ clGo env ns acc → p ∈ acc ∨ ∃ k, (p.1, k) ∈ ns ∧ k = NameKind.free ∧ p.2 = (env.cells.lookup p.1).getD 0
  | [], _, _, h => .inl h
  | (n, k) :: r, acc, p, h => by
    unfold clGo at h
    split at h
    · rename_i hk
      rcases clGo_mem h with h | ⟨k', a, b⟩
      · rcases List.mem_cons.mp h with rfl | h
        · exact .inr ⟨k, List.mem_cons_self, by simpa using hk, rfl⟩
        · exact .inl h
      · exact .inr ⟨k', List.mem_cons_of_mem _ a, b⟩
    · rcases clGo_mem h with h | ⟨k', a, b⟩
      · exact .inl h
      · exact .inr ⟨k', List.mem_cons_of_mem _ a, b⟩
theorem clGo_has {env : Env} : ∀ {ns : List (Str × NameKind)} {acc : List (Str × Addr)} {y : Str}, ((y, NameKind.free) ∈ ns ∨ ∃ c, (y, c) ∈ acc) → ∃ c, (y, c) ∈ clGo env ns acc
  | [], _, _, h => by
    rcases h with h | h
    · cases h
    · exact h
  | (n, k) :: r, acc, y, h => by
    unfold clGo
    split
    · refine clGo_has ?_
      rcases h with h | ⟨c, h⟩
      · rcases List.mem_cons.mp h with e | h
        · cases e; exact .inr ⟨_, List.mem_cons_self⟩
        · exact .inl h
      · exact .inr ⟨c, List.mem_cons_of_mem _ h⟩
    · rename_i hk
      refine clGo_has ?_
      rcases h with h | h
      · rcases List.mem_cons.mp h with e | h
        · cases e; exact absurd rfl hk
        · exact .inl h
      · exact .inr h
theorem lookup_of_mem {α : Type} {y : Str} {c : α} : ∀ {l : List (Str × α)}, (y, c) ∈ l → ∃ c', l.lookup y = some c'
  | (n, k) :: r, h => by
    by_cases e : (y == n) = true
    · exact ⟨k, by rw [List.lookup_cons, e]⟩
    · have e' : (y == n) = false := by simpa using e
      rcases List.mem_cons.mp h with z | z
      · cases z; simp at e
      · obtain ⟨c', q⟩ := lookup_of_mem z
        exact ⟨c', by rw [List.lookup_cons, e']; exact q⟩
theorem cl_lookup {scope : Scope} {env : Env} (h : ∀ y ∈ scope.names, y.2 = .free → ∃ c, env.cells.lookup y.1 = some c) {y : Str} {c : Addr} (e : (clOf scope env).lookup y = some c) : env.cells.lookup y = some c := by
  rcases clGo_mem (PySem.mem_of_lookup e) with z | ⟨k, a, b, d⟩
  · cases z
  · obtain ⟨c', q⟩ := h _ a b
    have d' : c = (env.cells.lookup y).getD 0 := d
    have q' : env.cells.lookup y = some c' := q
    rw [q'] at d' ⊢
    exact congrArg some d'.symm
theorem cl_has {scope : Scope} {env : Env} {y : Str} (h : scope.names.lookup y = some .free) : ∃ c, (clOf scope env).lookup y = some c := by
  obtain ⟨c, q⟩ := clGo_has (env := env) (acc := []) (.inl (PySem.mem_of_lookup h))
  exact lookup_of_mem q
theorem map_kind {g : Str × NameKind → Str × NameKind} {y : Str} (h1 : ∀ p, (g p).1 = p.1) (h2 : ∀ p, p.2 ≠ .cell → (g p).2 = .cell ∨ (g p).2 = .free → p.2 = .free) :
    ∀ {ns : List (Str × NameKind)}, (∀ z ∈ ns, z.2 ≠ NameKind.cell) → ((ns.map g).lookup y = some .cell ∨ (ns.map g).lookup y = some .free) → ns.lookup y = some .free
  | [], _, h => by simp at h
  | p :: r, hc, h => by
    rw [List.map_cons] at h
    have ih := map_kind (g := g) (y := y) h1 h2 (ns := r) fun z hz => hc z (List.mem_cons_of_mem _ hz)
    have nc := hc p List.mem_cons_self
    have q1 := h1 p
    have q2 := h2 p nc
    generalize g p = q at h q1 q2
    obtain ⟨qn, qk⟩ := q
    obtain ⟨n, k⟩ := p
    have q1 : qn = n := q1
    subst q1
    have q2 : qk = .cell ∨ qk = .free → k = .free := q2
    rw [List.lookup_cons] at h ⊢
    cases e : (y == qn) with
    | true =>
      rw [e] at h
      have h' : some qk = some NameKind.cell ∨ some qk = some NameKind.free := h
      exact congrArg some (q2 (h'.imp Option.some.inj Option.some.inj))
    | false =>
      rw [e] at h
      exact ih h
theorem relabel_kind {scope : Scope} {env : Env} {y : Str} (hc : ∀ z ∈ scope.names, z.2 ≠ NameKind.cell) (h : (relabel scope env).names.lookup y = some .cell ∨ (relabel scope env).names.lookup y = some .free) : scope.names.lookup y = some .free := by
  refine map_kind (fun p => ?_) (fun p hp q => ?_) hc h
  · obtain ⟨n, k⟩ := p
    dsimp only
    split <;> rfl
  · obtain ⟨n, k⟩ := p
    dsimp only at q hp ⊢
    split at q
    · rename_i hk
      have := (Bool.and_eq_true _ _ ▸ (Bool.and_eq_true _ _ ▸ hk).1).1
      simpa using this
    · exact q.elim (fun z => absurd z hp) id
end L2

namespace L2
open PySem PySem.Spec PyProof.Rows
/-! ### comprehensions: the block's context -/
noncomputable def cxComp (X : Cx) (scope : Scope) (N : List Str) (C : Addr) (fp : List Addr) (s : Shared) (H : Hp) : Cx where
  prog := X.prog
  w := X.w
  K := X.K
  mg := X.mg
  base := X.base
  A := X.A
  N := N
  s₀ := s
  H₀ := H
  env := compEnvC scope (clOf scope X.env) C X.env
  outer := X.stack
  stack := X.stack
  ex := fp
  fn := fun _ => false
  calm := X.calm
  pn := []
  xe := fun _ _ => False
/-- what the block's scope must be: n own names first, then those that are taken from around; cap: their places around -/
structure CpScope (esc scope : Scope) (EN N : List Str) (n : Nat) (cap : List Nat) : Prop where
  kind : scope.kind = .function
  cell : ∀ y ∈ scope.names, y.2 ≠ .cell
  loc : ∀ y ∈ scope.names, y.2 = .local → scope.names.lookup y.1 = some .local
  free : ∀ y ∈ scope.names, y.2 = .free → esc.names.lookup y.1 = some .cell ∨ esc.names.lookup y.1 = some .free
  nd : N.Nodup
  len : N.length = n + cap.length
  caps : ∀ j < cap.length, N[n + j]? = EN[cap.getD j 0]? ∧ ∀ x, N[n + j]? = some x → scope.names.lookup x = some .free
noncomputable def cpSt (n : Nat) (cap : List Nat) (σ : St) : St := List.replicate n none ++ cap.map fun k => (σ[k]?).join
theorem cpSt_len {n : Nat} {cap : List Nat} {σ : St} : (cpSt n cap σ).length = n + cap.length := by
  unfold cpSt; rw [List.length_append, List.length_replicate, List.length_map]
theorem cpSt_get {n : Nat} {cap : List Nat} {σ : St} {i : Nat} {v : V} (h : (cpSt n cap σ)[i]? = some (some v)) : ∃ j, i = n + j ∧ j < cap.length ∧ σ[cap.getD j 0]? = some (some v) := by
  unfold cpSt at h
  by_cases hi : i < n
  · rw [List.getElem?_append_left (by simpa using hi), List.getElem?_replicate, if_pos hi] at h
    cases h
  · rw [List.getElem?_append_right (by simpa using hi), List.length_replicate, List.getElem?_map] at h
    cases e : cap[i - n]? with
    | none => rw [e] at h; cases h
    | some k =>
      rw [e] at h
      have hl : i - n < cap.length := (List.getElem?_eq_some_iff.mp e).1
      refine ⟨i - n, by omega, hl, ?_⟩
      have h' : (σ[k]?).join = some v := Option.some.inj h
      rw [List.getD_eq_getElem?_getD, e, Option.getD_some]
      cases q : σ[k]? with
      | none => rw [q] at h'; cases h'
      | some z => rw [q] at h'; exact congrArg some h'

section
variable {X : Cx} {scope esc : Scope} {EN N : List Str} {n : Nat} {cap : List Nat} {pins : List (Addr × Obj)} {σ : St} {H : Hp} {s : Shared} {fp : List Addr}
theorem inv_comp {h' : Heap} {tk : Nat} {m : Str → Option Value} (S : CpScope esc scope EN N n cap) (he : X.env.scope = esc) (hN : X.N = EN) (I : Inv X pins σ H s) (hf : ∀ b ∈ fp, FpOk X pins H b) (ho : ∀ b ∈ fp, ∃ o, s.heap.get? b = some o)
    (hns : h'.Ns s.heap.objs.size m) (k : ∀ b o, s.heap.get? b = some o → h'.get? b = some o) :
    Inv (cxComp X scope N s.heap.objs.size fp s H) [] (cpSt n cap σ) H { s with heap := h', toks := tk } := by
  have hfree : ∀ y ∈ scope.names, y.2 = .free → ∃ c, X.env.cells.lookup y.1 = some c := fun y hy hk => by
    refine I.ok.has y.1 ?_
    show X.env.scope.names.lookup y.1 = _ ∨ X.env.scope.names.lookup y.1 = _
    rw [he]; exact S.free y hy hk
  have up : ∀ {y : Str} {c : Addr}, (clOf scope X.env).lookup y = some c → X.env.cells.lookup y = some c := fun {y c} e => cl_lookup hfree e
  have kfree : ∀ y, (cxComp X scope N s.heap.objs.size fp s H).env.kindOf y = some .cell ∨ (cxComp X scope N s.heap.objs.size fp s H).env.kindOf y = some .free → scope.names.lookup y = some .free := fun y h => relabel_kind S.cell h
  have cellK : ∀ c v, s.heap.IsCell c v → h'.IsCell c v := fun c v ⟨o, e, d⟩ => ⟨o, k c o e, d⟩
  refine ⟨⟨I.ok.mod, S.kind, I.ok.glob, I.ok.blt, Nat.le_refl _, fun x y c h1 h2 => I.ok.inj x y c (up h1) (up h2), fun y hy => cl_has (kfree y hy), fun _ _ z => absurd z Bool.false_ne_true, I.ok.hd, I.ok.frames, .inl rfl, fun b hb => ⟨?_, fun x c e => (hf b hb).2.2.2.2.1 x c (up e)⟩, I.bs, Nat.le_trans I.ok.bsz I.sz, fun b o e hb => ?_, fun b hb hz => ?_, I.stack, I.stkFree⟩,
    rfl, I.bare, Un.kept k, ⟨m, hns, fun i x v e1 e2 e3 => ?_⟩, fun x c e => ?_, I.hok.fresh (Nat.le_refl _), fun x c e => I.freeC x c (up e), fun p hp => absurd (show p ∈ ([] : List (Addr × Obj)) from hp) (by simp), I.hok.kept k, ?_⟩
  · obtain ⟨o, e⟩ := ho b hb
    exact Nat.ne_of_lt (Heap.lt_size e)
  · rcases (hf b hb).2.2.2.1 with z | z
    · exact I.ok.noex b o e z
    · exact absurd (Nat.lt_of_lt_of_le (Heap.lt_size e) (Nat.le_trans I.ok.bsz z)) (Nat.lt_irrefl _)
  · rcases List.mem_cons.mp (I.stkSub b hz) with z | z
    · exact (hf b hb).2.1 z
    · exact (hf b hb).2.2.1 z
  · obtain ⟨j, rfl, hj, e4⟩ := cpSt_get e2
    obtain ⟨c1, c2⟩ := S.caps j hj
    have e1 : N[n + j]? = some x := e1
    have hfr := c2 x e1
    rw [e1, ← hN] at c1
    obtain ⟨c, hc⟩ := cl_has (env := X.env) hfr
    obtain ⟨m0, hn0, hl⟩ := I.loc
    have kx : X.env.scope.names.lookup x = some .cell ∨ X.env.scope.names.lookup x = some .free := by
      rw [he]; exact S.free (x, .free) (PySem.mem_of_lookup hfr) rfl
    obtain ⟨u, r, l⟩ := hl _ x v c1.symm e4 (kx.elim (fun z => .inr (.inl z)) fun z => .inr (.inr z))
    refine ⟨u, r, .inr ⟨?_, c, hc, ?_⟩⟩
    · rcases e3 with z | z | z
      · exfalso
        have z' : (relabel scope X.env).names.lookup x = some .local := z
        have hz : ∀ ns : List (Str × NameKind), ns.lookup x = some .free → (ns.map fun (n, k) => if (k == NameKind.free && X.env.scope.kind == .function && X.env.kindOf n == some .cell) then (n, NameKind.cell) else (n, k)).lookup x ≠ some .local := by
          intro ns
          induction ns with
          | nil => intro h; simp at h
          | cons p r ih =>
            obtain ⟨pn, pk⟩ := p
            intro h
            rw [List.map_cons]
            rw [List.lookup_cons] at h
            cases q : (x == pn) with
            | true =>
              rw [q] at h
              have h' : pk = .free := Option.some.inj h
              subst h'
              dsimp only
              split
              · rw [List.lookup_cons, q]; intro w; cases w
              · rw [List.lookup_cons, q]; intro w; cases w
            | false =>
              rw [q] at h
              dsimp only
              split
              · rw [List.lookup_cons, q]; exact ih h
              · rw [List.lookup_cons, q]; exact ih h
        exact hz _ hfr z'
      · exact .inl z
      · exact .inr z
    · rcases l with ⟨q, _⟩ | ⟨_, c', e5, z⟩
      · exfalso
        have q' : X.env.scope.names.lookup x = some .local := q
        rcases kx with w | w <;> rw [w] at q' <;> cases q'
      · rw [up hc] at e5
        cases e5
        exact cellK c _ z
  · obtain ⟨v, z⟩ := I.cell x c (up e)
    exact ⟨v, cellK c v z⟩
  · show (cpSt n cap σ).length = N.length
    rw [cpSt_len, S.len]
/-- behind the block -/
theorem inv_back {N : List Str} {C : Addr} {pj : List (Addr × Obj)} {σ' : St} {H' : Hp} {s' : Shared} (I : Inv X pins σ H s) (hf : ∀ b ∈ fp, FpOk X pins H b) (J : Inv (cxComp X scope N C fp s H) pj σ' H' s') : Inv X pins σ H' s' :=
  I.call' J.os J.base J.hok J.bare fun b hb => ⟨(hf b hb).2.2.2.1, (hf b hb).2.1, (hf b hb).2.2.2.2.1, (hf b hb).2.2.2.2.2⟩
end

section
variable {X : Cx}
/-- the tests behind if -/
noncomputable def PIfs (X : Cx) (ifs : List Expr) (t : TT) : Prop :=
  ∀ (pins : List (Addr × Obj)) (s : Shared) (σ : St) (H : Hp) (Q : Bool → Hp → Prop), Inv X pins σ H s → t σ H Q →
    wpAny (model X.prog X.w) X.A (forIn ifs true fun c r => if r = true then do let ok ← isTrue c X.env (eval c X.env); pure (ForInStep.yield ok) else pure (ForInStep.yield r)) (TP X pins σ Q) X.xe s
theorem pf_one {c : Expr} {t : TT} (h : PT X c t) : PIfs X [c] t := fun pins s σ H Q I hq => wpAny_tests_one (h pins s σ H Q I hq)
end

section
variable {prog : Program} {w : World} {A : Around} {R : Result → Shared → Prop} {s : Shared}
theorem codeAny_compLoop_gen {elt target iter : Expr} {ifs : List Expr} {scope : Scope} {pos : Pos} {it acc : Value} {env : Env} (I : Nat → Shared → Prop)
    (turn : ∀ n s, I n s → wpAny (model prog w) A (pyNext it) (fun r s₁ => match r with
      | none => R (.ok .next) s₁
      | some v => wpAny (model prog w) A (letOwnedTupleGo target it v) (fun _ s₁' => wpAny (model prog w) A (assign target env v) (fun _ s₂ =>
          wpAny (model prog w) A (forIn ifs true fun c r => if r = true then do let ok ← isTrue c env (eval c env); pure (ForInStep.yield ok) else pure (ForInStep.yield r)) (fun ok s₃ =>
            if ok = true then wpAny (model prog w) A (eval elt env) (fun x s₄ =>
              wpAny (model prog w) A (call (.builtin "list.append") [acc, x]) (fun _ s₅ => ∃ m, m < n ∧ I m s₅) (fun _ _ => False) s₄) (fun _ _ => False) s₃
            else ∃ m, m < n ∧ I m s₃) (fun _ _ => False) s₂) (fun _ _ => False) s₁') (fun _ _ => False) s₁) (fun _ _ => False) s)
    (n : Nat) (h : I n s) :
    codeAny (model prog w) A (.compLoop (.ListComp elt [⟨target, iter, ifs, 0⟩] scope pos) 0 it acc env) R s := by
  refine codeAny_loop rfl I (fun n s hI => ?_) n h
  show wpAny _ A ((compTurn (.ListComp elt [⟨target, iter, ifs, 0⟩] scope pos) 0 it acc env).onRaise (fun x => do noteFrame x env; theTreesLotGoes x)) _ _ s
  refine wpAny_noted ?_
  rw [compTurn_list]
  refine wpAny_bind (wpAny_standAt (wpAny_bind (wpAny_mono (turn n s hI) (fun r s₁ h₁ => ?_) fun _ _ h' => h'.elim)))
  cases r with
  | none => exact wpAny_pure h₁
  | some v =>
    refine wpAny_bind (wpAny_mono h₁ (fun _ s₁' h₁' => ?_) fun _ _ h' => h'.elim)
    refine wpAny_bind (wpAny_mono h₁' (fun _ s₂ h₂ => wpAny_bind (wpAny_mono h₂ (fun ok s₃ h₃ => ?_) fun _ _ h' => h'.elim)) fun _ _ h' => h'.elim)
    cases ok with
    | false => exact wpAny_pure ⟨rfl, h₃⟩
    | true =>
      exact wpAny_bind (wpAny_bind (wpAny_mono h₃ (fun x s₄ h₄ => wpAny_bind (wpAny_mono h₄ (fun _ s₅ h₅ => wpAny_pure (wpAny_pure ⟨rfl, h₅⟩)) fun _ _ h' => h'.elim)) fun _ _ h' => h'.elim))
end

/-- the names that stood are as they stood -/
noncomputable def Fgt (σ σ2 : St) : Prop := σ.length = σ2.length ∧ ∀ (i : Nat) v, σ[i]? = some (some v) → σ2[i]? = some (some v)
theorem Fgt.refl (σ : St) : Fgt σ σ := ⟨rfl, fun _ _ h => h⟩
theorem Fgt.set {σ σ2 : St} {i : Nat} {x : V} (h : Fgt σ σ2) (hn : σ[i]? = some none) : Fgt σ (σ2.set i (some x)) := by
  refine ⟨by rw [List.length_set]; exact h.1, fun j v e => ?_⟩
  by_cases hj : i = j
  · subst hj; rw [hn] at e; cases e
  · rw [List.getElem?_set_ne hj]; exact h.2 j v e

/-- what is walked by the block: W the invariant by the turn, a measure, the list so far -/
noncomputable def cpW (J : It) (σ' : St) (g : TG) (tt : TT) (te : TE) (D : Addr) (H1 : Hp) (Q : VK) : Prop :=
  ∃ W : Nat → Nat → List V → Hp → Prop, (∃ m, W 0 m [] (upd H1 D (.lst []))) ∧ ∀ i m ys H, W i m ys H →
   ((J.stop i H ∧ Q (.ref D) H) ∨ (J.go i H ∧ ∀ x H', J.yld i H x H' → g x σ' H' fun σ2 H2 => Fgt σ' σ2 ∧ tt σ2 H2 fun b H3 =>
       if b = true then te σ2 H3 fun y H4 => H4 D = some (.lst ys) ∧ ys.length < sizeLine ∧ ∃ m', m' < m ∧ W (i + 1) m' (ys ++ [y]) (upd H4 D (.lst (ys ++ [y]))) else ∃ m', m' < m ∧ W (i + 1) m' ys H3))
noncomputable def tComp (n : Nat) (cap : List Nat) (wi : TI) (g : TG) (tt : TT) (te : TE) : TE := fun σ H Q => wi σ H fun J H1 => ∀ D, H1 D = none → cpW J (cpSt n cap σ) g tt te D H1 Q

section
variable {X : Cx} {scope esc : Scope} {EN N : List Str} {n : Nat} {cap : List Nat} {pins : List (Addr × Obj)} {σ : St} {s : Shared} {elt tg iter : Expr} {ifs : List Expr} {pos : Pos} {g : TG} {tt : TT} {te : TE}
theorem comp_run {E : Value → Shared → Prop} {H : Hp} {J : It} {fp : List Addr} {it : Addr} {tn : Nat → Heap → Prop} {Q : VK} {RR : Value → Addr → Result → Shared → Prop} (S : CpScope esc scope EN N n cap) (he : X.env.scope = esc) (hN : X.N = EN) (hc : X.calm = true)
    (hg : ∀ C fp s H, PG (cxComp X scope N C fp s H) tg g) (ht : ∀ C fp s H, PIfs (cxComp X scope N C fp s H) ifs tt) (hel : ∀ C fp s H, PE (cxComp X scope N C fp s H) elt te)
    (I : Inv X pins σ H s) (T : Turn X.prog X.w X.K tg J fp it tn) (st : tn 0 s.heap) (hf : ∀ b ∈ fp, FpOk X pins H b) (hq : ∀ D, H D = none → cpW J (cpSt n cap σ) g tt te D H Q)
    (hRR : ∀ D C H' s' m, Inv X pins σ H' s' → FpOk X pins H' C → s'.heap.Ns C m → Q (.ref D) H' → RR (.ref D) C (.ok .next) s') :
    wpAny (model X.prog X.w) X.A (newList []) (fun acc s₃ => wpAny (model X.prog X.w) X.A (newFunctionEnv scope X.env.globals (clOf scope X.env) [] X.env.qual none .none (some X.env)) (fun cenv s₄ =>
      codeAny (model X.prog X.w) X.A (.compStart (.ListComp elt [⟨tg, iter, ifs, 0⟩] scope pos) 0 (.ref it) acc { cenv with scope := relabel scope X.env }) (RR acc cenv.locals) s₄) E s₃) E s := by
  refine wpAny_newObj_type (wpAny_newFunctionEnv S.cell (by intro y hy; simp at hy) (fun h₁ hns₁ hsb₁ => ?_) S.kind)
  have I3 := I.lnew (t' := s.toks) (ys := []) (its := []) .nil (Nat.zero_le _)
  have hD : H s.heap.objs.size = none := I.fresh
  obtain ⟨W, ⟨m0, w0⟩, turn⟩ := hq _ hD
  generalize hs3 : ({ s with heap := s.heap.push { cls := .type "list", data := .seq ([] : List Value).toArray }, toks := s.toks } : Shared) = s3 at I3
  have k3 : ∀ b o, s.heap.get? b = some o → s3.heap.get? b = some o := fun b o e => by rw [← hs3]; exact Heap.get?_push_of_some _ e
  have hs3' : ({ s with heap := s.heap.push { cls := .type "list", data := .seq ([] : List Value).toArray } } : Shared) = s3 := hs3
  have hh : s.heap.push { cls := .type "list", data := .seq ([] : List Value).toArray } = s3.heap := by rw [← hs3]
  dsimp only at hns₁ hsb₁ ⊢
  try rw [hh] at hns₁
  try rw [hh] at hsb₁
  have hf3 : ∀ b ∈ fp, FpOk X pins (upd H s.heap.objs.size (.lst [])) b := fun b hb => by
    refine ⟨?_, (hf b hb).2⟩
    obtain ⟨o, e, _⟩ := T.obj _ _ st b hb
    rw [upd_ne (Nat.ne_of_lt (Heap.lt_size e))]
    exact (hf b hb).1
  have k4 : ∀ b o, s3.heap.get? b = some o → h₁.get? b = some o := fun b o e => hsb₁.extBut b o (Nat.ne_of_lt (Heap.lt_size e)) (Heap.get?_push_of_some _ e)
  have ob : ∀ b ∈ fp, ∃ o, s3.heap.get? b = some o := fun b hb => by
    obtain ⟨o, e, _⟩ := T.obj _ _ st b hb
    exact ⟨o, k3 b o e⟩
  have I4 := inv_comp (tk := s3.toks) S he hN I3 hf3 ob hns₁ k4
  have st4 : tn 0 h₁ := T.keep _ _ _ st fun b _ o e => k4 b o (k3 b o e)
  have hC3 : s3.heap.objs.size ≤ s3.heap.objs.size := Nat.le_refl _
  have loop : ∀ s₃ : Shared, s₃.heap = h₁ → Inv (cxComp X scope N s3.heap.objs.size fp s3 (upd H s.heap.objs.size (.lst []))) [] (cpSt n cap σ) (upd H s.heap.objs.size (.lst [])) s₃ →
      codeAny (model X.prog X.w) X.A (.compLoop (.ListComp elt [⟨tg, iter, ifs, 0⟩] scope pos) 0 (.ref it) (.ref s.heap.objs.size) (compEnvC scope (clOf scope X.env) s3.heap.objs.size X.env)) (RR (.ref s.heap.objs.size) s3.heap.objs.size) s₃ := by
    intro s₃ e₃ I₃
    -- the iterator's records within the block
    have stat : ∀ {H' : Hp}, (∀ b ∈ fp, H' b = none) → ∀ b ∈ fp, FpOk (cxComp X scope N s3.heap.objs.size fp s3 (upd H s.heap.objs.size (.lst []))) [] H' b := fun {H'} hn b hb =>
      ⟨hn b hb, (I₃.ok.exf b hb).1, I₃.ok.exfs b hb, .inl hb, (I₃.ok.exf b hb).2, fun p hp => absurd (show p ∈ ([] : List (Addr × Obj)) from hp) (by simp)⟩
    refine codeAny_compLoop_gen (fun k s' => ∃ i ys H', Inv (cxComp X scope N s3.heap.objs.size fp s3 (upd H s.heap.objs.size (.lst []))) [] (cpSt n cap σ) H' s' ∧ tn i s'.heap ∧ (∀ b ∈ fp, H' b = none) ∧ W i k ys H') ?_ m0
      ⟨0, [], _, I₃, by rw [e₃]; exact st4, fun b hb => (hf3 b hb).1, w0⟩
    rintro k s5 ⟨i, ys, H5, I5, st5, fr5, w5⟩
    rcases turn i k ys H5 w5 with ⟨stop, q⟩ | ⟨go, step⟩
    · refine thn (T.done (cxComp X scope N s3.heap.objs.size fp s3 (upd H s.heap.objs.size (.lst []))) rfl rfl rfl hc i [] s5 _ H5 _ I5 (stat fr5) st5 stop) fun r s6 ⟨hr, I6⟩ => ?_
      subst hr
      obtain ⟨m, hn, _⟩ := I6.loc
      exact hRR _ _ H5 s6 m (inv_back I3 hf3 I6) (I3.fpOk hC3 I6.free) hn q
    · refine thn (T.item (cxComp X scope N s3.heap.objs.size fp s3 (upd H s.heap.objs.size (.lst []))) rfl rfl rfl hc i [] s5 _ H5 (fun _ _ => False) I5 (stat fr5) st5 go) fun r s6 ⟨u, hr, h6⟩ => ?_
      subst hr
      refine thn h6 fun _ s7 ⟨x, H7, I7, r7, y7, st7, fr7⟩ => ?_
      have I7' := I7.pinned (stat fr7) (T.obj _ _ st7)
      refine thn (hg _ _ _ _ _ s7 _ H7 x u _ I7' r7 (step x H7 y7)) fun _ s8 ⟨σ8, H8, I8, fg, q8⟩ => ?_
      refine thn (ht _ _ _ _ _ s8 σ8 H8 _ I8 q8) fun b s9 ⟨H9, I9, q9⟩ => ?_
      have back : ∀ {H' : Hp} {s' : Shared}, Inv (cxComp X scope N s3.heap.objs.size fp s3 (upd H s.heap.objs.size (.lst []))) ([] ++ pinsAt fp s7.heap) σ8 H' s' →
          Inv (cxComp X scope N s3.heap.objs.size fp s3 (upd H s.heap.objs.size (.lst []))) [] (cpSt n cap σ) H' s' ∧ tn (i + 1) s'.heap ∧ ∀ b ∈ fp, H' b = none := fun {H' s'} I' => by
        refine ⟨I'.unpinned.weak fg.1 fg.2, T.keep _ _ _ st7 fun b hb o e => (I'.pin (b, o) (List.mem_append_right _ (List.mem_append_right _ (mem_pinsAt hb e)))).1, fun b hb => ?_⟩
        obtain ⟨o, e, d⟩ := T.obj _ _ st7 b hb
        exact (I'.pin (b, o) (List.mem_append_right _ (List.mem_append_right _ (mem_pinsAt hb e)))).2.1
      cases b with
      | false =>
        obtain ⟨m', hm, w'⟩ := q9
        obtain ⟨b1, b2, b3⟩ := back I9
        exact ⟨m', hm, i + 1, ys, H9, b1, b2, b3, w'⟩
      | true =>
        refine thn (hel _ _ _ _ _ s9 σ8 H9 _ I9 q9) fun v s10 ⟨y, H10, I10, r10, hD10, hz, m', hm, w'⟩ => ?_
        refine thn (mt_append _ s10 σ8 H10 (.ref s.heap.objs.size) [y] (.ref s.heap.objs.size) [v] (fun z H' => z = .non ∧ H' = upd H10 s.heap.objs.size (.lst (ys ++ [y]))) I10 rfl (.cons r10 .nil) ⟨_, ys, y, rfl, rfl, hD10, hz, rfl, rfl⟩) fun z s11 ⟨y', H11, I11, _, _, e11⟩ => ?_
        subst e11
        obtain ⟨b1, b2, b3⟩ := back I11
        exact ⟨m', hm, i + 1, ys ++ [y], _, b1, b2, b3, w'⟩
  have I4' : Inv (cxComp X scope N s3.heap.objs.size fp s3 (upd H s.heap.objs.size (.lst []))) [] (cpSt n cap σ) (upd H s.heap.objs.size (.lst [])) { heap := h₁, gens := s3.gens, drawn := s3.drawn, toks := s3.toks + ([] : List (Str × Value)).length, os := s3.os } := I4
  exact codeAny_compStart_list (loop _ rfl I4') (T.self _ 0 _ _ _ st4 (loop _ rfl I4'))
/-- name = [elt for target in iter if ..], stored ahead of the block's end -/
theorem ps_comp {i : Nat} {y : Str} {py spos : Pos} (S : CpScope esc scope EN N n cap) {wi : TI} (hNd : X.N.Nodup) (hi' : X.N[i]? = some y) (hy : X.env.scope.names.lookup y = some .local) (hi : PI X tg iter wi) (hg : ∀ C fp s H, PG (cxComp X scope N C fp s H) tg g) (ht : ∀ C fp s H, PIfs (cxComp X scope N C fp s H) ifs tt) (hel : ∀ C fp s H, PE (cxComp X scope N C fp s H) elt te)
    (he : X.env.scope = esc := by rfl) (hN : X.N = EN := by rfl) (hc : X.calm = true := by rfl) (hs : ∀ x, foldedSetIterable iter X.env x = pure x := by intro _; rfl)
    (hsw : swapsWith (.ListComp elt [⟨tg, iter, ifs, 0⟩] scope pos) (some (.Name y py)) spos.line X.env = pure true := by rfl) :
    PS X (.Assign [.Name y py] (.ListComp elt [⟨tg, iter, ifs, 0⟩] scope pos) spos) (tAsg (tComp n cap wi g tt te) (gName i)) := by
  intro pins s σ H D I h
  have hclos : closureFor scope X.env = pure (clOf scope X.env) := closureFor_cl fun y hy hk => I.ok.has y.1 (by
    show X.env.scope.names.lookup y.1 = _ ∨ X.env.scope.names.lookup y.1 = _
    rw [he]; exact S.free y hy hk)
  rw [exec_Assign_Name_used _ _ _ _ hsw]
  refine wpAny_bind (wpAny_standAt (wpAny_bind ?_))
  show wpAny _ X.A (do let _ ← comprehension (.ListComp elt [⟨tg, iter, ifs, 0⟩] scope pos) scope X.env _ (newList []) false (eval iter X.env) (some (assign (.Name y py) X.env))) _ _ s
  refine wpAny_bind (wpAny_mono (wpAny_comprehension_free (use := some (assign (.Name y py) X.env)) (Q := fun _ s' => SP X pins D .next s') rfl hs hclos S.kind S.loc
    (thn (hi pins s σ H _ I h) fun v s1 h1 => thn h1 fun itv s2 h2 => ?_)) (fun _ s' hq => wpAny_pure (wpAny_pure hq)) fun _ _ e => e)
  obtain ⟨it, fp, tn, J, H2, e, I2, T, st2, f2, hq⟩ := h2
  subst e
  refine comp_run S he hN hc hg ht hel I2 T st2 f2 hq fun D' C H' s' m I' fC hn q => ?_
  show wpAny _ X.A (assign (.Name y py) X.env (.ref D')) _ _ _
  refine wpAny_assign_Name (store_ok2 (v := .ref D') I' hNd hi' (.inl hy) rfl (fun s'' I'' ch => ?_) (.inr hy))
  obtain ⟨a, hsb, ha⟩ := ch
  have hCa : C ≠ a := by
    rcases ha with z | z
    · rw [z]; exact fC.2.1
    · exact fun w => fC.2.2.2.2.1 y a z w.symm
  refine ⟨m, hn.sameBut hsb hCa, fun h' hs' => ?_⟩
  exact ⟨_, H', I''.turned (t' := s''.toks) (fun b o hb e => hs'.extBut b o hb e) fC.1 fC.2.1 fC.2.2.2.1 fC.2.2.2.2.1 fC.2.2.2.2.2, q⟩
end
end L2

namespace L2
open PySem PySem.Spec PyProof.Rows
/-! ### defs by name: a contract is a fact Has -/
structure Has (P : Program) (w : World) (K : PySem.W.Frag) (mg : Str → Option Value) (base : Heap) (x : Str) (ps : List Str) (k : Nat) (sp : Sp) : Prop where
  ex : ∃ f fd, FnOk P w K mg base CX0 k f fd ps sp ∧ Binds K fd ps [] ∧ PySem.W.keepIn K (.ref f) = true ∧ mg x = some (.ref f)
structure Df (K : PySem.W.Frag) (mg : Str → Option Value) (x : Str) (st : Stmt) (ps : List Str) : Prop where
  ex : ∃ f fd, Fun K x x st f fd ∧ Binds K fd ps [] ∧ mg x = some (.ref f)
section
variable {P : Program} {w : World} {K : PySem.W.Frag} {mg : Str → Option Value} {base : Heap} {x : Str} {st : Stmt} {ps N : List Str} {k : Nat} {sp : Sp}
end
section
variable {X : Cx} {x : Str} {ps : List Str} {k : Nat} {sp : Sp} {p pos : Pos} {e : Expr} {es : List Expr} {t : TA}
noncomputable def tFn (sp : Sp) (t : TA) : TE := fun σ H Q => t σ H fun vs H1 => sp vs H1 Q E0
theorem pe_fn (h : Has X.prog X.w X.K X.mg X.base x ps k sp) (hr : Room k X.A) (hg : Gl X x) (ha : PA X (e :: es) t) (hdb : (x == ("__debug__" : Str)) = false := by decide)
    (he : starEach (e :: es) X.env = (false, eval e X.env) :: starEach es X.env := by rfl) (hpl : (backTo pos (starEach es X.env)).any (·.1) = false := by rfl) : PE X (.Call (.Name x p) (e :: es) [] pos) (tFn sp t) := by
  obtain ⟨f, fd, F, b, kp, m⟩ := h.ex
  intro pins s σ H Q I hq
  refine pe_call (dvs := []) (ds := []) F hr hg m kp b .nil pass0 ha hdb he hpl pins s σ H Q I ?_
  have hq' : t σ H fun vs H1 => sp vs H1 Q E0 := hq
  show t σ H fun vs H1 => sp (vs ++ []) H1 Q E0
  simpa only [List.append_nil] using hq'
end
/-- the built-in names that the text leaves as they are -/
structure Bl (mg : Str → Option Value) : Prop where
  len : mg "len" = none
  range : mg "range" = none
  isinstance : mg "isinstance" = none
  max : mg "max" = none
  any : mg "any" = none
  all : mg "all" = none
  int' : mg "int" = none
  bool' : mg "bool" = none
  list' : mg "list" = none
  tuple' : mg "tuple" = none
  str' : mg "str" = none
structure Kit (K : PySem.W.Frag) : Prop where
  ans : ∀ t ∈ ["NoneType", "bool", "int", "str", "list", "tuple"], ∀ c ∈ ["int", "bool", "tuple", "list", "str"], PySem.W.kitOne K (.type t) (.type c) = some (t == c || (t == "bool" && c == "int"))
/-- the kind of a value -/
inductive TyW (K : PySem.W.Frag) (H : Hp) : V → String → Prop where
  | non : TyW K H .non "NoneType"
  | bl (x : Bool) : TyW K H (.bl x) "bool"
  | int (i : Int) : TyW K H (.int i) "int"
  | str (x : Str) : TyW K H (.str x) "str"
  | lst {a : Addr} {xs : List V} (e : SqL K H a xs) : TyW K H (.ref a) "list"
  | tup {a : Addr} {xs : List V} (e : SqT K H a xs) : TyW K H (.ref a) "tuple"
noncomputable abbrev tyNs : List String := ["NoneType", "bool", "int", "str", "list", "tuple"]
theorem TyW.mem {K : PySem.W.Frag} {H : Hp} {x : V} {t : String} (h : TyW K H x t) : t ∈ tyNs := by
  cases h <;> decide
section
variable {X : Cx}
noncomputable def isiB (t n : String) : Bool := t == n || (t == "bool" && n == "int")
noncomputable def rIsi (K : PySem.W.Frag) : List V → Hp → VK → Prop := fun xs H Q => ∃ x n t, xs = [x, .ty n] ∧ TyW K H x t ∧ n ∈ ["int", "bool", "tuple", "list", "str"] ∧ Q (.bl (isiB t n)) H
theorem call_isi (kt : Kit X.K) : CallR X (.builtin "isinstance") (rIsi X.K) := by
  intro pins s σ H xs us Q I rv h
  obtain ⟨x, n, t, rfl, ty, hn, q⟩ := h
  obtain ⟨u, w', rfl, r1, r2⟩ := vals2 rv
  cases (show w' = Value.type n from r2)
  have e := kt.ans t ty.mem n hn
  have fin : ∀ tk, EP X pins σ Q (.bool (isiB t n)) { s with toks := tk } := fun tk => ⟨.bl _, H, I.tok tk, rfl, q⟩
  cases ty with
  | non => cases (show u = Value.none from r1); exact PySem.W.kia_one PySem.W.kitx_none I.kIn True.intro e (fun z => nomatch z) fin
  | bl y => cases (show u = Value.bool y from r1); exact PySem.W.kia_one PySem.W.kitx_bool I.kIn True.intro e (fun z => nomatch z) fin
  | int i => obtain ⟨t, q⟩ := (show ∃ t, u = Value.int i t from r1); cases q; exact PySem.W.kia_one PySem.W.kitx_int I.kIn True.intro e (fun z => nomatch z) fin
  | str y => obtain ⟨t, q⟩ := (show ∃ t, u = Value.str y t from r1); cases q; exact PySem.W.kia_one PySem.W.kitx_str I.kIn True.intro e (fun z => nomatch z) fin
  | @lst a xs ea =>
    cases (show u = Value.ref a from r1)
    obtain ⟨its, _, ⟨o, n', h1, h2, _⟩, _⟩ := I.list ea
    exact PySem.W.kia_one PySem.W.kitx_list I.kIn ⟨o, h1, h2⟩ e (fun z => nomatch z) fin
  | @tup a xs ea =>
    cases (show u = Value.ref a from r1)
    obtain ⟨its, _, ⟨o, h1, h2, _⟩, _⟩ := I.tuple ea
    exact PySem.W.kia_one PySem.W.kitx_tuple I.kIn ⟨o, h1, h2⟩ e (fun z => nomatch z) fin
end
/-! ### data: what a value stands for, through its tuples and lists -/
mutual
noncomputable def Rep (K : PySem.W.Frag) (H : Hp) : PyData → V → Prop
  | .none, v => v = .non
  | .bool b, v => v = .bl b
  | .int i, v => v = .int i
  | .str x, v => v = .str x
  | .list ds, v => ∃ a xs, v = .ref a ∧ SqL K H a xs ∧ RepAll K H ds xs
  | .tuple ds, v => ∃ a xs, v = .ref a ∧ SqT K H a xs ∧ RepAll K H ds xs
  | .dict _, _ => False
noncomputable def RepAll (K : PySem.W.Frag) (H : Hp) : List PyData → List V → Prop
  | [], xs => xs = []
  | d :: ds, xs => ∃ x r, xs = x :: r ∧ Rep K H d x ∧ RepAll K H ds r
end
theorem Same.seqT [TabP] {K : PySem.W.Frag} {H H' : Hp} {a : Addr} {xs : List V} (e : Same H H') (h : SqT K H a xs) : SqT K H' a xs := by
  rcases h with (h | ⟨o, h⟩) | h
  · exact .inl (.inl (e.at' _ _ h))
  · exact .inl (.inr ⟨o, e.at' _ _ h⟩)
  · exact .inr h
section
variable {X : Cx} {pins : List (Addr × Obj)} {σ : St} {H : Hp} {s : Shared}
mutual
theorem Rep.reads (I : Inv X pins σ H s) : ∀ {d : PyData} {v : V} {u : Value}, Rep X.K H d v → RelV v u → ∃ as, Reads s.heap u d as
  | .none, _, _, h, r => by cases h; cases r; exact ⟨_, .none⟩
  | .bool _, _, _, h, r => by cases h; cases r; exact ⟨_, .bool _⟩
  | .int _, _, _, h, r => by cases h; obtain ⟨t, rfl⟩ := r; exact ⟨_, .int _ _⟩
  | .str _, _, _, h, r => by cases h; obtain ⟨t, rfl⟩ := r; exact ⟨_, .str _ _⟩
  | .list _, _, _, h, r => by
    obtain ⟨a, xs, rfl, l, q⟩ := h
    cases r
    obtain ⟨its, rv, ⟨o, n, e, c, _, d⟩, _⟩ := I.list l
    obtain ⟨as, z⟩ := RepAll.reads I q rv
    exact ⟨_, .list e c d (by simpa using z)⟩
  | .tuple _, _, _, h, r => by
    obtain ⟨a, xs, rfl, l, q⟩ := h
    cases r
    obtain ⟨its, rv, ⟨o, e, c, n, d⟩, _⟩ := I.tuple l
    obtain ⟨as, z⟩ := RepAll.reads I q rv
    exact ⟨_, .tuple e c d (by simpa using z)⟩
  | .dict _, _, _, h, _ => h.elim
theorem RepAll.reads (I : Inv X pins σ H s) : ∀ {ds : List PyData} {xs : List V} {us : List Value}, RepAll X.K H ds xs → Vals xs us → ∃ as, ReadsAll s.heap us ds as
  | [], _, _, h, r => by cases h; cases r; exact ⟨_, .nil⟩
  | _ :: _, _, _, h, r => by
    obtain ⟨x, t, rfl, a, b⟩ := h
    cases r with
    | cons r1 r2 =>
      obtain ⟨as, z1⟩ := Rep.reads I a r1
      obtain ⟨bs, z2⟩ := RepAll.reads I b r2
      exact ⟨_, .cons z1 z2⟩
end
end
section
variable {X : Cx}
noncomputable def rEqD (K : PySem.W.Frag) (neg : Bool) : R2 := fun x y H Q => ∃ d e, Rep K H d x ∧ Rep K H e y ∧ SeqAt.shaped d = true ∧ SeqAt.shaped e = true ∧ Q (.bl (if neg then !PyData.eqv d e else PyData.eqv d e)) H
theorem op_eqD (hu : X.A.units + 64 < cLine) : OpR X (compareOp .Eq) (rEqD X.K false) := by
  intro pins s σ H x y v u Q I rx ry h
  obtain ⟨d, e, a, b, sa, sb, q⟩ := h
  obtain ⟨as, ra⟩ := a.reads I rx
  obtain ⟨bs, rb⟩ := b.reads I ry
  exact eq_dataH ra rb sa sb hu ⟨.bl _, H, I, rfl, q⟩
theorem op_neD (hu : X.A.units + 64 < cLine) : OpR X (compareOp .NotEq) (rEqD X.K true) := by
  intro pins s σ H x y v u Q I rx ry h
  obtain ⟨d, e, a, b, sa, sb, q⟩ := h
  obtain ⟨as, ra⟩ := a.reads I rx
  obtain ⟨bs, rb⟩ := b.reads I ry
  exact ne_dataH ra rb sa sb hu ⟨.bl _, H, I, rfl, q⟩
end
theorem repAll_ints {K : PySem.W.Frag} {H : Hp} : ∀ ns : List Int, RepAll K H (ns.map PyData.int) (ns.map V.int)
  | [] => rfl
  | n :: r => ⟨.int n, r.map V.int, rfl, rfl, repAll_ints r⟩
end L2

namespace L2
open PySem PySem.Spec PyProof.Rows
theorem bt_len : bootBuiltins "len" = some (.builtin "len") := by decide +kernel
theorem bt_isinstance : bootBuiltins "isinstance" = some (.builtin "isinstance") := by decide +kernel
theorem bt_max : bootBuiltins "max" = some (.builtin "max") := by decide +kernel
theorem bt_int : bootBuiltins "int" = some (.type "int") := by decide +kernel
theorem bt_bool : bootBuiltins "bool" = some (.type "bool") := by decide +kernel
theorem bt_tuple : bootBuiltins "tuple" = some (.type "tuple") := by decide +kernel
variable [TabP]
/-! ### a comprehension whose element and test only make new things -/
noncomputable def ItOk (J : It) (H1 : Hp) (xs : List V) : Prop := ∀ H, Same H1 H → ∀ i, (i < xs.length → J.go i H ∧ ∀ x H', J.yld i H x H' → H' = H ∧ xs[i]? = some x) ∧ (xs.length ≤ i → J.stop i H)
theorem itl_ok {K : PySem.W.Frag} {H : Hp} {a : Addr} {xs : List V} (h : SqL K H a xs) : ItOk (Itl K a) H xs := fun H' s i =>
  ⟨fun hi => ⟨⟨xs, xs[i], s.seq h, by simp [hi]⟩, fun x H'' y => ⟨y.1, y.2 xs (s.seq h)⟩⟩, fun hi => ⟨xs, s.seq h, hi⟩⟩
theorem itt_ok {K : PySem.W.Frag} {H : Hp} {a : Addr} {xs : List V} (h : SqT K H a xs) : ItOk (Itt K a) H xs := fun H' s i =>
  ⟨fun hi => ⟨⟨xs, xs[i], s.seqT h, by simp [hi]⟩, fun x H'' y => ⟨y.1, y.2 xs (s.seqT h)⟩⟩, fun hi => ⟨xs, s.seqT h, hi⟩⟩
noncomputable def rngV (lo : Int) (n : Nat) : List V := (List.range n).map fun i => V.int (lo + (i : Nat))
theorem itr_ok {H : Hp} (lo : Int) (n : Nat) : ItOk (Itr lo n) H (rngV lo n) := fun H' s i => by
  have hl : (rngV lo n).length = n := by unfold rngV; rw [List.length_map, List.length_range]
  refine ⟨fun hi => ⟨by rw [hl] at hi; exact hi, fun x H'' y => ⟨y.1, ?_⟩⟩, fun hi => by rw [hl] at hi; exact hi⟩
  rw [hl] at hi
  rw [y.2]
  unfold rngV
  rw [List.getElem?_map, List.getElem?_range hi]
  rfl
end L2

namespace L2
open PySem PySem.Spec PyProof.Rows
end L2

namespace L2
open PySem PySem.Spec PyProof.Rows
theorem kit_all (K : PySem.W.Frag) : Kit K := ⟨by
  intro t ht c hc
  simp only [List.mem_cons, List.mem_nil_iff, or_false] at ht hc
  rcases ht with rfl | rfl | rfl | rfl | rfl | rfl <;> rcases hc with rfl | rfl | rfl | rfl | rfl <;> kernel_rfl⟩
end L2

namespace L2
open PySem PySem.Spec PyProof.Rows
/-! ### any and all of a list of bools -/
section
variable {X : Cx} {K : PySem.W.Frag}
end
end L2

namespace L2
open PySem PySem.Spec PyProof.Rows
section
variable {X : Cx}
variable [TabP]
/-- t + u of tuples, whichever is empty: some tuple of all the items -/
noncomputable def rCatD (K : PySem.W.Frag) : R2 := fun x y H Q => ∃ a b xs ys, x = .ref a ∧ y = .ref b ∧ SqT K H a xs ∧ SqT K H b ys ∧ xs.length + ys.length ≤ sizeLine ∧ ∀ t H', Same H H' → SqT K H' t (xs ++ ys) → Q (.ref t) H'
theorem op_catD : OpR X (binaryOp .Add) (rCatD X.K) := by
  intro pins s σ H x y v u Q I rx ry h
  obtain ⟨a, b, xs, ys, rfl, rfl, ha, hb, hz, q⟩ := h
  by_cases hx : xs = []
  · subst hx
    cases rx
    cases ry
    obtain ⟨its, r1, p1, _⟩ := I.tuple ha
    obtain ⟨its2, r2, p2, _⟩ := I.tuple hb
    cases r1
    obtain ⟨⟨cls, dd, data, sl⟩, ho, hc, n, hd⟩ := id p1
    obtain ⟨⟨cls2, dd2, data2, sl2⟩, ho2, hc2, n2, hd2⟩ := id p2
    simp only at hc hd hc2 hd2
    subst hc hd hc2 hd2
    exact concat_meets ⟨_, ho, rfl⟩ ⟨_, ho2, rfl⟩ noFill_tuple_add seq_tuple_add PySem.F.slot_tuple_add PySem.F.entry_tuple_add (PySem.F.args_tuple_add_2 _ _)
      (tuple_addW0 a b _ its2.toArray n n2 dd dd2 sl sl2 rfl) ⟨ho, ho2, ⟨.ref b, H, I, rfl, q b H (Same.refl _) hb⟩⟩
  · refine op_catT pins s σ H (.ref a) (.ref b) v u Q I rx ry ⟨a, b, xs, ys, rfl, rfl, ha, hb, hx, hz, fun hy => ?_, fun _ p hp => q p _ (same_new hp _) (SqT.of upd_same)⟩
    refine q a H (Same.refl _) ?_
    rw [hy, List.append_nil]
    exact ha
end
end L2


set_option Elab.async false
set_option linter.all false
set_option maxRecDepth 100000
set_option maxHeartbeats 1000000
namespace L3
open PySem PySem.Spec L2
variable [L2.TabP]

/-! ### plain data, slots, the machine -/
inductive D where
  | non | bl (b : Bool) | int (i : Int) | str (x : Str) | tup (xs : List D) | lst (xs : List D) | dic (ks : List Key) (vs : List D) | fn (f : Str) | ty (n : String)
/-- a place: an epoch and a stamp -/
noncomputable abbrev Pl := Int × Int × Int
/-- a tree of things that change: lists, dicts, instances -/
inductive Tr where
  | lf (d : D) | ls (ts : List Tr) | dc (ks : List Key) (ts : List Tr) | ob (c : Str) (ns : List Str) (ts : List Tr)
/-- whose a tree is: made here; a parameter that is changed; looked at only -/
inductive TM where
  | own | par | view
  deriving DecidableEq
inductive Slot where
  | emp | val (d : D) | ow (p : Bool) (xs : List D) | vw (xs : List D) | dct (kvs : List (Key × D)) | vd (kvs : List (Key × D)) | pd (kvs : List (Pl × D)) | vp (kvs : List (Pl × D)) | tr (m : TM) (t : Tr)
noncomputable abbrev En := List Slot
structure Ob where
  cls : Str
  fs : List (Str × Slot)
noncomputable abbrev Store := List Ob
inductive Out (α : Type) where
  | ok (a : α) (S : Store) | exc (c : Str) (S : Store) | bad
structure M (α : Type) : Type where
  run : Store → Out α
noncomputable def M.bnd {α β : Type} (m : M α) (f : α → M β) : M β := ⟨fun S => match m.run S with
  | .ok a S' => (f a).run S'
  | .exc c S' => .exc c S'
  | .bad => .bad⟩
noncomputable instance : Monad M where
  pure a := ⟨fun S => .ok a S⟩
  bind := M.bnd
omit [L2.TabP] in
theorem M.ext {α : Type} {x y : M α} (h : ∀ S, x.run S = y.run S) : x = y := by
  cases x; cases y; congr; funext S; exact h S
omit [L2.TabP] in
theorem M.bind_def {α β : Type} (m : M α) (f : α → M β) : (m >>= f) = M.bnd m f := rfl
noncomputable instance : LawfulMonad M := LawfulMonad.mk'
  (id_map := fun x => M.ext fun S => by show (M.bnd x (fun a => pure (id a))).run S = x.run S; unfold M.bnd; dsimp only; cases x.run S <;> rfl)
  (pure_bind := fun x f => rfl)
  (bind_assoc := fun x f g => M.ext fun S => by show (M.bnd (M.bnd x f) g).run S = (M.bnd x (fun a => M.bnd (f a) g)).run S; unfold M.bnd; dsimp only; cases x.run S <;> rfl)
  (bind_pure_comp := fun f x => rfl)
noncomputable def bad {α : Type} : M α := ⟨fun _ => .bad⟩
omit [L2.TabP] in
theorem M.inv {α β : Type} {m : M α} {f : α → M β} {S S' : Store} {b : β} (h : (m >>= f).run S = .ok b S') : ∃ a S1, m.run S = .ok a S1 ∧ (f a).run S1 = .ok b S' := by
  rw [M.bind_def] at h
  unfold M.bnd at h
  dsimp only at h
  cases e : m.run S with
  | ok a S1 => rw [e] at h; exact ⟨a, S1, rfl, h⟩
  | exc c S1 => rw [e] at h; cases h
  | bad => rw [e] at h; cases h
/-- under a condition -/
noncomputable def chk (p : Prop) [Decidable p] : M Unit := if p then pure () else bad
omit [L2.TabP] in
theorem chk_inv {p : Prop} [Decidable p] {S S' : Store} {u : Unit} (h : (chk p).run S = .ok u S') : p ∧ S = S' := by
  unfold chk at h
  by_cases hp : p
  · rw [if_pos hp] at h; cases h; exact ⟨hp, rfl⟩
  · rw [if_neg hp] at h; cases h

/-- what an expression gives: a datum, a new list, a list that stands somewhere -/
inductive R where
  | v (d : D) | fr (xs : List D) | vw (xs : List D) | mv (xs : List D) | dv (kvs : List (Key × D))
noncomputable abbrev ME := En → M R

/-! ### what stands for what -/
inductive Own where
  | free | out | tmp | loc (i : Nat) | tr (i : Nat) (p : List Nat)
  deriving DecidableEq
/-- who owns what stands at the path in a tree -/
noncomputable def Own.at : Own → List Nat → Own
  | .loc i, p => .tr i p
  | w, _ => w
/-- the owner of a tree's things -/
noncomputable def TM.ow : TM → Own → Own
  | .view, _ => .out
  | _, w => w
noncomputable abbrev Ow := Addr → Own
noncomputable def KLst (K : PySem.W.Frag) (a : Addr) (xs : List V) : Prop :=
  ∃ (o : Obj) (its : Array Value) (n : Nat), K.lookup a = some o ∧ o.cls = .type "list" ∧ o.dict = none ∧ o.data = .seq its n ∧ its.size ≤ sizeLine ∧ Vals xs its.toList
/-- a list that nobody changes -/
noncomputable def LsF (_ : PySem.W.Frag) (O : Ow) (H : Hp) (a : Addr) (ys : List V) : Prop := H a = some (.lst ys) ∧ O a = .free
mutual
noncomputable def Rep (K : PySem.W.Frag) (mg : Str → Option Value) (O : Ow) (H : Hp) : D → V → Prop
  | .non, v => v = .non
  | .bl b, v => v = .bl b
  | .int i, v => v = .int i
  | .str x, v => v = .str x
  | .tup xs, v => ∃ a ys, v = .ref a ∧ SqT K H a ys ∧ RepAll K mg O H xs ys
  | .lst xs, v => ∃ a ys, v = .ref a ∧ LsF K O H a ys ∧ RepAll K mg O H xs ys
  | .dic _ _, _ => False
  | .fn f, v => ∃ a, v = .ref a ∧ mg f = some (.ref a)
  | .ty n, v => v = .ty n
noncomputable def RepAll (K : PySem.W.Frag) (mg : Str → Option Value) (O : Ow) (H : Hp) : List D → List V → Prop
  | [], ys => ys = []
  | x :: xs, ys => ∃ y r, ys = y :: r ∧ Rep K mg O H x y ∧ RepAll K mg O H xs r
end
/-- an expression's way: all that stood stands, owned as it was -/
structure Go (O O' : Ow) (H H' : Hp) : Prop where
  same : Same H H'
  own : ∀ b, H b ≠ none → O' b = O b
theorem Go.refl (O : Ow) (H : Hp) : Go O O H H := ⟨Same.refl _, fun _ _ => rfl⟩
theorem Go.trans {O O1 O2 : Ow} {H H1 H2 : Hp} (a : Go O O1 H H1) (b : Go O1 O2 H1 H2) : Go O O2 H H2 :=
  ⟨a.same.trans b.same, fun c h => (b.own c (a.same.some h)).trans (a.own c h)⟩
theorem Rd.same {H H' : Hp} (s : Same H H') {a : Addr} {u : HO} (h : Rd H a u) (n : nT u := by exact trivial) : Rd H' a u := by
  rcases h with h | ⟨o, h⟩
  · exact .inl (s.at' _ _ h n)
  · exact .inr ⟨o, s.at' _ _ h⟩
omit [L2.TabP] in
theorem Rd.some {H : Hp} {a : Addr} {u : HO} (h : Rd H a u) : H a ≠ none := by
  rcases h with h | ⟨o, h⟩ <;> rw [h] <;> intro z <;> cases z
theorem LsF.sq {K : PySem.W.Frag} {O : Ow} {H : Hp} {a : Addr} {ys : List V} (h : LsF K O H a ys) : SqL K H a ys := SqL.of h.1
/-- a list that is not changed here -/
noncomputable def LsV (K : PySem.W.Frag) (O : Ow) (H : Hp) (a : Addr) (ys : List V) : Prop := (Rd H a (.lst ys) ∧ (O a = .free ∨ O a = .out)) ∨ KLst K a ys
theorem LsV.sq {K : PySem.W.Frag} {O : Ow} {H : Hp} {a : Addr} {ys : List V} (h : LsV K O H a ys) : SqL K H a ys := h.elim (fun z => .inl z.1) .inr
theorem LsV.go {K : PySem.W.Frag} {O O' : Ow} {H H' : Hp} (g : Go O O' H H') {a : Addr} {ys : List V} (h : LsV K O H a ys) : LsV K O' H' a ys := by
  rcases h with ⟨l, f⟩ | l
  · exact .inl ⟨Rd.same g.same l, by rw [g.own a (Rd.some l)]; exact f⟩
  · exact .inr l
theorem LsF.go {K : PySem.W.Frag} {O O' : Ow} {H H' : Hp} (g : Go O O' H H') {a : Addr} {ys : List V} (h : LsF K O H a ys) : LsF K O' H' a ys := by
  exact ⟨g.same.at' _ _ h.1, (g.own a (by rw [h.1]; intro z; cases z)).trans h.2⟩
section
variable {K : PySem.W.Frag} {mg : Str → Option Value} {O O' : Ow} {H H' : Hp}
mutual
theorem Rep.go (g : Go O O' H H') : ∀ {d : D} {v : V}, Rep K mg O H d v → Rep K mg O' H' d v
  | .non, _, h => h
  | .bl _, _, h => h
  | .int _, _, h => h
  | .str _, _, h => h
  | .tup _, _, h => by obtain ⟨a, ys, q, l, r⟩ := h; exact ⟨a, ys, q, g.same.seqT l, RepAll.go g r⟩
  | .lst _, _, h => by obtain ⟨a, ys, q, l, r⟩ := h; exact ⟨a, ys, q, l.go g, RepAll.go g r⟩
  | .dic _ _, _, h => h
  | .fn _, _, h => h
  | .ty _, _, h => h
theorem RepAll.go (g : Go O O' H H') : ∀ {ds : List D} {ys : List V}, RepAll K mg O H ds ys → RepAll K mg O' H' ds ys
  | [], _, h => h
  | _ :: _, _, h => by obtain ⟨x, r, q, a, b⟩ := h; exact ⟨x, r, q, Rep.go g a, RepAll.go g b⟩
end
/-- more is free -/
structure Fre (O O' : Ow) : Prop where
  fr : ∀ a, O a = .free → O' a = .free
mutual
theorem Rep.fre (g : Fre O O') : ∀ {d : D} {v : V}, Rep K mg O H d v → Rep K mg O' H d v
  | .non, _, h => h
  | .bl _, _, h => h
  | .int _, _, h => h
  | .str _, _, h => h
  | .tup _, _, h => by obtain ⟨a, ys, q, l, r⟩ := h; exact ⟨a, ys, q, l, RepAll.fre g r⟩
  | .lst _, _, h => by obtain ⟨a, ys, q, l, r⟩ := h; exact ⟨a, ys, q, ⟨l.1, g.fr _ l.2⟩, RepAll.fre g r⟩
  | .dic _ _, _, h => h
  | .fn _, _, h => h
  | .ty _, _, h => h
theorem RepAll.fre (g : Fre O O') : ∀ {ds : List D} {ys : List V}, RepAll K mg O H ds ys → RepAll K mg O' H ds ys
  | [], _, h => h
  | _ :: _, _, h => by obtain ⟨x, r, q, a, b⟩ := h; exact ⟨x, r, q, Rep.fre g a, RepAll.fre g b⟩
end
theorem RepAll.len : ∀ {ds : List D} {xs : List V}, RepAll K mg O H ds xs → xs.length = ds.length
  | [], _, h => by cases h; rfl
  | _ :: _, _, h => by obtain ⟨x, r, rfl, _, b⟩ := h; rw [List.length_cons, List.length_cons, RepAll.len b]
theorem RepAll.get : ∀ {ds : List D} {xs : List V} {i : Nat} {d : D}, RepAll K mg O H ds xs → ds[i]? = some d → ∃ x, xs[i]? = some x ∧ Rep K mg O H d x
  | [], _, _, _, _, e => by simp at e
  | _ :: _, _, 0, d, h, e => by obtain ⟨x, r, rfl, a, _⟩ := h; cases (show some _ = some d from e); exact ⟨x, rfl, a⟩
  | _ :: ds, _, i + 1, d, h, e => by
    obtain ⟨x, r, rfl, _, b⟩ := h
    obtain ⟨y, e1, e2⟩ := RepAll.get (i := i) b (by simpa using e)
    exact ⟨y, by simpa using e1, e2⟩
theorem RepAll.append : ∀ {ds es : List D} {xs ys : List V}, RepAll K mg O H ds xs → RepAll K mg O H es ys → RepAll K mg O H (ds ++ es) (xs ++ ys)
  | [], _, _, _, h, q => by cases h; exact q
  | _ :: _, _, _, _, h, q => by obtain ⟨x, r, rfl, a, b⟩ := h; exact ⟨x, _, rfl, a, RepAll.append b q⟩
theorem RepAll.one {d : D} {x : V} (h : Rep K mg O H d x) : RepAll K mg O H [d] [x] := ⟨x, [], rfl, h, rfl⟩
theorem RepAll.take : ∀ {ds : List D} {xs : List V} (n : Nat), RepAll K mg O H ds xs → RepAll K mg O H (ds.take n) (xs.take n)
  | [], _, _, h => by cases h; rw [List.take_nil, List.take_nil]; rfl
  | _ :: _, _, 0, _ => by rw [List.take_zero, List.take_zero]; rfl
  | _ :: _, _, n + 1, h => by obtain ⟨x, r, rfl, a, b⟩ := h; exact ⟨x, _, rfl, a, RepAll.take n b⟩
theorem RepAll.drop : ∀ {ds : List D} {xs : List V} (n : Nat), RepAll K mg O H ds xs → RepAll K mg O H (ds.drop n) (xs.drop n)
  | [], _, _, h => by cases h; rw [List.drop_nil, List.drop_nil]; rfl
  | _ :: _, _, 0, h => h
  | _ :: _, _, n + 1, h => by obtain ⟨x, r, rfl, a, b⟩ := h; exact RepAll.drop n b
theorem repAll_ints (ns : List Int) : RepAll K mg O H (ns.map D.int) (ns.map V.int) := by
  induction ns with
  | nil => rfl
  | cons n r ih => exact ⟨.int n, _, rfl, rfl, ih⟩
/-- the items of a dict -/
noncomputable def RepKV (K : PySem.W.Frag) (mg : Str → Option Value) (O : Ow) (H : Hp) (kvs : List (Key × D)) (kvv : List (Key × V)) : Prop := kvs.map (·.1) = kvv.map (·.1) ∧ RepAll K mg O H (kvs.map (·.2)) (kvv.map (·.2))
theorem RepKV.go (g : Go O O' H H') {kvs : List (Key × D)} {kvv : List (Key × V)} (h : RepKV K mg O H kvs kvv) : RepKV K mg O' H' kvs kvv := ⟨h.1, h.2.go g⟩
theorem RepKV.fre (g : Fre O O') {kvs : List (Key × D)} {kvv : List (Key × V)} (h : RepKV K mg O H kvs kvv) : RepKV K mg O' H kvs kvv := ⟨h.1, h.2.fre g⟩
/-- a place, as a datum; a dict whose keys are places -/
noncomputable def plD (p : Pl) : D := .tup [.int p.1, .tup [.int p.2.1, .int p.2.2]]
noncomputable def plH (p : Pl) : Int := reduceHash (Builtin.Tuple.tupleHashOf [hashInt p.1, reduceHash (Builtin.Tuple.tupleHashOf [hashInt p.2.1, hashInt p.2.2])])
noncomputable def plE (x : Pl × Addr × Value) : DictEntry := ⟨plH x.1, .ref x.2.1, x.2.2⟩
noncomputable abbrev PD (a : Addr) (xs : List (Pl × Addr × Value)) : HO := .ext fun h => ∃ o es ep, h.get? a = some o ∧ o.ExactDict ∧ o.data = .dict es ep ∧ es.toList = xs.map plE
/-- a dict of places is no sys.modules, and no key stands in it twice -/
noncomputable def PdOk (a : Addr) (xs : List (Pl × Addr × Value)) : Prop := (a == sysModules) = false ∧ (xs.map (·.1)).Nodup
noncomputable def RepPD (K : PySem.W.Frag) (mg : Str → Option Value) (O : Ow) (H : Hp) : List (Pl × D) → List (Pl × Addr × Value) → Prop
  | [], xs => xs = []
  | p :: kvs, xs => ∃ x r, xs = x :: r ∧ p.1 = x.1 ∧ Rep K mg O H (plD p.1) (.ref x.2.1) ∧ (∃ v, Rep K mg O H p.2 v ∧ RelV v x.2.2) ∧ RepPD K mg O H kvs r
theorem RepPD.all {O' : Ow} {H' : Hp} (f : ∀ d v, Rep K mg O H d v → Rep K mg O' H' d v) : ∀ {kvs : List (Pl × D)} {xs : List (Pl × Addr × Value)}, RepPD K mg O H kvs xs → RepPD K mg O' H' kvs xs
  | [], _, h => h
  | _ :: _, _, h => by
    obtain ⟨x, r, e, e1, h1, ⟨v, h2, h3⟩, h4⟩ := h
    exact ⟨x, r, e, e1, f _ _ h1, ⟨v, f _ _ h2, h3⟩, RepPD.all f h4⟩
theorem RepPD.go (g : Go O O' H H') {kvs : List (Pl × D)} {xs : List (Pl × Addr × Value)} (h : RepPD K mg O H kvs xs) : RepPD K mg O' H' kvs xs := h.all fun _ _ z => Rep.go g z
theorem RepPD.fre (g : Fre O O') {kvs : List (Pl × D)} {xs : List (Pl × Addr × Value)} (h : RepPD K mg O H kvs xs) : RepPD K mg O' H kvs xs := h.all fun _ _ z => Rep.fre g z
/-- what an expression gives -/
noncomputable def RepR (K : PySem.W.Frag) (mg : Str → Option Value) (O : Ow) (H : Hp) : R → V → Prop
  | .v d, v => Rep K mg O H d v
  | .fr xs, v => ∃ a ys, v = .ref a ∧ H a = some (.lst ys) ∧ O a = .tmp ∧ RepAll K mg O H xs ys
  | .vw xs, v => ∃ a ys, v = .ref a ∧ LsV K O H a ys ∧ RepAll K mg O H xs ys
  | .mv xs, v => ∃ a ys, v = .ref a ∧ H a = some (.lst ys) ∧ RepAll K mg O H xs ys
  | .dv kvs, v => ∃ a kvv, v = .ref a ∧ Rd H a (.dK kvv) ∧ RepKV K mg O H kvs kvv
theorem RepR.go (g : Go O O' H H') : ∀ {r : R} {v : V}, RepR K mg O H r v → RepR K mg O' H' r v
  | .v _, _, h => Rep.go g h
  | .fr _, _, h => by obtain ⟨a, ys, q, l, o, r⟩ := h; exact ⟨a, ys, q, g.same.at' _ _ l, (g.own a (by rw [l]; intro z; cases z)).trans o, r.go g⟩
  | .vw _, _, h => by obtain ⟨a, ys, q, l, r⟩ := h; exact ⟨a, ys, q, l.go g, r.go g⟩
  | .mv _, _, h => by obtain ⟨a, ys, q, l, r⟩ := h; exact ⟨a, ys, q, g.same.at' _ _ l, r.go g⟩
  | .dv _, _, h => by obtain ⟨a, ys, q, l, r⟩ := h; exact ⟨a, ys, q, Rd.same g.same l, r.go g⟩
/-- a tree, at the path -/
noncomputable def ClsIs (K : PySem.W.Frag) (mg : Str → Option Value) (c : Str) (C : Addr) : Prop := mg c = some (.ref C) ∧ Cls K C
mutual
noncomputable def TreeR (K : PySem.W.Frag) (mg : Str → Option Value) (O : Ow) (H : Hp) (w : Own) : List Nat → Tr → V → Prop
  | _, .lf d, v => Rep K mg O H d v
  | p, .ls ts, v => ∃ a ys, v = .ref a ∧ O a = w.at p ∧ H a = some (.lst ys) ∧ TreeAll K mg O H w p 0 ts ys
  | p, .dc ks ts, v => ∃ a ys, v = .ref a ∧ O a = w.at p ∧ H a = some (.dK (ks.zip ys)) ∧ (ks.length = ys.length ∧ ks.Nodup) ∧ TreeAll K mg O H w p 0 ts ys
  | p, .ob c ns ts, v => ∃ a C dx ys, v = .ref a ∧ O a = w.at p ∧ H a = some (.ins C dx (ns.zip ys)) ∧ (ns.length = ys.length ∧ ns.Nodup ∧ ClsIs K mg c C) ∧ TreeAll K mg O H w p 0 ts ys
noncomputable def TreeAll (K : PySem.W.Frag) (mg : Str → Option Value) (O : Ow) (H : Hp) (w : Own) : List Nat → Nat → List Tr → List V → Prop
  | _, _, [], ys => ys = []
  | p, n, t :: ts, ys => ∃ y r, ys = y :: r ∧ TreeR K mg O H w (p ++ [n]) t y ∧ TreeAll K mg O H w p (n + 1) ts r
end
mutual
theorem TreeR.all {O' : Ow} {H' : Hp} {w : Own} (f : ∀ d v, Rep K mg O H d v → Rep K mg O' H' d v) (g : ∀ (a : Addr) (u : HO) (p : List Nat), O a = w.at p → H a = some u → nT u → O' a = w.at p ∧ H' a = some u) : ∀ (t : Tr) {p : List Nat} {v : V}, TreeR K mg O H w p t v → TreeR K mg O' H' w p t v
  | .lf _, _, _, h => f _ _ h
  | .ls ts, _, _, h => by
    obtain ⟨a, ys, e, o, l, r⟩ := h
    obtain ⟨o', l'⟩ := g _ _ _ o l trivial
    exact ⟨a, ys, e, o', l', TreeAll.all f g ts r⟩
  | .dc _ ts, _, _, h => by
    obtain ⟨a, ys, e, o, l, q, r⟩ := h
    obtain ⟨o', l'⟩ := g _ _ _ o l trivial
    exact ⟨a, ys, e, o', l', q, TreeAll.all f g ts r⟩
  | .ob _ _ ts, _, _, h => by
    obtain ⟨a, C, dx, ys, e, o, l, q, r⟩ := h
    obtain ⟨o', l'⟩ := g _ _ _ o l trivial
    exact ⟨a, C, dx, ys, e, o', l', q, TreeAll.all f g ts r⟩
theorem TreeAll.all {O' : Ow} {H' : Hp} {w : Own} (f : ∀ d v, Rep K mg O H d v → Rep K mg O' H' d v) (g : ∀ (a : Addr) (u : HO) (p : List Nat), O a = w.at p → H a = some u → nT u → O' a = w.at p ∧ H' a = some u) : ∀ (ts : List Tr) {p : List Nat} {n : Nat} {ys : List V}, TreeAll K mg O H w p n ts ys → TreeAll K mg O' H' w p n ts ys
  | [], _, _, _, h => h
  | t :: ts, _, _, _, h => by
    obtain ⟨y, r, e, a, b⟩ := h
    exact ⟨y, r, e, TreeR.all f g t a, TreeAll.all f g ts b⟩
end
theorem TreeR.go {w : Own} (g : Go O O' H H') {t : Tr} {p : List Nat} {v : V} (h : TreeR K mg O H w p t v) : TreeR K mg O' H' w p t v :=
  h.all (fun _ _ z => Rep.go g z) fun a u _ o l n => ⟨(g.own a (by rw [l]; intro z; cases z)).trans o, g.same.at' _ _ l n⟩
noncomputable def SlotR (K : PySem.W.Frag) (mg : Str → Option Value) (O : Ow) (H : Hp) (w : Own) : Slot → Option V → Prop
  | .emp, _ => True
  | .val d, u => ∃ v, u = some v ∧ Rep K mg O H d v
  | .ow _ xs, u => ∃ a ys, u = some (.ref a) ∧ O a = w ∧ H a = some (.lst ys) ∧ RepAll K mg O H xs ys
  | .vw xs, u => ∃ a ys, u = some (.ref a) ∧ LsV K O H a ys ∧ RepAll K mg O H xs ys
  | .dct kvs, u => ∃ a kvv, u = some (.ref a) ∧ O a = w ∧ H a = some (.dK kvv) ∧ RepKV K mg O H kvs kvv
  | .vd kvs, u => ∃ a kvv, u = some (.ref a) ∧ (Rd H a (.dK kvv) ∧ (O a = .free ∨ O a = .out)) ∧ RepKV K mg O H kvs kvv
  | .pd kvs, u => ∃ a xs, u = some (.ref a) ∧ O a = w ∧ H a = some (PD a xs) ∧ PdOk a xs ∧ RepPD K mg O H kvs xs
  | .vp kvs, u => ∃ a xs, u = some (.ref a) ∧ (Rd H a (PD a xs) ∧ (O a = .free ∨ O a = .out)) ∧ PdOk a xs ∧ RepPD K mg O H kvs xs
  | .tr m t, u => ∃ v, u = some v ∧ TreeR K mg O H (m.ow w) [] t v
theorem SlotR.go {w : Own} (g : Go O O' H H') : ∀ {s : Slot} {u : Option V}, SlotR K mg O H w s u → SlotR K mg O' H' w s u
  | .emp, _, _ => trivial
  | .val _, _, h => by obtain ⟨v, q, r⟩ := h; exact ⟨v, q, r.go g⟩
  | .ow _ _, _, h => by obtain ⟨a, ys, q, o, l, r⟩ := h; exact ⟨a, ys, q, (g.own a (by rw [l]; intro z; cases z)).trans o, g.same.at' _ _ l, r.go g⟩
  | .vw _, _, h => by
    obtain ⟨a, ys, q, l, r⟩ := h
    exact ⟨a, ys, q, l.go g, r.go g⟩
  | .dct _, _, h => by obtain ⟨a, ys, q, o, l, r⟩ := h; exact ⟨a, ys, q, (g.own a (by rw [l]; intro z; cases z)).trans o, g.same.at' _ _ l, r.go g⟩
  | .vd _, _, h => by obtain ⟨a, ys, q, l, r⟩ := h; exact ⟨a, ys, q, ⟨Rd.same g.same l.1, by rw [g.own a (Rd.some l.1)]; exact l.2⟩, r.go g⟩
  | .pd _, _, h => by obtain ⟨a, ys, q, o, l, r⟩ := h; exact ⟨a, ys, q, (g.own a (by rw [l]; intro z; cases z)).trans o, g.same.at' _ _ l, r.1, r.2.go g⟩
  | .vp _, _, h => by obtain ⟨a, ys, q, l, r⟩ := h; exact ⟨a, ys, q, ⟨Rd.same g.same l.1, by rw [g.own a (Rd.some l.1)]; exact l.2⟩, r.1, r.2.go g⟩
  | .tr _ _, _, h => by obtain ⟨v, q, r⟩ := h; exact ⟨v, q, r.go g⟩
end
theorem TM.ne {m : TM} {w : Own} {o : Own} (ho : o ≠ .out) (ht : ∀ p, o ≠ w.at p) : ∀ p, o ≠ (m.ow w).at p := fun p => by
  cases m with
  | view => exact ho
  | own => exact ht p
  | par => exact ht p
structure Dom (O : Ow) (H : Hp) : Prop where
  has : ∀ a, O a ≠ .free → H a ≠ none
  tabs : TabsOk H
structure S3 (K : PySem.W.Frag) (mg : Str → Option Value) (O : Ow) (σ : En) (S : Store) (σV : St) (H : Hp) : Prop where
  dom : Dom O H
  len : σ.length = σV.length
  loc : ∀ i s, σ[i]? = some s → SlotR K mg O H (.loc i) s (σV[i]?.join)
  emp : S = []
theorem S3.go {K : PySem.W.Frag} {mg : Str → Option Value} {O O' : Ow} {σ : En} {S : Store} {σV : St} {H H' : Hp} (h : S3 K mg O σ S σV H) (g : Go O O' H H') (d : Dom O' H') : S3 K mg O' σ S σV H' :=
  ⟨d, h.len, fun i s e => (h.loc i s e).go g, h.emp⟩
noncomputable def updO (O : Ow) (a : Addr) (o : Own) : Ow := fun b => if b = a then o else O b
omit [L2.TabP] in
theorem updO_same {O : Ow} {a : Addr} {o : Own} : updO O a o a = o := if_pos rfl
omit [L2.TabP] in
theorem updO_ne {O : Ow} {a b : Addr} {o : Own} (h : b ≠ a) : updO O a o b = O b := if_neg h
section
variable {K : PySem.W.Frag} {mg : Str → Option Value} {O : Ow} {σ : En} {S : Store} {σV : St} {H : Hp} {p : Addr} {u : HO} {o : Own}
/-- a new thing -/
theorem Go.new (hp : H p = none) : Go O (updO O p o) H (upd H p u) :=
  ⟨same_new hp u, fun b hb => updO_ne (by rintro rfl; exact hb hp)⟩
theorem Go.new0 (hp : H p = none) : Go O O H (upd H p u) := ⟨same_new hp u, fun _ _ => rfl⟩
theorem Dom.new (d : Dom O H) (hp : H p = none) : Dom (updO O p o) (upd H p u) := ⟨fun a ha => by
  by_cases e : a = p
  · subst e; rw [upd_same]; intro z; cases z
  · rw [upd_ne e]; rw [updO_ne e] at ha; exact d.has a ha, d.tabs.new hp u⟩
theorem Dom.same {H' : Hp} (d : Dom O H) (s : Same H H') : Dom O H' := ⟨fun a ha => s.some (d.has a ha), s.gd d.tabs⟩
theorem S3.new (h : S3 K mg O σ S σV H) (hp : H p = none) : S3 K mg (updO O p o) σ S σV (upd H p u) := h.go (Go.new hp) (h.dom.new hp)
theorem S3.new0 (h : S3 K mg O σ S σV H) (hp : H p = none) : S3 K mg O σ S σV (upd H p u) := h.go (Go.new0 hp) (h.dom.same (same_new hp u))
end

/-! ### the judgements -/
/-- a new list is one that did not stand ahead -/
noncomputable def NewR (H : Hp) : R → V → Prop
  | .fr _, v => ∀ a, v = .ref a → H a = none
  | _, _ => True
theorem NewR.back {H H1 : Hp} (s : Same H H1) : ∀ {r : R} {v : V}, NewR H1 r v → NewR H r v
  | .v _, _, _ => trivial
  | .vw _, _, _ => trivial
  | .mv _, _, _ => trivial
  | .dv _, _, _ => trivial
  | .fr _, _, h => fun a e => s.free (h a e)
noncomputable def NewRs (H : Hp) : List R → List V → Prop
  | r :: rs, v :: vs => NewR H r v ∧ NewRs H rs vs
  | _, _ => True
theorem NewRs.back {H H1 : Hp} (s : Same H H1) : ∀ {rs : List R} {vs : List V}, NewRs H1 rs vs → NewRs H rs vs
  | [], _, _ => trivial
  | _ :: _, [], _ => trivial
  | _ :: _, _ :: _, h => ⟨h.1.back s, NewRs.back s h.2⟩
noncomputable def PoE (K : PySem.W.Frag) (mg : Str → Option Value) (O : Ow) (σ : En) (S' : Store) (σV : St) (H : Hp) (r : R) (Q : VK) : Prop :=
  ∀ O' v H', Go O O' H H' → S3 K mg O' σ S' σV H' → RepR K mg O' H' r v → NewR H r v → Q v H'
noncomputable def teOf (K : PySem.W.Frag) (mg : Str → Option Value) (m : ME) : TE := fun σV H Q => ∃ O σ S r S', S3 K mg O σ S σV H ∧ (m σ).run S = .ok r S' ∧ PoE K mg O σ S' σV H r Q
noncomputable def ttOf (K : PySem.W.Frag) (mg : Str → Option Value) (m : En → M Bool) : TT := fun σV H Q => ∃ O σ S b S', S3 K mg O σ S σV H ∧ (m σ).run S = .ok b S' ∧ ∀ O' H', Go O O' H H' → S3 K mg O' σ S' σV H' → Q b H'
noncomputable abbrev CE (X : Cx) (e : Expr) (m : ME) : Prop := PE X e (teOf X.K X.mg m)
noncomputable abbrev CT (X : Cx) (e : Expr) (m : En → M Bool) : Prop := PT X e (ttOf X.K X.mg m)
noncomputable abbrev CW (X : Cx) (e : Expr) (m : En → M Bool) : Prop := PW X e (ttOf X.K X.mg m)
noncomputable def RepRs (K : PySem.W.Frag) (mg : Str → Option Value) (O : Ow) (H : Hp) : List R → List V → Prop
  | [], ys => ys = []
  | x :: xs, ys => ∃ y r, ys = y :: r ∧ RepR K mg O H x y ∧ RepRs K mg O H xs r
noncomputable abbrev MA := En → M (List R)
noncomputable def taOf (K : PySem.W.Frag) (mg : Str → Option Value) (m : MA) : TA := fun σV H Q => ∃ O σ S rs S', S3 K mg O σ S σV H ∧ (m σ).run S = .ok rs S' ∧ ∀ O' vs H', Go O O' H H' → S3 K mg O' σ S' σV H' → RepRs K mg O' H' rs vs → NewRs H rs vs → Q vs H'
noncomputable abbrev CA (X : Cx) (es : List Expr) (m : MA) : Prop := PA X es (taOf X.K X.mg m)
theorem pe_imp {X : Cx} {e : Expr} {t t' : TE} (h : PE X e t) (i : ∀ σ H Q, t' σ H Q → t σ H Q) : PE X e t' := fun pins s σ H Q I q => h pins s σ H Q I (i _ _ _ q)
theorem pt_imp {X : Cx} {e : Expr} {t t' : TT} (h : PT X e t) (i : ∀ σ H Q, t' σ H Q → t σ H Q) : PT X e t' := fun pins s σ H Q I q => h pins s σ H Q I (i _ _ _ q)
theorem pw_imp {X : Cx} {e : Expr} {t t' : TT} (h : PW X e t) (i : ∀ σ H Q, t' σ H Q → t σ H Q) : PW X e t' := fun wh pins s σ H Q I q => h wh pins s σ H Q I (i _ _ _ q)
theorem pa_imp {X : Cx} {es : List Expr} {t t' : TA} (h : PA X es t) (i : ∀ σ H Q, t' σ H Q → t σ H Q) : PA X es t' := fun pos pins s σ H Q I q => h pos pins s σ H Q I (i _ _ _ q)

/-! ### names, constants -/
noncomputable def cVar (i : Nat) : ME := fun σ => match σ[i]? with
  | some (.val d) => pure (.v d)
  | some (.ow _ xs) => pure (.mv xs)
  | some (.vw xs) => pure (.vw xs)
  | some (.dct kvs) => pure (.dv kvs)
  | some (.vd kvs) => pure (.dv kvs)
  | _ => bad
noncomputable def cK (d : D) : ME := fun _ => pure (.v d)
section
variable {X : Cx} {a b c e : Expr} {ma mb mc m : ME} {ta tb : En → M Bool} {pos : Pos}
theorem ce_var (i : Nat) {x : Str} {pos : Pos} (hN : X.N[i]? = some x := by rfl) (hv : Vis X.env.scope x := by first | exact Or.inl rfl | exact Or.inr (Or.inl rfl) | exact Or.inr (Or.inr rfl)) (hd : (x == ("__debug__" : Str)) = false := by decide)
    (hcd : (x == ("__classdict__" : Str)) = false := by decide) : CE X (.Name x pos) (cVar i) := pe_imp (pe_var hN hv hd hcd) <| by
  rintro σV H Q ⟨O, σ, S, r, S', st, h, q⟩
  unfold cVar at h
  cases e : σ[i]? with
  | none => rw [e] at h; cases h
  | some s =>
    rw [e] at h
    have l := st.loc i s e
    have get : ∀ {v : V}, σV[i]?.join = some v → σV[i]? = some (some v) := fun {v} z => by
      cases w : σV[i]? with
      | none => rw [w] at z; cases z
      | some y => rw [w] at z; exact congrArg some z
    cases s with
    | val d =>
      obtain ⟨v, e1, e2⟩ := l
      cases h
      exact ⟨v, get e1, q O v H (Go.refl _ _) st e2 trivial⟩
    | ow p xs =>
      obtain ⟨a, ys, e1, e2, e3, e4⟩ := l
      cases h
      exact ⟨_, get e1, q O _ H (Go.refl _ _) st ⟨a, ys, rfl, e3, e4⟩ trivial⟩
    | vw xs =>
      obtain ⟨a, ys, e1, e2, e4⟩ := l
      cases h
      exact ⟨_, get e1, q O _ H (Go.refl _ _) st ⟨a, ys, rfl, e2, e4⟩ trivial⟩
    | emp => cases h
    | pd k => cases h
    | vp k => cases h
    | tr _ _ => cases h
    | dct k =>
      obtain ⟨a, ys, e1, e2, e3, e4⟩ := l
      cases h
      exact ⟨_, get e1, q O _ H (Go.refl _ _) st ⟨a, ys, rfl, .inl e3, e4⟩ trivial⟩
    | vd k =>
      obtain ⟨a, ys, e1, e2, e4⟩ := l
      cases h
      exact ⟨_, get e1, q O _ H (Go.refl _ _) st ⟨a, ys, rfl, e2.1, e4⟩ trivial⟩
theorem ce_k {d : D} {v : V} (h : PE X e (tC v)) (r : ∀ O H, Rep X.K X.mg O H d v) : CE X e (cK d) := pe_imp h <| by
  rintro σV H Q ⟨O, σ, S, r', S', st, h, q⟩
  cases h
  exact q O v H (Go.refl _ _) st (r O H) trivial
theorem ce_int {i j pos} : CE X (.Constant (.int i) j pos) (cK (.int i)) := ce_k pe_int fun _ _ => rfl
theorem ce_bl {b j pos} : CE X (.Constant (.bool b) j pos) (cK (.bl b)) := ce_k pe_bl fun _ _ => rfl
theorem ce_non {j pos} : CE X (.Constant .none j pos) (cK .non) := ce_k pe_non fun _ _ => rfl
theorem ce_str {x j pos} : CE X (.Constant (.str x) j pos) (cK (.str x)) := ce_k pe_str fun _ _ => rfl

/-! ### two-place operations -/
noncomputable def c2 (f : R → R → M R) (a b : ME) : ME := fun σ => do
  let x ← a σ
  let y ← b σ
  f x y
noncomputable def Bin (K : PySem.W.Frag) (mg : Str → Option Value) (r : R2) (f : R → R → M R) : Prop :=
  ∀ O σ S σV H x y rx ry r' S' (Q : VK), S3 K mg O σ S σV H → RepR K mg O H rx x → RepR K mg O H ry y → (f rx ry).run S = .ok r' S' → PoE K mg O σ S' σV H r' Q → r x y H Q
theorem c2_read {K : PySem.W.Frag} {mg : Str → Option Value} {r : R2} {f : R → R → M R} (hf : Bin K mg r f) : ∀ σV H Q, teOf K mg (c2 f ma mb) σV H Q → tOp r (teOf K mg ma) (teOf K mg mb) σV H Q := by
  rintro σV H Q ⟨O, σ, S, r', S', st, h, q⟩
  obtain ⟨x, S1, h1, h⟩ := M.inv h
  obtain ⟨y, S2, h2, h⟩ := M.inv h
  refine ⟨O, σ, S, x, S1, st, h1, fun O1 vx H1 g1 st1 rx nx => ?_⟩
  refine ⟨O1, σ, S1, y, S2, st1, h2, fun O2 vy H2 g2 st2 ry ny => ?_⟩
  exact hf O2 σ S2 σV H2 vx vy x y r' S' Q st2 (rx.go g2) ry h fun O' v H' g st' rr nn => q O' v H' ((g1.trans g2).trans g) st' rr (nn.back (g1.trans g2).same)
theorem ce_op {op : Operator} {r : R2} {f : R → R → M R} (ho : OpR X (binaryOp op) r) (hf : Bin X.K X.mg r f) (ha : CE X a ma) (hb : CE X b mb) : CE X (.BinOp a op b pos) (c2 f ma mb) := pe_imp (pe_op ho ha hb) (c2_read hf)
theorem ce_cmp {op : CmpOp} {r : R2} {f : R → R → M R} (ho : OpR X (compareOp op) r) (hf : Bin X.K X.mg r f) (ha : CE X a ma) (hb : CE X b mb) (hm : behindInMarks op b = false) : CE X (.Compare a [op] [b] pos) (c2 f ma mb) := pe_imp (pe_cmpR ho ha hb hm) (c2_read hf)
theorem ce_ix {r : R2} {f : R → R → M R} (ho : IxR X r) (hf : Bin X.K X.mg r f) (ha : CE X a ma) (hb : CE X b mb) (hs : PlainIx b) : CE X (.Subscript a b pos) (c2 f ma mb) := pe_imp (pe_ix ho ha hb hs) (c2_read hf)
/-- a truth -/
noncomputable def R.tru : R → M Bool
  | .v (.bl b) => pure b
  | _ => bad
noncomputable def cT (m : ME) : En → M Bool := fun σ => do
  let x ← m σ
  x.tru
omit [L2.TabP] in
theorem tru_inv {r : R} {b : Bool} {S S' : Store} (h : r.tru.run S = .ok b S') : r = .v (.bl b) ∧ S = S' := by
  cases r with
  | v d => cases d <;> cases h <;> exact ⟨rfl, rfl⟩
  | fr _ => cases h
  | vw _ => cases h
  | mv _ => cases h
  | dv _ => cases h
theorem test_read {K : PySem.W.Frag} {mg : Str → Option Value} : ∀ σV H Q, ttOf K mg (cT m) σV H Q → tTest (teOf K mg m) σV H Q := by
  rintro σV H Q ⟨O, σ, S, t, S', st, h, q⟩
  obtain ⟨x, S1, h1, h⟩ := M.inv h
  obtain ⟨rfl, rfl⟩ := tru_inv h
  exact ⟨O, σ, S, _, _, st, h1, fun O' v H' g st' rr _ => ⟨t, rr, q O' H' g st'⟩⟩
theorem tTest_imp {t t' : TE} (i : ∀ σ H Q, t' σ H Q → t σ H Q) : ∀ σ H Q, tTest t' σ H Q → tTest t σ H Q := fun σ H Q q => i _ _ _ q
theorem ct_cmp {op : CmpOp} {r : R2} {f : R → R → M R} (ho : OpR X (compareOp op) r) (hf : Bin X.K X.mg r f) (ha : CE X a ma) (hb : CE X b mb) (hm : behindInMarks op b = false) : CT X (.Compare a [op] [b] pos) (cT (c2 f ma mb)) :=
  pt_imp (pt_cmpR ho ha hb hm) fun σV H Q h => tTest_imp (c2_read hf) σV H Q (test_read σV H Q h)
/-! chains a op b op' c -/
noncomputable def c3 (f g : R → R → M R) (a b c : ME) : ME := fun σ => do
  let x ← a σ
  let y ← b σ
  let z ← f x y
  let t ← z.tru
  if t = true then do
    let w ← c σ
    g y w
  else pure (.v (.bl false))

/-! ### and, or, not, if-expressions -/
noncomputable def cAnd (a b : ME) : ME := fun σ => do
  let x ← a σ
  let t ← x.tru
  if t = true then b σ else pure (.v (.bl false))
noncomputable def cOr (a b : ME) : ME := fun σ => do
  let x ← a σ
  let t ← x.tru
  if t = true then pure (.v (.bl true)) else b σ
noncomputable def cNot (a : ME) : ME := fun σ => do
  let x ← a σ
  let t ← x.tru
  pure (.v (.bl (!t)))
noncomputable def tAndM (a b : En → M Bool) : En → M Bool := fun σ => do
  let t ← a σ
  if t = true then b σ else pure false
noncomputable def tOrM (a b : En → M Bool) : En → M Bool := fun σ => do
  let t ← a σ
  if t = true then pure true else b σ
noncomputable def tNotM (a : En → M Bool) : En → M Bool := fun σ => do
  let t ← a σ
  pure (!t)
noncomputable def cIf (t : En → M Bool) (a b : ME) : ME := fun σ => do
  let t ← t σ
  if t = true then a σ else b σ
variable {rest : List Expr}
theorem ce_one {op} (h : CE X a ma) : CE X (.BoolOp op [a] pos) ma := pe_one h
theorem ce_and (ha : CE X a ma) (hb : CE X (.BoolOp .And (b :: rest) pos) mb) : CE X (.BoolOp .And (a :: b :: rest) pos) (cAnd ma mb) := pe_imp (pe_and ha hb) <| by
  rintro σV H Q ⟨O, σ, S, r, S', st, h, q⟩
  obtain ⟨x, S1, h1, h⟩ := M.inv h
  obtain ⟨t, S2, h2, h⟩ := M.inv h
  obtain ⟨rfl, rfl⟩ := tru_inv h2
  refine ⟨O, σ, S, _, _, st, h1, fun O1 vx H1 g1 st1 rx nx => ⟨t, rx, ?_⟩⟩
  cases t with
  | false =>
    rw [if_neg Bool.false_ne_true] at h
    cases h
    exact iteF (q O1 _ H1 g1 st1 rfl trivial)
  | true =>
    rw [if_pos rfl] at h
    exact iteT ⟨O1, σ, _, r, S', st1, h, fun O' v H' g st' rr nn => q O' v H' (g1.trans g) st' rr (nn.back g1.same)⟩
theorem ce_or (ha : CE X a ma) (hb : CE X (.BoolOp .Or (b :: rest) pos) mb) : CE X (.BoolOp .Or (a :: b :: rest) pos) (cOr ma mb) := pe_imp (pe_or ha hb) <| by
  rintro σV H Q ⟨O, σ, S, r, S', st, h, q⟩
  obtain ⟨x, S1, h1, h⟩ := M.inv h
  obtain ⟨t, S2, h2, h⟩ := M.inv h
  obtain ⟨rfl, rfl⟩ := tru_inv h2
  refine ⟨O, σ, S, _, _, st, h1, fun O1 vx H1 g1 st1 rx nx => ⟨t, rx, ?_⟩⟩
  cases t with
  | true =>
    rw [if_pos rfl] at h
    cases h
    exact iteT (q O1 _ H1 g1 st1 rfl trivial)
  | false =>
    rw [if_neg Bool.false_ne_true] at h
    exact iteF ⟨O1, σ, _, r, S', st1, h, fun O' v H' g st' rr nn => q O' v H' (g1.trans g) st' rr (nn.back g1.same)⟩
theorem ce_not (ha : CE X a ma) : CE X (.UnaryOp .Not a pos) (cNot ma) := pe_imp (pe_not ha) <| by
  rintro σV H Q ⟨O, σ, S, r, S', st, h, q⟩
  obtain ⟨x, S1, h1, h⟩ := M.inv h
  obtain ⟨t, S2, h2, h⟩ := M.inv h
  obtain ⟨rfl, rfl⟩ := tru_inv h2
  cases h
  exact ⟨O, σ, S, _, _, st, h1, fun O1 vx H1 g1 st1 rx nx => ⟨t, rx, q O1 _ H1 g1 st1 rfl trivial⟩⟩
theorem ct_val (ha : CE X a ma) (he : ∀ whole, isTrue a X.env whole = (do let v ← whole; standAt a.pos; holding [v] (truthy v)) := by intro _; rfl) : CT X a (cT ma) := pt_imp (pt_val ha he) fun σV H Q h => test_read σV H Q h
theorem cw_and1 (ha : CT X a ta) : CW X (.BoolOp .And [a] pos) ta := pw_and1 ha
theorem cw_or1 (ha : CT X a ta) : CW X (.BoolOp .Or [a] pos) ta := pw_or1 ha
theorem cw_and (ha : CT X a ta) (hb : CW X (.BoolOp .And (b :: rest) pos) tb) : CW X (.BoolOp .And (a :: b :: rest) pos) (tAndM ta tb) := pw_imp (pw_and ha hb) <| by
  rintro σV H Q ⟨O, σ, S, r, S', st, h, q⟩
  obtain ⟨t, S1, h1, h⟩ := M.inv h
  refine ⟨O, σ, S, t, S1, st, h1, fun O1 H1 g1 st1 => ?_⟩
  cases t with
  | false =>
    rw [if_neg Bool.false_ne_true] at h
    cases h
    exact iteF (q O1 H1 g1 st1)
  | true =>
    rw [if_pos rfl] at h
    exact iteT ⟨O1, σ, S1, r, S', st1, h, fun O' H' g st' => q O' H' (g1.trans g) st'⟩
theorem cw_or (ha : CT X a ta) (hb : CW X (.BoolOp .Or (b :: rest) pos) tb) : CW X (.BoolOp .Or (a :: b :: rest) pos) (tOrM ta tb) := pw_imp (pw_or ha hb) <| by
  rintro σV H Q ⟨O, σ, S, r, S', st, h, q⟩
  obtain ⟨t, S1, h1, h⟩ := M.inv h
  refine ⟨O, σ, S, t, S1, st, h1, fun O1 H1 g1 st1 => ?_⟩
  cases t with
  | true =>
    rw [if_pos rfl] at h
    cases h
    exact iteT (q O1 H1 g1 st1)
  | false =>
    rw [if_neg Bool.false_ne_true] at h
    exact iteF ⟨O1, σ, S1, r, S', st1, h, fun O' H' g st' => q O' H' (g1.trans g) st'⟩
theorem CW.ct (h : CW X a ta) : CT X a ta := h.pt
theorem ct_not (ha : CT X a ta) : CT X (.UnaryOp .Not a pos) (tNotM ta) := pt_imp (pt_not ha) <| by
  rintro σV H Q ⟨O, σ, S, r, S', st, h, q⟩
  obtain ⟨t, S1, h1, h⟩ := M.inv h
  cases h
  exact ⟨O, σ, S, t, _, st, h1, fun O1 H1 g1 st1 => q O1 H1 g1 st1⟩
end
end L3

set_option Elab.async false
set_option linter.all false
set_option maxRecDepth 100000
set_option maxHeartbeats 1000000
namespace L3
open PySem PySem.Spec L2
variable [L2.TabP]
/-! ### operations on ints, truths, texts, sequences -/
noncomputable def oI0 (g : Int → Int → Int) : R → R → M R
  | .v (.int i), .v (.int j) => pure (.v (.int (g i j)))
  | _, _ => bad
noncomputable def oI (C : Int → Int → Prop) [∀ i j, Decidable (C i j)] (g : Int → Int → Int) : R → R → M R
  | .v (.int i), .v (.int j) => if C i j then pure (.v (.int (g i j))) else bad
  | _, _ => bad
noncomputable def oB (g : Int → Int → Bool) : R → R → M R
  | .v (.int i), .v (.int j) => pure (.v (.bl (g i j)))
  | _, _ => bad
section
variable {K : PySem.W.Frag} {mg : Str → Option Value}
theorem bin_I0 {g : Int → Int → Int} : Bin K mg (rI0 fun i j => .int (g i j)) (oI0 g) := fun O σ S σV H x y rx ry r' S' Q st hx hy h q => by
  unfold oI0 at h
  split at h
  · rename_i i j
    cases h
    exact ⟨i, j, hx, hy, q O _ H (Go.refl _ _) st rfl trivial⟩
  · cases h
theorem bin_I {C : Int → Int → Prop} {C' : Int → Int → Prop} [∀ i j, Decidable (C' i j)] {g : Int → Int → Int} (hC : ∀ i j, C' i j → C i j) : Bin K mg (rI C fun i j => .int (g i j)) (oI C' g) := fun O σ S σV H x y rx ry r' S' Q st hx hy h q => by
  unfold oI at h
  split at h
  · rename_i i j
    by_cases c : C' i j
    · rw [if_pos c] at h
      cases h
      exact ⟨i, j, hx, hy, hC i j c, q O _ H (Go.refl _ _) st rfl trivial⟩
    · rw [if_neg c] at h; cases h
  · cases h
theorem bin_B {g : Int → Int → Bool} : Bin K mg (rI0 fun i j => .bl (g i j)) (oB g) := fun O σ S σV H x y rx ry r' S' Q st hx hy h q => by
  unfold oB at h
  split at h
  · rename_i i j
    cases h
    exact ⟨i, j, hx, hy, q O _ H (Go.refl _ _) st rfl trivial⟩
  · cases h
end
noncomputable abbrev oAdd := oI0 (· + ·)
noncomputable abbrev oSub := oI0 (· - ·)
noncomputable abbrev oMod := oI (fun _ j => 0 < j) (· % ·)
noncomputable abbrev oPow := oI (fun i j => 0 ≤ j ∧ j ≤ 1000000 ∧ i.natAbs < 2 ^ 64) (fun i j => i ^ j.toNat)
noncomputable abbrev oLt := oB fun i j => decide (i < j)
noncomputable abbrev oGt := oB fun i j => decide (j < i)
section
variable {X : Cx}
theorem bAdd : Bin X.K X.mg (rI0 fun i j => .int (i + j)) oAdd := bin_I0
theorem bSub : Bin X.K X.mg (rI0 fun i j => .int (i - j)) oSub := bin_I0
theorem bMod : Bin X.K X.mg (rI (fun _ j => 0 < j) fun i j => .int (i % j)) oMod := bin_I fun _ _ h => h
theorem bPow : Bin X.K X.mg (rI CPow fun i j => .int (i ^ j.toNat)) oPow := bin_I fun _ _ h => h
theorem bLt : Bin X.K X.mg (rI0 fun i j => .bl (decide (i < j))) oLt := bin_B
theorem bGt : Bin X.K X.mg (rI0 fun i j => .bl (decide (j < i))) oGt := bin_B
end
/-- one-place -/
noncomputable def c1 (f : R → M R) (a : ME) : ME := fun σ => do
  let x ← a σ
  f x
noncomputable def oNeg : R → M R
  | .v (.int i) => pure (.v (.int (-i)))
  | _ => bad
theorem ce_neg {X : Cx} {a : Expr} {ma : ME} {pos : Pos} (ha : CE X a ma) : CE X (.UnaryOp .USub a pos) (c1 oNeg ma) := pe_imp (pe_un un_neg ha) <| by
  rintro σV H Q ⟨O, σ, S, r, S', st, h, q⟩
  obtain ⟨x, S1, h1, h⟩ := M.inv h
  unfold oNeg at h
  split at h
  · rename_i i
    cases h
    exact ⟨O, σ, S, _, _, st, h1, fun O1 vx H1 g1 st1 rx nx => ⟨i, rx, q O1 _ H1 g1 st1 rfl trivial⟩⟩
  · cases h
/-- as a sequence: its items -/
noncomputable def R.lis : R → Option (List D)
  | .v (.lst xs) => some xs
  | .fr xs => some xs
  | .vw xs => some xs
  | .mv xs => some xs
  | _ => none
noncomputable def R.tpl : R → Option (List D)
  | .v (.tup xs) => some xs
  | _ => none
noncomputable def R.seq (r : R) : Option (List D) := r.lis <|> r.tpl
theorem R.lis_rep {K : PySem.W.Frag} {mg : Str → Option Value} {O : Ow} {H : Hp} {r : R} {v : V} {xs : List D} (h : RepR K mg O H r v) (e : r.lis = some xs) : ∃ a ys, v = .ref a ∧ SqL K H a ys ∧ RepAll K mg O H xs ys := by
  unfold R.lis at e
  split at e
  · cases e; obtain ⟨a, ys, q, l, r⟩ := h; exact ⟨a, ys, q, l.sq, r⟩
  · cases e; obtain ⟨a, ys, q, l, _, r⟩ := h; exact ⟨a, ys, q, SqL.of l, r⟩
  · cases e; obtain ⟨a, ys, q, l, r⟩ := h; exact ⟨a, ys, q, l.sq, r⟩
  · cases e; obtain ⟨a, ys, q, l, r⟩ := h; exact ⟨a, ys, q, SqL.of l, r⟩
  · cases e
theorem R.tpl_rep {K : PySem.W.Frag} {mg : Str → Option Value} {O : Ow} {H : Hp} {r : R} {v : V} {xs : List D} (h : RepR K mg O H r v) (e : r.tpl = some xs) : ∃ a ys, v = .ref a ∧ SqT K H a ys ∧ RepAll K mg O H xs ys := by
  unfold R.tpl at e
  split at e
  · cases e; exact h
  · cases e
theorem R.seq_rep {K : PySem.W.Frag} {mg : Str → Option Value} {O : Ow} {H : Hp} {r : R} {v : V} {xs : List D} (h : RepR K mg O H r v) (e : r.seq = some xs) : ∃ a ys, v = .ref a ∧ (SqL K H a ys ∨ SqT K H a ys) ∧ RepAll K mg O H xs ys := by
  unfold R.seq at e
  cases e1 : r.lis with
  | some zs => rw [e1] at e; cases e; obtain ⟨a, ys, q, l, r⟩ := R.lis_rep h e1; exact ⟨a, ys, q, .inl l, r⟩
  | none => rw [e1] at e; obtain ⟨a, ys, q, l, r⟩ := R.tpl_rep h e; exact ⟨a, ys, q, .inr l, r⟩
theorem RepAll.atI {K : PySem.W.Frag} {mg : Str → Option Value} {O : Ow} {H : Hp} {ds : List D} {xs : List V} {i : Int} {d : D} (h : RepAll K mg O H ds xs) (e : atI ds i = some d) : ∃ x, L2.atI xs i = some x ∧ Rep K mg O H d x := by
  unfold L2.atI at e ⊢
  rw [h.len]
  cases q : ixN ds.length i with
  | none => rw [q] at e; cases e
  | some j => rw [q] at e; exact h.get e
/-- a[i] -/
noncomputable def oIx : R → R → M R
  | .v (.str z), .v (.int i) => match atI z.cps.toList i with
    | some c => if z.length ≤ sizeLine then pure (.v (.str ⟨#[c]⟩)) else bad
    | none => bad
  | x, .v (.int i) => match x.seq with
    | some xs => match atI xs i with
      | some d => pure (.v d)
      | none => bad
    | none => bad
  | _, _ => bad
theorem bIx {K : PySem.W.Frag} {mg : Str → Option Value} : Bin K mg (rIx K) oIx := fun O σ S σV H x y rx ry r' S' Q st hx hy h q => by
  unfold oIx at h
  split at h
  · rename_i z i
    split at h
    · rename_i c e2
      by_cases hz : z.length ≤ sizeLine
      · rw [if_pos hz] at h
        cases h
        exact .inr (.inr ⟨z, i, c, hx, hy, hz, e2, q O _ H (Go.refl _ _) st rfl trivial⟩)
      · rw [if_neg hz] at h; cases h
    · cases h
  · rename_i i _
    split at h
    · rename_i xs e
      split at h
      · rename_i d e2
        cases h
        obtain ⟨a, ys, rfl, l, ra⟩ := R.seq_rep hx e
        obtain ⟨z, e3, rz⟩ := RepAll.atI ra e2
        have hQ := q O z H (Go.refl _ _) st rz trivial
        rcases l with l | l
        · exact .inl ⟨a, ys, i, z, rfl, hy, l, e3, hQ⟩
        · exact .inr (.inl ⟨a, ys, i, z, rfl, hy, l, e3, hQ⟩)
      · cases h
    · cases h
  · cases h
/-! ### lists of expressions, displays -/
noncomputable def cNil : MA := fun _ => pure []
noncomputable def cCons (m : ME) (ms : MA) : MA := fun σ => do
  let x ← m σ
  let xs ← ms σ
  pure (x :: xs)
section
variable {X : Cx} {e : Expr} {es : List Expr} {m : ME} {ms : MA} {pos : Pos}
theorem ca_nil : CA X [] cNil := pa_imp pa_nil <| by
  rintro σV H Q ⟨O, σ, S, r, S', st, h, q⟩
  cases h
  exact q O [] H (Go.refl _ _) st rfl trivial
theorem ca_cons (ha : CE X e m) (hr : CA X es ms) (hs : starEach (e :: es) X.env = (false, eval e X.env) :: starEach es X.env := by rfl) : CA X (e :: es) (cCons m ms) := pa_imp (pa_cons ha hr hs) <| by
  rintro σV H Q ⟨O, σ, S, r, S', st, h, q⟩
  obtain ⟨x, S1, h1, h⟩ := M.inv h
  obtain ⟨xs, S2, h2, h⟩ := M.inv h
  cases h
  refine ⟨O, σ, S, x, S1, st, h1, fun O1 vx H1 g1 st1 rx nx => ?_⟩
  refine ⟨O1, σ, S1, xs, _, st1, h2, fun O2 vs H2 g2 st2 rs ns => ?_⟩
  exact q O2 (vx :: vs) H2 (g1.trans g2) st2 ⟨vx, vs, rfl, rx.go g2, rs⟩ ⟨nx, ns.back g1.same⟩
end
/-- as a datum (a new list: from now on nobody changes it) -/
noncomputable def R.dat : R → M D
  | .v d => pure d
  | .fr xs => pure (.lst xs)
  | _ => bad
noncomputable def dats : List R → M (List D)
  | [] => pure []
  | r :: rs => do
    let d ← r.dat
    let ds ← dats rs
    pure (d :: ds)
/-- what is new since H₀ and nobody's is free from now on -/
noncomputable def frz (H₀ : Hp) (O : Ow) : Ow := fun b => match H₀ b, O b with
  | none, .tmp => .free
  | _, o => o
theorem frz_old {H₀ : Hp} {O : Ow} {b : Addr} (h : H₀ b ≠ none) : frz H₀ O b = O b := by
  unfold frz
  cases e : H₀ b with
  | none => exact absurd e h
  | some o => cases O b <;> rfl
theorem frz_tmp {H₀ : Hp} {O : Ow} {b : Addr} (h : H₀ b = none) (t : O b = .tmp) : frz H₀ O b = .free := by unfold frz; rw [h, t]
theorem frz_not {H₀ : Hp} {O : Ow} {b : Addr} (t : O b ≠ .tmp) : frz H₀ O b = O b := by
  unfold frz
  cases e : H₀ b <;> cases e2 : O b <;> first | rfl | exact absurd e2 t
theorem frz_fre (H₀ : Hp) (O : Ow) : Fre O (frz H₀ O) := ⟨fun a h => by rw [frz_not (by rw [h]; intro z; cases z), h]⟩
theorem SlotR.fre {K : PySem.W.Frag} {mg : Str → Option Value} {O O' : Ow} {H : Hp} {w : Own} (g : Fre O O') (ho : ∀ a, O a = .out → O' a = .out) (hw : ∀ a, O a = w → O' a = w) (ht : ∀ a p, O a = w.at p → O' a = w.at p) : ∀ {s : Slot} {u : Option V}, SlotR K mg O H w s u → SlotR K mg O' H w s u
  | .emp, _, _ => trivial
  | .val _, _, h => by obtain ⟨v, q, r⟩ := h; exact ⟨v, q, r.fre g⟩
  | .ow _ _, _, h => by obtain ⟨a, ys, q, o, l, r⟩ := h; exact ⟨a, ys, q, hw a o, l, r.fre g⟩
  | .vw _, _, h => by
    obtain ⟨a, ys, q, l, r⟩ := h
    refine ⟨a, ys, q, l.imp (fun z => ⟨z.1, z.2.imp (g.fr a) (ho a)⟩) id, r.fre g⟩
  | .dct _, _, h => by obtain ⟨a, ys, q, o, l, r⟩ := h; exact ⟨a, ys, q, hw a o, l, r.fre g⟩
  | .vd _, _, h => by obtain ⟨a, ys, q, l, r⟩ := h; exact ⟨a, ys, q, ⟨l.1, l.2.imp (g.fr a) (ho a)⟩, r.fre g⟩
  | .pd _, _, h => by obtain ⟨a, ys, q, o, l, r⟩ := h; exact ⟨a, ys, q, hw a o, l, r.1, r.2.fre g⟩
  | .vp _, _, h => by obtain ⟨a, ys, q, l, r⟩ := h; exact ⟨a, ys, q, ⟨l.1, l.2.imp (g.fr a) (ho a)⟩, r.1, r.2.fre g⟩
  | .tr m _, _, h => by
    obtain ⟨v, q, r⟩ := h
    refine ⟨v, q, r.all (fun _ _ z => Rep.fre g z) fun a _ p o l _ => ⟨?_, l⟩⟩
    cases m with
    | view => exact ho a o
    | own => exact ht a p o
    | par => exact ht a p o
section
variable {K : PySem.W.Frag} {mg : Str → Option Value} {O : Ow} {σ : En} {S : Store} {σV : St} {H H₀ : Hp}
theorem S3.frz (h : S3 K mg O σ S σV H) (H₀ : Hp) : S3 K mg (frz H₀ O) σ S σV H :=
  ⟨⟨fun a ha => h.dom.has a fun z => ha (by rw [frz_not (by rw [z]; intro w; cases w), z]), h.dom.tabs⟩, h.len,
   fun i s e => (h.loc i s e).fre (frz_fre _ _) (fun a z => by rw [frz_not (by rw [z]; intro w; cases w), z]) (fun a z => by rw [frz_not (by rw [z]; intro w; cases w), z]) (fun a p z => by rw [frz_not (by rw [z]; intro w; cases w), z]), h.emp⟩
theorem Go.frz {O₀ : Ow} (g : Go O₀ O H₀ H) : Go O₀ (frz H₀ O) H₀ H := ⟨g.same, fun b hb => (frz_old hb).trans (g.own b hb)⟩
theorem dat_rep {r : R} {v : V} {d : D} {S' : Store} (hr : RepR K mg O H r v) (hn : NewR H₀ r v) (h : r.dat.run S = .ok d S') : Rep K mg (L3.frz H₀ O) H d v ∧ S = S' := by
  cases r with
  | v d' => cases h; exact ⟨Rep.fre (frz_fre _ _) hr, rfl⟩
  | fr xs =>
    cases h
    obtain ⟨a, ys, rfl, l, t, ra⟩ := hr
    exact ⟨⟨a, ys, rfl, ⟨l, frz_tmp (hn a rfl) t⟩, RepAll.fre (frz_fre _ _) ra⟩, rfl⟩
  | vw xs => cases h
  | mv xs => cases h
  | dv _ => cases h
theorem dats_rep : ∀ {rs : List R} {vs : List V} {ds : List D} {S S' : Store}, RepRs K mg O H rs vs → NewRs H₀ rs vs → (dats rs).run S = .ok ds S' → RepAll K mg (L3.frz H₀ O) H ds vs ∧ S = S'
  | [], vs, ds, S, S', hr, _, h => by cases h; exact ⟨hr, rfl⟩
  | r :: rs, vs, ds, S, S', hr, hn, h => by
    obtain ⟨d, S1, h1, h⟩ := M.inv h
    obtain ⟨ds', S2, h2, h⟩ := M.inv h
    cases h
    obtain ⟨v, vr, rfl, r1, r2⟩ := hr
    obtain ⟨q1, rfl⟩ := dat_rep (H₀ := H₀) r1 hn.1 h1
    obtain ⟨q2, rfl⟩ := dats_rep r2 hn.2 h2
    exact ⟨⟨v, vr, rfl, q1, q2⟩, rfl⟩
end
noncomputable def cTup (ms : MA) : ME := fun σ => do
  let rs ← ms σ
  let ds ← dats rs
  chk (ds.length ≤ 1000)
  pure (.v (.tup ds))
noncomputable def cLst (ms : MA) : ME := fun σ => do
  let rs ← ms σ
  let ds ← dats rs
  chk (ds.length ≤ 1000)
  pure (.fr ds)
section
variable {X : Cx} {e : Expr} {es : List Expr} {m : ME} {ms : MA} {pos : Pos}
theorem ce_tup {x1} (h : CA X es ms) : CE X (.Tuple es x1 pos) (cTup ms) := pe_imp (pe_tup h) <| by
  rintro σV H Q ⟨O, σ, S, r, S', st, h, q⟩
  obtain ⟨rs, S1, h1, h⟩ := M.inv h
  obtain ⟨ds, S2, h2, h⟩ := M.inv h
  obtain ⟨_, S3', h3, h⟩ := M.inv h
  obtain ⟨hl, rfl⟩ := chk_inv h3
  cases h
  refine ⟨O, σ, S, rs, S1, st, h1, fun O1 vs H1 g1 st1 rr nn => ?_⟩
  obtain ⟨ra, rfl⟩ := dats_rep (H₀ := H) rr nn h2
  refine ⟨Nat.le_of_lt (small1000 (by rw [ra.len]; exact hl)), fun p hp => ?_⟩
  exact q (frz H O1) _ _ (g1.frz.trans (Go.new0 hp)) ((st1.frz H).new0 hp) ⟨p, vs, rfl, SqT.of upd_same, ra.go (Go.new0 hp)⟩ trivial
theorem ce_lst (h : CA X es ms) : CE X (.List es pos) (cLst ms) := pe_imp (pe_lst h) <| by
  rintro σV H Q ⟨O, σ, S, r, S', st, h, q⟩
  obtain ⟨rs, S1, h1, h⟩ := M.inv h
  obtain ⟨ds, S2, h2, h⟩ := M.inv h
  obtain ⟨_, S3', h3, h⟩ := M.inv h
  obtain ⟨hl, rfl⟩ := chk_inv h3
  cases h
  refine ⟨O, σ, S, rs, S1, st, h1, fun O1 vs H1 g1 st1 rr nn => ?_⟩
  obtain ⟨ra, rfl⟩ := dats_rep (H₀ := H) rr nn h2
  refine ⟨Nat.le_of_lt (small1000 (by rw [ra.len]; exact hl)), fun p hp => ?_⟩
  refine q (updO (frz H O1) p .tmp) _ _ (g1.frz.trans (Go.new hp)) ((st1.frz H).new hp) ⟨p, vs, rfl, upd_same, updO_same, ra.go (Go.new hp)⟩ fun a ea => ?_
  cases ea
  exact g1.same.free hp
end
/-! ### calls of built-in functions and kinds -/
noncomputable def cB (f : List R → M R) (ms : MA) : ME := fun σ => do
  let rs ← ms σ
  f rs
noncomputable def BinC (K : PySem.W.Frag) (mg : Str → Option Value) (r : List V → Hp → VK → Prop) (f : List R → M R) : Prop :=
  ∀ O σ S σV H xs rs r' S' (Q : VK), S3 K mg O σ S σV H → RepRs K mg O H rs xs → (f rs).run S = .ok r' S' → PoE K mg O σ S' σV H r' Q → r xs H Q
section
variable {X : Cx} {e : Expr} {es : List Expr} {ms : MA} {pos p : Pos} {x : Str} {id T : String} {r : List V → Hp → VK → Prop} {f : List R → M R}
theorem cB_read {K : PySem.W.Frag} {mg : Str → Option Value} (hf : BinC K mg r f) : ∀ σV H Q, teOf K mg (cB f ms) σV H Q → tCB r (taOf K mg ms) σV H Q := by
  rintro σV H Q ⟨O, σ, S, r', S', st, h, q⟩
  obtain ⟨rs, S1, h1, h⟩ := M.inv h
  refine ⟨O, σ, S, rs, S1, st, h1, fun O1 vs H1 g1 st1 rr nn => ?_⟩
  exact hf O1 σ S1 σV H1 vs rs r' S' Q st1 rr h fun O' v H' g st' rr' nn' => q O' v H' (g1.trans g) st' rr' (nn'.back g1.same)
theorem ce_callB (hc : CallR X (.builtin id) r) (hf : BinC X.K X.mg r f) (hg : Gl X x) (hm : X.mg x = none) (hv : bootBuiltins x = some (.builtin id)) (ha : CA X (e :: es) ms) (hn : x ≠ "__name__" := by decide) (hdb : (x == ("__debug__" : Str)) = false := by decide)
    (he : starEach (e :: es) X.env = (false, eval e X.env) :: starEach es X.env := by rfl) (hpl : (backTo pos (starEach es X.env)).any (·.1) = false := by rfl) : CE X (.Call (.Name x p) (e :: es) [] pos) (cB f ms) :=
  pe_imp (pe_callB hc hg hm hv ha hn hdb he hpl) (cB_read hf)
theorem ce_callTy (hc : CallR X (.type T) r) (hf : BinC X.K X.mg r f) (hg : Gl X x) (hm : X.mg x = none) (hv : bootBuiltins x = some (.type T)) (ha : CA X (e :: es) ms) (hn : x ≠ "__name__" := by decide) (hdb : (x == ("__debug__" : Str)) = false := by decide)
    (he : starEach (e :: es) X.env = (false, eval e X.env) :: starEach es X.env := by rfl) (hpl : (backTo pos (starEach es X.env)).any (·.1) = false := by rfl) : CE X (.Call (.Name x p) (e :: es) [] pos) (cB f ms) :=
  pe_imp (pe_callTy hc hg hm hv ha hn hdb he hpl) (cB_read hf)
end
noncomputable def fLen : List R → M R
  | [x] => match x.seq with
    | some xs => pure (.v (.int (xs.length : Nat)))
    | none => bad
  | _ => bad
noncomputable def fLenS : List R → M R
  | [.v (.str z)] => if z.length ≤ sizeLine then pure (.v (.int (z.length : Nat))) else bad
  | _ => bad
noncomputable def R.kind : R → Option String
  | .v .non => some "NoneType"
  | .v (.bl _) => some "bool"
  | .v (.int _) => some "int"
  | .v (.str _) => some "str"
  | .v (.tup _) => some "tuple"
  | .v (.lst _) => some "list"
  | .fr _ => some "list"
  | .vw _ => some "list"
  | .mv _ => some "list"
  | _ => none
noncomputable def fIsi : List R → M R
  | [x, .v (.ty n)] => match x.kind with
    | some t => if n ∈ ["int", "bool", "tuple", "list", "str"] then pure (.v (.bl (isiB t n))) else bad
    | none => bad
  | _ => bad
noncomputable def f2I (g : Int → Int → Int) : List R → M R
  | [.v (.int i), .v (.int j)] => pure (.v (.int (g i j)))
  | _ => bad
noncomputable abbrev fMax2 := f2I fun i j => if j > i then j else i
noncomputable abbrev fMin2 := f2I fun i j => if j < i then j else i
noncomputable def fAbs : List R → M R
  | [.v (.int i)] => pure (.v (.int (if i < 0 then -i else i)))
  | _ => bad
noncomputable def bls : List D → Option (List Bool)
  | [] => some []
  | .bl b :: r => (bls r).map (b :: ·)
  | _ => none
noncomputable def fAny : List R → M R
  | [x] => match x.lis.bind bls with
    | some bs => pure (.v (.bl (bs.any id)))
    | none => bad
  | _ => bad
noncomputable def fAll : List R → M R
  | [x] => match x.lis.bind bls with
    | some bs => pure (.v (.bl (bs.all id)))
    | none => bad
  | _ => bad
noncomputable def fInt : List R → M R
  | [.v (.int i)] => pure (.v (.int i))
  | [.v (.bl b)] => pure (.v (.int (if b then 1 else 0)))
  | _ => bad
noncomputable def fList : List R → M R
  | [x] => match x.seq with
    | some xs => pure (.fr xs)
    | none => bad
  | _ => bad
noncomputable def fTuple : List R → M R
  | [x] => match x.seq with
    | some xs => pure (.v (.tup xs))
    | none => bad
  | _ => bad
section
variable {K : PySem.W.Frag} {mg : Str → Option Value}
theorem reps1 {O : Ow} {H : Hp} {r : R} {vs : List V} (h : RepRs K mg O H [r] vs) : ∃ v, vs = [v] ∧ RepR K mg O H r v := by
  obtain ⟨v, r', rfl, a, b⟩ := h; cases b; exact ⟨v, rfl, a⟩
theorem reps2 {O : Ow} {H : Hp} {r s : R} {vs : List V} (h : RepRs K mg O H [r, s] vs) : ∃ v u, vs = [v, u] ∧ RepR K mg O H r v ∧ RepR K mg O H s u := by
  obtain ⟨v, r', rfl, a, b⟩ := h
  obtain ⟨u, r'', rfl, c, d⟩ := b
  cases d; exact ⟨v, u, rfl, a, c⟩
theorem kLen : BinC K mg (fun xs H Q => ∃ p ys, xs = [.ref p] ∧ (SqL K H p ys ∨ SqT K H p ys) ∧ Q (.int ys.length) H) fLen := fun O σ S σV H vs rs r' S' Q st hr h q => by
  unfold fLen at h
  split at h
  · rename_i x
    obtain ⟨v, rfl, hx⟩ := reps1 hr
    split at h
    · rename_i xs e
      cases h
      obtain ⟨a, ys, rfl, l, ra⟩ := R.seq_rep hx e
      exact ⟨a, ys, rfl, l, by rw [ra.len]; exact q O _ H (Go.refl _ _) st rfl trivial⟩
    · cases h
  · cases h
theorem R.kind_rep {O : Ow} {H : Hp} {r : R} {v : V} {t : String} (h : RepR K mg O H r v) (e : r.kind = some t) : TyW K H v t := by
  unfold R.kind at e
  split at e
  · cases e; cases h; exact .non
  · cases e; cases h; exact .bl _
  · cases e; cases h; exact .int _
  · cases e; cases h; exact .str _
  · cases e; obtain ⟨a, ys, rfl, l, _⟩ := h; exact .tup l
  · cases e; obtain ⟨a, ys, rfl, l, _⟩ := h; exact .lst l.sq
  · cases e; obtain ⟨a, ys, rfl, l, _⟩ := h; exact .lst (SqL.of l)
  · cases e; obtain ⟨a, ys, rfl, l, _⟩ := h; exact .lst l.sq
  · cases e; obtain ⟨a, ys, rfl, l, _⟩ := h; exact .lst (SqL.of l)
  · cases e
theorem kIsi : BinC K mg (rIsi K) fIsi := fun O σ S σV H vs rs r' S' Q st hr h q => by
  unfold fIsi at h
  split at h
  · rename_i x n
    obtain ⟨v, u, rfl, hx, hy⟩ := reps2 hr
    cases (show u = .ty n from hy)
    split at h
    · rename_i t e
      by_cases hn : n ∈ ["int", "bool", "tuple", "list", "str"]
      · rw [if_pos hn] at h
        cases h
        exact ⟨v, n, t, rfl, R.kind_rep hx e, hn, q O _ H (Go.refl _ _) st rfl trivial⟩
      · rw [if_neg hn] at h; cases h
    · cases h
  · cases h
theorem k2I {g : Int → Int → Int} : BinC K mg (fun xs H Q => ∃ i j, xs = [.int i, .int j] ∧ Q (.int (g i j)) H) (f2I g) := fun O σ S σV H vs rs r' S' Q st hr h q => by
  unfold f2I at h
  split at h
  · rename_i i j
    obtain ⟨v, u, rfl, hx, hy⟩ := reps2 hr
    cases (show v = .int i from hx)
    cases (show u = .int j from hy)
    cases h
    exact ⟨i, j, rfl, q O _ H (Go.refl _ _) st rfl trivial⟩
  · cases h
theorem kInt : BinC K mg (fun xs H Q => (∃ i, xs = [.int i] ∧ Q (.int i) H) ∨ ∃ k, xs = [.bl k] ∧ Q (.int (if k then 1 else 0)) H) fInt := fun O σ S σV H vs rs r' S' Q st hr h q => by
  unfold fInt at h
  split at h
  · rename_i i
    obtain ⟨v, rfl, hx⟩ := reps1 hr
    cases (show v = .int i from hx)
    cases h
    exact .inl ⟨i, rfl, q O _ H (Go.refl _ _) st rfl trivial⟩
  · rename_i b
    obtain ⟨v, rfl, hx⟩ := reps1 hr
    cases (show v = .bl b from hx)
    cases h
    exact .inr ⟨b, rfl, q O _ H (Go.refl _ _) st rfl trivial⟩
  · cases h
end
end L3

set_option Elab.async false
set_option linter.all false
set_option maxRecDepth 100000
set_option maxHeartbeats 1000000
namespace L3
open PySem PySem.Spec L2
variable [L2.TabP]
/-! ### slices -/
noncomputable def cutD {α : Type} (xs : List α) (lo hi : Option Int) : List α := (xs.drop (HT.sIx xs.length 0 lo)).take (HT.sIx xs.length xs.length hi - HT.sIx xs.length 0 lo)
theorem RepAll.cut {K : PySem.W.Frag} {mg : Str → Option Value} {O : Ow} {H : Hp} {ds : List D} {xs : List V} (h : RepAll K mg O H ds xs) (lo hi : Option Int) : RepAll K mg O H (cutD ds lo hi) (cutV xs lo hi) := by
  unfold cutD cutV
  rw [h.len]
  exact (h.drop _).take _
noncomputable abbrev MO := En → M (Option Int)
noncomputable def toOf (K : PySem.W.Frag) (mg : Str → Option Value) (m : MO) : TO := fun σV H Q => ∃ O σ S b S', S3 K mg O σ S σV H ∧ (m σ).run S = .ok b S' ∧ ∀ O' H', Go O O' H H' → S3 K mg O' σ S' σV H' → Q b H'
noncomputable abbrev CO (X : Cx) (e : Option Expr) (m : MO) : Prop := PO X e (toOf X.K X.mg m)
noncomputable def cNoPart : MO := fun _ => pure none
noncomputable def cPart (m : ME) : MO := fun σ => do
  let r ← m σ
  match r with
  | .v (.int i) => pure (some i)
  | _ => bad
noncomputable def oSl (x : R) (lo hi : Option Int) : M R :=
  match x with
  | .v (.tup xs) => if HT.sIx xs.length 0 lo = 0 ∧ HT.sIx xs.length xs.length hi = xs.length then bad else pure (.v (.tup (cutD xs lo hi)))
  | _ => match x.lis with
    | some xs => pure (.fr (cutD xs lo hi))
    | none => bad
noncomputable def cSl (a : ME) (lo hi : MO) : ME := fun σ => do
  let x ← a σ
  let l ← lo σ
  let h ← hi σ
  oSl x l h
section
variable {X : Cx} {e : Expr} {m : ME} {lo hi : Option Expr} {ml mh : MO} {pos p2 : Pos}
theorem co_none : CO X none cNoPart := by
  rintro pins s σV H Q I ⟨O, σ, S, r, S', st, h, q⟩
  cases h
  exact po_none pins s σV H Q I (q O H (Go.refl _ _) st)
theorem co_some (he : CE X e m) : CO X (some e) (cPart m) := by
  rintro pins s σV H Q I ⟨O, σ, S, r, S', st, h, q⟩
  obtain ⟨x, S1, h1, h⟩ := M.inv h
  split at h
  · rename_i i
    cases h
    exact po_some he pins s σV H Q I ⟨O, σ, S, _, _, st, h1, fun O1 v H1 g1 st1 rr _ => ⟨i, rr, q O1 H1 g1 st1⟩⟩
  · cases h
theorem ce_slice (he : CE X e m) (hl : CO X lo ml) (hu : CO X hi mh) : CE X (.Subscript e (.Slice lo hi none p2) pos) (cSl m ml mh) := pe_imp (pe_slice (sl_list.or sl_tup) he hl hu) <| by
  rintro σV H Q ⟨O, σ, S, r, S', st, h, q⟩
  obtain ⟨x, S1, h1, ha⟩ := M.inv h
  clear h
  obtain ⟨l, S2, h2, hb⟩ := M.inv ha
  clear ha
  obtain ⟨u, S3', h3, h⟩ := M.inv hb
  clear hb
  refine ⟨O, σ, S, x, S1, st, h1, fun O1 vx H1 g1 st1 rx nx => ?_⟩
  refine ⟨O1, σ, S1, l, S2, st1, h2, fun O2 H2 g2 st2 => ?_⟩
  refine ⟨O2, σ, S2, u, S3', st2, h3, fun O3 H3 g3 st3 => ?_⟩
  have g := (g1.trans g2).trans g3
  have rx3 := rx.go (g2.trans g3)
  unfold oSl at h
  split at h
  · rename_i xs
    by_cases c : HT.sIx xs.length 0 l = 0 ∧ HT.sIx xs.length xs.length u = xs.length
    · rw [if_pos c] at h; cases h
    · rw [if_neg c] at h
      cases h
      obtain ⟨a, ys, rfl, l1, ra⟩ := rx3
      exact .inr ⟨a, ys, rfl, l1, by rw [ra.len]; exact c, fun p hp => q O3 _ _ (g.trans (Go.new0 hp)) (st3.new0 hp) ⟨p, _, rfl, SqT.of upd_same, (ra.cut l u).go (Go.new0 hp)⟩ trivial⟩
  · split at h
    · rename_i xs e1
      cases h
      obtain ⟨a, ys, rfl, l1, ra⟩ := R.lis_rep rx3 e1
      refine .inl ⟨a, ys, rfl, l1, fun p hp => q (updO O3 p .tmp) _ _ (g.trans (Go.new hp)) (st3.new hp) ⟨p, _, rfl, upd_same, updO_same, (ra.cut l u).go (Go.new hp)⟩ fun b eb => ?_⟩
      cases eb
      exact g.same.free hp
    · cases h
end
/-! ### + of lists, tuples, texts -/
noncomputable def R.own : R → Option (List D)
  | .v (.lst xs) => some xs
  | .fr xs => some xs
  | .mv xs => some xs
  | _ => none
noncomputable def oCatL (x y : R) : M R := match x.own, y.own with
  | some xs, some ys => if xs.length + ys.length ≤ sizeLine then pure (.fr (xs ++ ys)) else bad
  | _, _ => bad
noncomputable def oCatT : R → R → M R
  | .v (.tup xs), .v (.tup ys) => if xs.length + ys.length ≤ sizeLine then pure (.v (.tup (xs ++ ys))) else bad
  | _, _ => bad
noncomputable def oCatS : R → R → M R
  | .v (.str x), .v (.str y) => if x.length + y.length ≤ sizeLine then pure (.v (.str (x ++ y))) else bad
  | _, _ => bad
theorem R.own_rep {K : PySem.W.Frag} {mg : Str → Option Value} {O : Ow} {H : Hp} {r : R} {v : V} {xs : List D} (h : RepR K mg O H r v) (e : r.own = some xs) : ∃ a ys, v = .ref a ∧ H a = some (.lst ys) ∧ RepAll K mg O H xs ys := by
  unfold R.own at e
  split at e
  · cases e; obtain ⟨a, ys, q, l, r⟩ := h; exact ⟨a, ys, q, l.1, r⟩
  · cases e; obtain ⟨a, ys, q, l, _, r⟩ := h; exact ⟨a, ys, q, l, r⟩
  · cases e; obtain ⟨a, ys, q, l, r⟩ := h; exact ⟨a, ys, q, l, r⟩
  · cases e
section
variable {K : PySem.W.Frag} {mg : Str → Option Value}
theorem bCatL : Bin K mg rCat oCatL := fun O σ S σV H x y rx ry r' S' Q st hx hy h q => by
  unfold oCatL at h
  cases e1 : rx.own with
  | none => rw [e1] at h; cases h
  | some xs =>
    cases e2 : ry.own with
    | none => rw [e1, e2] at h; cases h
    | some ys =>
      rw [e1, e2] at h
      dsimp only at h
      by_cases hl : xs.length + ys.length ≤ sizeLine
      · rw [if_pos hl] at h
        cases h
        obtain ⟨a, us, rfl, l1, r1⟩ := R.own_rep hx e1
        obtain ⟨b, ws, rfl, l2, r2⟩ := R.own_rep hy e2
        refine ⟨a, b, us, ws, rfl, rfl, l1, l2, by rw [r1.len, r2.len]; exact hl, fun p hp => q (updO O p .tmp) _ _ (Go.new hp) (st.new hp) ⟨p, _, rfl, upd_same, updO_same, (r1.append r2).go (Go.new hp)⟩ fun b eb => ?_⟩
        cases eb
        exact hp
      · rw [if_neg hl] at h; cases h
theorem bCatT : Bin K mg (rCatD K) oCatT := fun O σ S σV H x y rx ry r' S' Q st hx hy h q => by
  unfold oCatT at h
  split at h
  · rename_i xs ys
    by_cases hl : xs.length + ys.length ≤ sizeLine
    · rw [if_pos hl] at h
      cases h
      obtain ⟨a, us, rfl, l1, r1⟩ := hx
      obtain ⟨b, ws, rfl, l2, r2⟩ := hy
      refine ⟨a, b, us, ws, rfl, rfl, l1, l2, by rw [r1.len, r2.len]; exact hl, fun t H' s l => ?_⟩
      have g : Go O O H H' := ⟨s, fun _ _ => rfl⟩
      exact q O _ H' g (st.go g (st.dom.same s)) ⟨t, _, rfl, l, (r1.append r2).go g⟩ trivial
    · rw [if_neg hl] at h; cases h
  · cases h
end
/-! ### == -/
noncomputable def D.py : D → PyData
  | .non => .none
  | .bl b => .bool b
  | .int i => .int i
  | .str x => .str x
  | .tup xs => .tuple (pys xs)
  | .lst xs => .list (pys xs)
  | .dic _ _ => .none
  | .fn _ => .none
  | .ty _ => .none
where pys : List D → List PyData
  | [] => []
  | x :: xs => x.py :: pys xs
mutual
/-- what may be compared: no objects, at most n deep -/
noncomputable def D.gd : D → Nat → Bool
  | .non, _ => true
  | .bl _, _ => true
  | .int _, _ => true
  | .str x, _ => PySem.PyData.strOk x
  | .tup xs, n => match n with
    | 0 => false
    | k + 1 => gdAll xs k
  | .lst xs, n => match n with
    | 0 => false
    | k + 1 => gdAll xs k
  | .dic _ _, _ => false
  | .fn _, _ => false
  | .ty _, _ => false
noncomputable def gdAll : List D → Nat → Bool
  | [], _ => true
  | x :: xs, n => x.gd n && gdAll xs n
end
mutual
noncomputable def peq : D → D → Bool
  | .non, b => match b with | .non => true | _ => false
  | .bl a, b => match b with | .bl c => a == c | .int j => (if a then 1 else 0) == j | _ => false
  | .int i, b => match b with | .bl c => i == (if c then 1 else 0) | .int j => i == j | _ => false
  | .str x, b => match b with | .str y => x == y | _ => false
  | .tup xs, b => match b with | .tup ys => peqAll xs ys | _ => false
  | .lst xs, b => match b with | .lst ys => peqAll xs ys | _ => false
  | .dic _ _, _ => false
  | .fn _, _ => false
  | .ty _, _ => false
noncomputable def peqAll : List D → List D → Bool
  | [], ys => match ys with | [] => true | _ => false
  | x :: xs, ys => match ys with | [] => false | y :: r => peq x y && peqAll xs r
end
mutual
theorem eqv_py : ∀ (a b : D) (n m : Nat), a.gd n = true → b.gd m = true → PyData.eqv a.py b.py = peq a b
  | .non, b, n, m, ha, hb => by cases b <;> first | rfl | (simp [D.gd] at hb)
  | .bl _, b, n, m, ha, hb => by cases b <;> first | rfl | (simp [D.gd] at hb)
  | .int _, b, n, m, ha, hb => by cases b <;> first | rfl | (simp [D.gd] at hb)
  | .str _, b, n, m, ha, hb => by cases b <;> first | rfl | (simp [D.gd] at hb)
  | .tup xs, b, n, m, ha, hb => by
    cases b with
    | tup ys =>
      cases n with
      | zero => simp [D.gd] at ha
      | succ k =>
        cases m with
        | zero => simp [D.gd] at hb
        | succ j => exact eqv_pys xs ys k j ha hb
    | dic _ _ => simp [D.gd] at hb
    | fn _ => simp [D.gd] at hb
    | ty _ => simp [D.gd] at hb
    | _ => rfl
  | .lst xs, b, n, m, ha, hb => by
    cases b with
    | lst ys =>
      cases n with
      | zero => simp [D.gd] at ha
      | succ k =>
        cases m with
        | zero => simp [D.gd] at hb
        | succ j => exact eqv_pys xs ys k j ha hb
    | dic _ _ => simp [D.gd] at hb
    | fn _ => simp [D.gd] at hb
    | ty _ => simp [D.gd] at hb
    | _ => rfl
  | .dic _ _, b, n, m, ha, hb => by simp [D.gd] at ha
  | .fn _, b, n, m, ha, hb => by simp [D.gd] at ha
  | .ty _, b, n, m, ha, hb => by simp [D.gd] at ha
theorem eqv_pys : ∀ (xs ys : List D) (n m : Nat), gdAll xs n = true → gdAll ys m = true → PyData.eqvAll (D.py.pys xs) (D.py.pys ys) = peqAll xs ys
  | [], ys, n, m, ha, hb => by cases ys <;> rfl
  | x :: xs, ys, n, m, ha, hb => by
    cases ys with
    | nil => rfl
    | cons y r =>
      rw [gdAll, Bool.and_eq_true] at ha hb
      show (PyData.eqv x.py y.py && PyData.eqvAll (D.py.pys xs) (D.py.pys r)) = (peq x y && peqAll xs r)
      rw [eqv_py x y n m ha.1 hb.1, eqv_pys xs r n m ha.2 hb.2]
end
mutual
theorem gd_lay : ∀ (a : D) (n : Nat), a.gd n = true → a.py.canLay0 = true ∧ a.py.depth ≤ n
  | .non, n, h => ⟨rfl, Nat.zero_le _⟩
  | .bl _, n, h => ⟨rfl, Nat.zero_le _⟩
  | .int _, n, h => ⟨rfl, Nat.zero_le _⟩
  | .str _, n, h => ⟨h, Nat.zero_le _⟩
  | .tup xs, n, h => by
    cases n with
    | zero => simp [D.gd] at h
    | succ k => obtain ⟨q1, q2⟩ := gd_lays xs k h; exact ⟨q1, Nat.succ_le_succ q2⟩
  | .lst xs, n, h => by
    cases n with
    | zero => simp [D.gd] at h
    | succ k => obtain ⟨q1, q2⟩ := gd_lays xs k h; exact ⟨q1, Nat.succ_le_succ q2⟩
  | .dic _ _, n, h => by simp [D.gd] at h
  | .fn _, n, h => by simp [D.gd] at h
  | .ty _, n, h => by simp [D.gd] at h
theorem gd_lays : ∀ (xs : List D) (n : Nat), gdAll xs n = true → PyData.canLayAll0 (D.py.pys xs) = true ∧ PyData.depthAll (D.py.pys xs) ≤ n
  | [], n, h => ⟨rfl, Nat.zero_le _⟩
  | x :: xs, n, h => by
    rw [gdAll, Bool.and_eq_true] at h
    obtain ⟨a1, a2⟩ := gd_lay x n h.1
    obtain ⟨b1, b2⟩ := gd_lays xs n h.2
    exact ⟨by show (x.py.canLay0 && PyData.canLayAll0 (D.py.pys xs)) = true; rw [a1, b1]; rfl, by show max x.py.depth (PyData.depthAll (D.py.pys xs)) ≤ n; omega⟩
end
theorem gd_shaped {a : D} (h : a.gd 64 = true) : SeqAt.shaped a.py = true := by
  obtain ⟨h1, h2⟩ := gd_lay a 64 h
  show (a.py.canLay0 && decide (a.py.depth ≤ 64)) = true
  rw [h1, decide_eq_true h2]; rfl
mutual
theorem Rep.py {K : PySem.W.Frag} {mg : Str → Option Value} {O : Ow} {H : Hp} : ∀ {d : D} {v : V} {n : Nat}, d.gd n = true → Rep K mg O H d v → L2.Rep K H d.py v
  | .non, _, _, _, h => h
  | .bl _, _, _, _, h => h
  | .int _, _, _, _, h => h
  | .str _, _, _, _, h => h
  | .tup _, _, n, g, h => by
    cases n with
    | zero => simp [D.gd] at g
    | succ k => obtain ⟨a, ys, q, l, r⟩ := h; exact ⟨a, ys, q, l, RepAll.py (n := k) g r⟩
  | .lst _, _, n, g, h => by
    cases n with
    | zero => simp [D.gd] at g
    | succ k => obtain ⟨a, ys, q, l, r⟩ := h; exact ⟨a, ys, q, l.sq, RepAll.py (n := k) g r⟩
  | .dic _ _, _, _, g, h => by simp [D.gd] at g
  | .fn _, _, _, g, h => by simp [D.gd] at g
  | .ty _, _, _, g, h => by simp [D.gd] at g
theorem RepAll.py {K : PySem.W.Frag} {mg : Str → Option Value} {O : Ow} {H : Hp} : ∀ {ds : List D} {ys : List V} {n : Nat}, gdAll ds n = true → RepAll K mg O H ds ys → L2.RepAll K H (D.py.pys ds) ys
  | [], _, _, _, h => h
  | _ :: _, _, n, g, h => by
    rw [gdAll, Bool.and_eq_true] at g
    obtain ⟨x, r, q, a, b⟩ := h
    exact ⟨x, r, q, Rep.py g.1 a, RepAll.py g.2 b⟩
end
/-- as a datum that is looked at only -/
noncomputable def R.arg : R → D
  | .v d => d
  | .fr xs => .lst xs
  | .vw xs => .lst xs
  | .mv xs => .lst xs
  | .dv kvs => .dic (kvs.map (·.1)) (kvs.map (·.2))
theorem R.arg_py {K : PySem.W.Frag} {mg : Str → Option Value} {O : Ow} {H : Hp} {r : R} {v : V} {n : Nat} (g : r.arg.gd n = true) (h : RepR K mg O H r v) : L2.Rep K H r.arg.py v := by
  have lis : ∀ xs, r.lis = some xs → (D.lst xs).gd n = true → L2.Rep K H (D.lst xs).py v := fun xs e g => by
    obtain ⟨a, ys, q, l, ra⟩ := R.lis_rep h e
    cases n with
    | zero => simp [D.gd] at g
    | succ k => exact ⟨a, ys, q, l, RepAll.py (n := k) g ra⟩
  cases r with
  | v d => exact Rep.py g h
  | fr xs => exact lis xs rfl g
  | vw xs => exact lis xs rfl g
  | mv xs => exact lis xs rfl g
  | dv kvs => simp [R.arg, D.gd] at g
noncomputable def oEq (x y : R) : M R := if x.arg.gd 64 = true ∧ y.arg.gd 64 = true then pure (.v (.bl (peq x.arg y.arg))) else bad
noncomputable def oNe (x y : R) : M R := if x.arg.gd 64 = true ∧ y.arg.gd 64 = true then pure (.v (.bl (!peq x.arg y.arg))) else bad
section
variable {K : PySem.W.Frag} {mg : Str → Option Value}
theorem bEq : Bin K mg (rEqD K false) oEq := fun O σ S σV H x y rx ry r' S' Q st hx hy h q => by
  unfold oEq at h
  by_cases c : rx.arg.gd 64 = true ∧ ry.arg.gd 64 = true
  · rw [if_pos c] at h
    cases h
    refine ⟨_, _, R.arg_py c.1 hx, R.arg_py c.2 hy, gd_shaped c.1, gd_shaped c.2, ?_⟩
    rw [if_neg Bool.false_ne_true, eqv_py _ _ _ _ c.1 c.2]
    exact q O _ H (Go.refl _ _) st rfl trivial
  · rw [if_neg c] at h; cases h
theorem bNe : Bin K mg (rEqD K true) oNe := fun O σ S σV H x y rx ry r' S' Q st hx hy h q => by
  unfold oNe at h
  by_cases c : rx.arg.gd 64 = true ∧ ry.arg.gd 64 = true
  · rw [if_pos c] at h
    cases h
    refine ⟨_, _, R.arg_py c.1 hx, R.arg_py c.2 hy, gd_shaped c.1, gd_shaped c.2, ?_⟩
    rw [if_pos rfl, eqv_py _ _ _ _ c.1 c.2]
    exact q O _ H (Go.refl _ _) st rfl trivial
  · rw [if_neg c] at h; cases h
end
/-! ### is None, is True, in -/
noncomputable def R.isN : R → Bool
  | .v .non => true
  | _ => false
noncomputable def oIsN (x : R) : R → M R
  | .v .non => pure (.v (.bl x.isN))
  | _ => bad
noncomputable def oNotN (x : R) : R → M R
  | .v .non => pure (.v (.bl (!x.isN)))
  | _ => bad
noncomputable def oIsB : R → R → M R
  | .v (.bl a), .v (.bl b) => pure (.v (.bl (decide (a = b))))
  | _, _ => bad
noncomputable def oNotB : R → R → M R
  | .v (.bl a), .v (.bl b) => pure (.v (.bl (!decide (a = b))))
  | _, _ => bad
section
variable {K : PySem.W.Frag} {mg : Str → Option Value}
theorem isN_rep {O : Ow} {H : Hp} {r : R} {v : V} (h : RepR K mg O H r v) : decide (v = .non) = r.isN := by
  have no : ∀ {a : Addr}, v = .ref a → decide (v = .non) = false := fun {a} e => by rw [e]; exact decide_eq_false (by intro z; cases z)
  cases r with
  | v d =>
    cases d with
    | non => exact decide_eq_true h
    | bl _ => rw [show v = _ from h]; rfl
    | int _ => rw [show v = _ from h]; rfl
    | str _ => rw [show v = _ from h]; rfl
    | ty _ => rw [show v = _ from h]; rfl
    | tup _ => obtain ⟨a, _, e, _⟩ := h; exact no e
    | lst _ => obtain ⟨a, _, e, _⟩ := h; exact no e
    | dic _ _ => exact False.elim h
    | fn _ => obtain ⟨a, e, _⟩ := h; exact no e
  | fr _ => obtain ⟨a, _, e, _⟩ := h; exact no e
  | vw _ => obtain ⟨a, _, e, _⟩ := h; exact no e
  | mv _ => obtain ⟨a, _, e, _⟩ := h; exact no e
  | dv _ => obtain ⟨a, _, e, _⟩ := h; exact no e
theorem bIsN : Bin K mg (fun x y H Q => y = .non ∧ Q (.bl (decide (x = .non))) H) oIsN := fun O σ S σV H x y rx ry r' S' Q st hx hy h q => by
  unfold oIsN at h
  split at h
  · cases h; exact ⟨hy, by rw [isN_rep hx]; exact q O _ H (Go.refl _ _) st rfl trivial⟩
  · cases h
theorem bNotN : Bin K mg (fun x y H Q => y = .non ∧ Q (.bl (!decide (x = .non))) H) oNotN := fun O σ S σV H x y rx ry r' S' Q st hx hy h q => by
  unfold oNotN at h
  split at h
  · cases h; exact ⟨hy, by rw [isN_rep hx]; exact q O _ H (Go.refl _ _) st rfl trivial⟩
  · cases h
end
/-- in, of flat things -/
noncomputable def D.flat : D → Bool
  | .non => true
  | .bl _ => true
  | .int _ => true
  | .str _ => true
  | _ => false
noncomputable def inD (x : D) (xs : List D) : Bool := xs.any fun y => peq y x
noncomputable def oIn (neg : Bool) (x y : R) : M R := match x, y.seq with
  | .v d, some xs => if d.flat = true ∧ xs.all D.flat = true then pure (.v (.bl (if neg then !inD d xs else inD d xs))) else bad
  | _, _ => bad
section
variable {K : PySem.W.Frag} {mg : Str → Option Value}
theorem flat_rep {O : Ow} {H : Hp} {d : D} {v : V} (h : Rep K mg O H d v) (f : d.flat = true) : flatV v = true := by
  cases d with
  | non => rw [show v = _ from h]; rfl
  | bl _ => rw [show v = _ from h]; rfl
  | int _ => rw [show v = _ from h]; rfl
  | str _ => rw [show v = _ from h]; rfl
  | _ => exact absurd (show false = true from f) Bool.false_ne_true
theorem eqV_rep {O : Ow} {H : Hp} {d e : D} {v u : V} (h : Rep K mg O H d v) (h' : Rep K mg O H e u) (f : d.flat = true) (f' : e.flat = true) : eqV v u = peq d e := by
  cases d with
  | non =>
    rw [show v = _ from h]
    cases e with
    | non => rw [show u = _ from h']; rfl
    | bl _ => rw [show u = _ from h']; rfl
    | int _ => rw [show u = _ from h']; rfl
    | str _ => rw [show u = _ from h']; rfl
    | _ => exact absurd (show false = true from f') Bool.false_ne_true
  | bl _ =>
    rw [show v = _ from h]
    cases e with
    | non => rw [show u = _ from h']; rfl
    | bl _ => rw [show u = _ from h']; rfl
    | int _ => rw [show u = _ from h']; rfl
    | str _ => rw [show u = _ from h']; rfl
    | _ => exact absurd (show false = true from f') Bool.false_ne_true
  | int _ =>
    rw [show v = _ from h]
    cases e with
    | non => rw [show u = _ from h']; rfl
    | bl _ => rw [show u = _ from h']; rfl
    | int _ => rw [show u = _ from h']; rfl
    | str _ => rw [show u = _ from h']; rfl
    | _ => exact absurd (show false = true from f') Bool.false_ne_true
  | str _ =>
    rw [show v = _ from h]
    cases e with
    | non => rw [show u = _ from h']; rfl
    | bl _ => rw [show u = _ from h']; rfl
    | int _ => rw [show u = _ from h']; rfl
    | str _ => rw [show u = _ from h']; rfl
    | _ => exact absurd (show false = true from f') Bool.false_ne_true
  | _ => exact absurd (show false = true from f) Bool.false_ne_true
theorem inV_rep {O : Ow} {H : Hp} {d : D} {v : V} (h : Rep K mg O H d v) (f : d.flat = true) : ∀ {ds : List D} {ys : List V}, RepAll K mg O H ds ys → ds.all D.flat = true → ys.all flatV = true ∧ inV v ys = inD d ds
  | [], ys, r, _ => by cases r; exact ⟨rfl, rfl⟩
  | e :: ds, ys, r, g => by
    obtain ⟨y, t, rfl, r1, r2⟩ := r
    rw [List.all_cons, Bool.and_eq_true] at g
    obtain ⟨q1, q2⟩ := inV_rep h f r2 g.2
    refine ⟨by rw [List.all_cons, flat_rep r1 g.1, q1]; rfl, ?_⟩
    show (y :: t).any (fun z => eqV z v) = (e :: ds).any fun z => peq z d
    rw [List.any_cons, List.any_cons, eqV_rep r1 h g.1 f]
    exact congrArg _ q2
theorem bIn (neg : Bool) : Bin K mg (rIn K neg) (oIn neg) := fun O σ S σV H x y rx ry r' S' Q st hx hy h q => by
  unfold oIn at h
  split at h
  · rename_i d xs e
    by_cases c : d.flat = true ∧ xs.all D.flat = true
    · rw [if_pos c] at h
      cases h
      obtain ⟨a, ys, rfl, l, ra⟩ := R.seq_rep hy e
      obtain ⟨f1, f2⟩ := inV_rep hx c.1 ra c.2
      exact ⟨a, ys, rfl, l, flat_rep hx c.1, f1, by rw [f2]; exact q O _ H (Go.refl _ _) st rfl trivial⟩
    · rw [if_neg c] at h; cases h
  · cases h
end
end L3

set_option Elab.async false
set_option linter.all false
set_option maxRecDepth 100000
set_option maxHeartbeats 1000000
namespace L3
open PySem PySem.Spec L2
variable [L2.TabP]
/-! ### statements -/
inductive Fl where
  | nx (σ : En) | rt (r : R) | bk (σ : En) | ct (σ : En)
noncomputable abbrev MS := En → M Fl
/-- what never changes -/
noncomputable def Fix (o : HO) : Prop := (∃ xs, o = .tup xs) ∨ ∃ ob u, o = .frz ob u
/-- a statement's way: what is free or of others stands as it stood -/
structure Gs (O O' : Ow) (H H' : Hp) : Prop where
  cells : ∀ b o, H b = some o → (O b = .free ∨ O b = .out ∨ Fix o) → (h : nT o := by exact trivial) → H' b = some o
  own : ∀ b, H b ≠ none → (O b = .free ∨ O b = .out) → O' b = O b
  has : ∀ b, H b ≠ none → H' b ≠ none
  tb : ∀ b ps, H b = some (.tbl ps) → ∃ ps', H' b = some (.tbl ps')
  gd : TabsOk H → TabsOk H'
theorem Go.gs {O O' : Ow} {H H' : Hp} (g : Go O O' H H') : Gs O O' H H' := ⟨fun b o e _ n => g.same.at' b o e n, fun b h _ => g.own b h, fun _ h => g.same.some h, g.same.tb, g.same.gd⟩
theorem Gs.refl (O : Ow) (H : Hp) : Gs O O H H := (Go.refl O H).gs
theorem Gs.trans {O O1 O2 : Ow} {H H1 H2 : Hp} (a : Gs O O1 H H1) (b : Gs O1 O2 H1 H2) : Gs O O2 H H2 := by
  have some' : ∀ {b : Addr} {o : HO}, H b = some o → H b ≠ none := fun e z => by rw [e] at z; cases z
  refine ⟨fun c o e h n => ?_, fun c h f => ?_, fun c h => b.has c (a.has c h), fun c ps h => let ⟨p1, e1⟩ := a.tb c ps h; b.tb c p1 e1, fun g => b.gd (a.gd g)⟩
  · have e1 := a.cells c o e h n
    rcases h with h | h | h
    · exact b.cells c o e1 (.inl ((a.own c (some' e) (.inl h)).trans h)) n
    · exact b.cells c o e1 (.inr (.inl ((a.own c (some' e) (.inr h)).trans h))) n
    · exact b.cells c o e1 (.inr (.inr h)) n
  · have e1 := a.own c h f
    rw [b.own c (a.has c h) (by rw [e1]; exact f), e1]
/-- what is looked at only stays -/
noncomputable def Kp (σ σ' : En) (σV σV' : St) : Prop := (∀ (i : Nat) (xs : List D), σ'[i]? = some (Slot.vw xs) → σ[i]? = some (Slot.vw xs) ∧ σV'[i]? = σV[i]?) ∧
  (∀ (i : Nat) (ys : List D), σ'[i]? = some (Slot.ow true ys) → (∃ xs, σ[i]? = some (Slot.ow true xs)) ∧ σV'[i]? = σV[i]?) ∧
  ∀ (i : Nat) (m : TM) (t : Tr), σ'[i]? = some (Slot.tr m t) → m ≠ .own → (∃ t0, σ[i]? = some (Slot.tr m t0) ∧ (m = .view → t0 = t)) ∧ σV'[i]? = σV[i]?
theorem Kp.refl (σ : En) (σV : St) : Kp σ σ σV σV := ⟨fun _ _ h => ⟨h, rfl⟩, fun _ _ h => ⟨⟨_, h⟩, rfl⟩, fun _ _ _ h _ => ⟨⟨_, h, fun _ => rfl⟩, rfl⟩⟩
theorem Kp.trans {σ σ1 σ2 : En} {v v1 v2 : St} (a : Kp σ σ1 v v1) (b : Kp σ1 σ2 v1 v2) : Kp σ σ2 v v2 := ⟨fun i xs h => ⟨(a.1 i xs (b.1 i xs h).1).1, (b.1 i xs h).2.trans (a.1 i xs (b.1 i xs h).1).2⟩, fun i ys h => by
  obtain ⟨⟨xs, e⟩, q⟩ := b.2.1 i ys h
  obtain ⟨z, q'⟩ := a.2.1 i xs e
  exact ⟨z, q.trans q'⟩, fun i m t h hm => by
  obtain ⟨⟨t1, e, f⟩, q⟩ := b.2.2 i m t h hm
  obtain ⟨⟨t0, e', f'⟩, q'⟩ := a.2.2 i m t1 e hm
  exact ⟨⟨t0, e', fun z => (f' z).trans (f z)⟩, q.trans q'⟩⟩
/-- a slot is written anew where it stands -/
theorem Kp.put {σ : En} {σV : St} {i : Nat} {s s0 : Slot} (h0 : σ[i]? = some s0) (hv : ∀ xs, s ≠ .vw xs) (ho : ∀ xs, s = .ow true xs → ∃ ys, s0 = .ow true ys) (ht : ∀ m t, s = .tr m t → m ≠ .own → m ≠ .view ∧ ∃ t0, s0 = .tr m t0) : Kp σ (σ.set i s) σV σV := by
  have hlt : i < σ.length := (List.getElem?_eq_some_iff.mp h0).1
  have key : ∀ (j : Nat) (t : Slot), (σ.set i s)[j]? = some t → (i = j ∧ t = s) ∨ (i ≠ j ∧ σ[j]? = some t) := fun j t h => by
    by_cases hj : i = j
    · subst hj
      rw [List.getElem?_set_self hlt] at h
      exact .inl ⟨rfl, (Option.some.inj h).symm⟩
    · rw [List.getElem?_set_ne hj] at h
      exact .inr ⟨hj, h⟩
  refine ⟨fun j xs h => ?_, fun j ys h => ?_, fun j m t h hm => ?_⟩
  · rcases key j _ h with ⟨_, e⟩ | ⟨_, e⟩
    · exact absurd e.symm (hv xs)
    · exact ⟨e, rfl⟩
  · rcases key j _ h with ⟨rfl, e⟩ | ⟨_, e⟩
    · obtain ⟨zs, e'⟩ := ho ys e.symm
      exact ⟨⟨zs, e' ▸ h0⟩, rfl⟩
    · exact ⟨⟨_, e⟩, rfl⟩
  · rcases key j _ h with ⟨rfl, e⟩ | ⟨_, e⟩
    · obtain ⟨nv, t0, e'⟩ := ht m t e.symm hm
      exact ⟨⟨t0, e' ▸ h0, fun z => absurd z nv⟩, rfl⟩
    · exact ⟨⟨_, e, fun _ => rfl⟩, rfl⟩
noncomputable def RetR (K : PySem.W.Frag) (mg : Str → Option Value) (O : Ow) (H : Hp) : R → V → Prop
  | .v d, v => Rep K mg O H d v
  | .fr xs, v => ∃ a ys, v = .ref a ∧ H a = some (.lst ys) ∧ (O a = .tmp ∨ ∃ i, O a = .loc i) ∧ RepAll K mg O H xs ys
  | _, _ => False
noncomputable def PoN (K : PySem.W.Frag) (mg : Str → Option Value) (O : Ow) (σ : En) (S' : Store) (σV : St) (H : Hp) (σ' : En) (N : St → Hp → Prop) : Prop :=
  ∀ O' σV' H', Gs O O' H H' → S3 K mg O' σ' S' σV' H' → Kp σ σ' σV σV' → N σV' H'
noncomputable def PoS (K : PySem.W.Frag) (mg : Str → Option Value) (O : Ow) (σ : En) (S' : Store) (σV : St) (H : Hp) (fl : Fl) (Dn : Ends) : Prop := match fl with
  | .nx σ' => PoN K mg O σ S' σV H σ' Dn.nx
  | .bk σ' => PoN K mg O σ S' σV H σ' Dn.bk
  | .ct σ' => PoN K mg O σ S' σV H σ' Dn.ct
  | .rt r => ∀ O' v H', Gs O O' H H' → Dom O' H' → S' = [] → RetR K mg O' H' r v → Dn.rt v H'
theorem PoN.gs {K : PySem.W.Frag} {mg : Str → Option Value} {O O1 : Ow} {σ σ1 σ' : En} {S' : Store} {σV σV1 : St} {H H1 : Hp} {N : St → Hp → Prop} (h : PoN K mg O σ S' σV H σ' N) (g : Gs O O1 H H1) (k : Kp σ σ1 σV σV1) : PoN K mg O1 σ1 S' σV1 H1 σ' N :=
  fun O' σV' H' g' st k' => h O' σV' H' (g.trans g') st (k.trans k')
theorem PoS.gs {K : PySem.W.Frag} {mg : Str → Option Value} {O O1 : Ow} {σ σ1 : En} {S' : Store} {σV σV1 : St} {H H1 : Hp} {fl : Fl} {Dn : Ends} (h : PoS K mg O σ S' σV H fl Dn) (g : Gs O O1 H H1) (k : Kp σ σ1 σV σV1) : PoS K mg O1 σ1 S' σV1 H1 fl Dn := by
  cases fl with
  | nx σ' => exact PoN.gs h g k
  | bk σ' => exact PoN.gs h g k
  | ct σ' => exact PoN.gs h g k
  | rt r => exact fun O' v H' g' d e r => h O' v H' (g.trans g') d e r
noncomputable def tsOf (K : PySem.W.Frag) (mg : Str → Option Value) (m : MS) : TS := fun Dn σV H => ∃ O σ S fl S', S3 K mg O σ S σV H ∧ (m σ).run S = .ok fl S' ∧ PoS K mg O σ S' σV H fl Dn
noncomputable abbrev CS (X : Cx) (st : Stmt) (m : MS) : Prop := PS X st (tsOf X.K X.mg m)
noncomputable abbrev CSs (X : Cx) (sts : List Stmt) (m : MS) : Prop := PSs X sts (tsOf X.K X.mg m)
theorem ps_imp {X : Cx} {s : Stmt} {t t' : TS} (h : PS X s t) (i : ∀ D σ H, t' D σ H → t D σ H) : PS X s t' := fun pins s σ H D I q => h pins s σ H D I (i _ _ _ q)
theorem pss_imp {X : Cx} {s : List Stmt} {t t' : TS} (h : PSs X s t) (i : ∀ D σ H, t' D σ H → t D σ H) : PSs X s t' := fun pins s σ H D I q => h pins s σ H D I (i _ _ _ q)
noncomputable def cPass : MS := fun σ => pure (.nx σ)
noncomputable def cBrk : MS := fun σ => pure (.bk σ)
noncomputable def cCnt : MS := fun σ => pure (.ct σ)
noncomputable def cRetN : MS := fun _ => pure (.rt (.v .non))
noncomputable def cSeq (a b : MS) : MS := fun σ => do
  let fl ← a σ
  match fl with
  | .nx σ' => b σ'
  | fl => pure fl
noncomputable def cRet (m : ME) : MS := fun σ => do
  let r ← m σ
  match r with
  | .v d => pure (.rt (.v d))
  | .fr xs => pure (.rt (.fr xs))
  | _ => bad
/-- return of an own list -/
noncomputable def cRetO (i : Nat) : MS := fun σ => match σ[i]? with
  | some (.ow false xs) => pure (.rt (.fr xs))
  | _ => bad
noncomputable def cIfS (t : En → M Bool) (a b : MS) : MS := fun σ => do
  let t ← t σ
  if t = true then a σ else b σ
noncomputable def cDrop (m : ME) : MS := fun σ => do
  let _ ← m σ
  pure (.nx σ)
/-- x = e -/
noncomputable def cSet (i : Nat) (m : ME) : MS := fun σ => do
  let r ← m σ
  let d ← r.dat
  pure (.nx (σ.set i (.val d)))
/-- x = e, a new list that is x's own -/
noncomputable def cOwn (i : Nat) (m : ME) : MS := fun σ => do
  let r ← m σ
  match r with
  | .fr xs => pure (.nx (σ.set i (.ow false xs)))
  | _ => bad
section
variable {X : Cx} {st : Stmt} {rest : List Stmt} {pos : Pos} {a b : MS} {e : Expr} {m : ME}
theorem cs_pass : CS X (.Pass pos) cPass := ps_imp ps_pass fun D σV H ⟨O, σ, S, fl, S', st, h, q⟩ => by cases h; exact q O σV H (Gs.refl _ _) st (Kp.refl _ _)
theorem css_nil : CSs X [] cPass := pss_imp pss_nil fun D σV H ⟨O, σ, S, fl, S', st, h, q⟩ => by cases h; exact q O σV H (Gs.refl _ _) st (Kp.refl _ _)
theorem css_one (h : CS X st a) : CSs X [st] a := pss_one h
theorem css_cons (h1 : CS X st a) (h2 : CSs X rest b) : CSs X (st :: rest) (cSeq a b) := pss_imp (pss_cons h1 h2) <| by
  rintro D σV H ⟨O, σ, S, fl, S', st, h, q⟩
  obtain ⟨f1, S1, h1, h⟩ := M.inv h
  refine ⟨O, σ, S, f1, S1, st, h1, ?_⟩
  cases f1 with
  | nx σ1 => exact fun O1 σV1 H1 g1 st1 k1 => ⟨O1, σ1, S1, fl, S', st1, h, q.gs g1 k1⟩
  | rt r => cases h; exact q
  | bk σ1 => cases h; exact q
  | ct σ1 => cases h; exact q
theorem ret_of {K : PySem.W.Frag} {mg : Str → Option Value} {O : Ow} {H : Hp} {r : R} {v : V} (h : RepR K mg O H r v) (hr : (∃ d, r = .v d) ∨ ∃ xs, r = .fr xs) : RetR K mg O H r v := by
  rcases hr with ⟨d, rfl⟩ | ⟨xs, rfl⟩
  · exact h
  · obtain ⟨a, ys, q, l, t, ra⟩ := h; exact ⟨a, ys, q, l, .inl t, ra⟩
theorem cs_ret (he : CE X e m) : CS X (.Return (some e) pos) (cRet m) := ps_imp (ps_ret he) <| by
  rintro D σV H ⟨O, σ, S, fl, S', st, h, q⟩
  obtain ⟨r, S1, h1, h⟩ := M.inv h
  refine ⟨O, σ, S, r, S1, st, h1, fun O1 v H1 g1 st1 rr nn => ?_⟩
  cases r with
  | v d => cases h; exact q O1 v H1 g1.gs st1.dom st1.emp rr
  | fr xs => cases h; exact q O1 v H1 g1.gs st1.dom st1.emp (ret_of rr (.inr ⟨_, rfl⟩))
  | vw xs => cases h
  | mv xs => cases h
  | dv _ => cases h
theorem cs_if {c : Expr} {A B : List Stmt} {t : En → M Bool} (hc : CT X c t) (ha : CSs X A a) (hb : CSs X B b) : CS X (.If c A B pos) (cIfS t a b) := ps_imp (ps_if hc ha hb) <| by
  rintro D σV H ⟨O, σ, S, fl, S', st, h, q⟩
  obtain ⟨t, S1, h1, h⟩ := M.inv h
  refine ⟨O, σ, S, t, S1, st, h1, fun O1 H1 g1 st1 => ?_⟩
  cases t with
  | false =>
    rw [if_neg Bool.false_ne_true] at h
    exact iteF ⟨O1, σ, S1, fl, S', st1, h, q.gs g1.gs (Kp.refl _ _)⟩
  | true =>
    rw [if_pos rfl] at h
    exact iteT ⟨O1, σ, S1, fl, S', st1, h, q.gs g1.gs (Kp.refl _ _)⟩
/-! storing -/
theorem S3.set {K : PySem.W.Frag} {mg : Str → Option Value} {O : Ow} {σ : En} {S : Store} {σV : St} {H : Hp} {i : Nat} {s : Slot} {v : V} (st : S3 K mg O σ S σV H) (h : SlotR K mg O H (.loc i) s (some v)) : S3 K mg O (σ.set i s) S (σV.set i (some v)) H := by
  refine ⟨st.dom, by rw [List.length_set, List.length_set]; exact st.len, fun j t e => ?_, st.emp⟩
  by_cases hj : i = j
  · subst hj
    have hl : i < σ.length := by
      have := (List.getElem?_eq_some_iff.mp e).1
      rwa [List.length_set] at this
    rw [List.getElem?_set_self hl] at e
    cases e
    rw [List.getElem?_set_self (by rw [← st.len]; exact hl)]
    exact h
  · rw [List.getElem?_set_ne hj] at e
    rw [List.getElem?_set_ne hj]
    exact st.loc j t e
theorem Kp.set {σ : En} {σV : St} {i : Nat} {s : Slot} {v : Option V} (hs : ∀ xs, s ≠ .vw xs) (ht : ∀ xs, s ≠ .ow true xs := by intro xs z; cases z) (hu : ∀ m t, s = .tr m t → m = .own := by intro m t z; cases z) : Kp σ (σ.set i s) σV (σV.set i v) := by
  have key : ∀ (j : Nat) (t : Slot), (σ.set i s)[j]? = some t → t ≠ s → σ[j]? = some t ∧ (σV.set i v)[j]? = σV[j]? := fun j t h hne => by
    by_cases hj : i = j
    · subst hj
      have hl : i < σ.length := by
        have := (List.getElem?_eq_some_iff.mp h).1
        rwa [List.length_set] at this
      rw [List.getElem?_set_self hl] at h
      exact absurd (Option.some.inj h).symm hne
    · rw [List.getElem?_set_ne hj] at h ⊢
      exact ⟨h, rfl⟩
  refine ⟨fun j xs h => key j _ h (fun z => hs xs z.symm), fun j ys h => ?_, fun j m t h hm => ?_⟩
  · obtain ⟨a, b⟩ := key j _ h (fun z => ht ys z.symm)
    exact ⟨⟨ys, a⟩, b⟩
  · obtain ⟨a, b⟩ := key j _ h (fun z => hm (hu m t z.symm))
    exact ⟨⟨t, a, fun _ => rfl⟩, b⟩
theorem set_read {K : PySem.W.Frag} {mg : Str → Option Value} {i : Nat} {te : TE} (hi : ∀ σ H Q, teOf K mg m σ H Q → te σ H Q) : ∀ D σV H, tsOf K mg (cSet i m) D σV H → tAsg te (gName i) D σV H := by
  rintro D σV H ⟨O, σ, S, fl, S', st, h, q⟩
  obtain ⟨r, S1, h1, h⟩ := M.inv h
  obtain ⟨d, S2, h2, h⟩ := M.inv h
  cases h
  refine hi σV H _ ⟨O, σ, S, r, S1, st, h1, fun O1 v H1 g1 st1 rr nn => ?_⟩
  obtain ⟨rd, rfl⟩ := dat_rep (H₀ := H) rr nn h2
  exact q (frz H O1) _ H1 g1.frz.gs ((st1.frz H).set ⟨v, rfl, rd⟩) (Kp.set fun xs z => by cases z)
variable {i : Nat} {x : Str} {pos' : Pos}
theorem cs_set (hN : X.N.Nodup) (hi : X.N[i]? = some x) (hx : Loc X.env.scope x) (he : CE X e m) (hs : swapsWith e (some (.Name x pos')) pos.line X.env = pure false := by rfl) (hf : X.fn x = true ∨ X.env.scope.names.lookup x = some .local := by first | exact .inl rfl | exact .inr rfl | assumption) :
    CS X (.Assign [.Name x pos'] e pos) (cSet i m) := ps_imp (ps_set hN hi hx he hs hf) (set_read fun _ _ _ h => h)
end
/-! ### an own list is changed -/
noncomputable def cMut (i : Nat) (f : List D → List R → M (R × List D)) (ms : MA) : En → M (R × En) := fun σ => do
  let rs ← ms σ
  match σ[i]? with
  | some (.ow p xs) => do
    let (r, ys) ← f xs rs
    pure (r, σ.set i (.ow p ys))
  | _ => bad
noncomputable def cMutS (i : Nat) (f : List D → List R → M (R × List D)) (ms : MA) : MS := fun σ => do
  let (_, σ') ← cMut i f ms σ
  pure (.nx σ')
noncomputable def cMutSet (j i : Nat) (f : List D → List R → M (R × List D)) (ms : MA) : MS := fun σ => do
  let (r, σ') ← cMut i f ms σ
  let d ← r.dat
  pure (.nx (σ'.set j (.val d)))
noncomputable def uAppend (xs : List D) : List R → M (R × List D)
  | [r] => do
    let d ← r.dat
    chk (xs.length < sizeLine)
    pure (.v .non, xs ++ [d])
  | _ => bad
noncomputable def uExtend (xs : List D) : List R → M (R × List D)
  | [r] => match r.own with
    | some ys => do
      chk (xs.length + ys.length ≤ sizeLine)
      pure (.v .non, xs ++ ys)
    | none => bad
  | _ => bad
noncomputable def uPop (xs : List D) : List R → M (R × List D)
  | [] => match xs[xs.length - 1]? with
    | some d => pure (.v d, xs.dropLast)
    | none => bad
  | _ => bad
section
variable {K : PySem.W.Frag} {mg : Str → Option Value} {O : Ow} {H : Hp} {l : Addr} {zs ws : List V}
mutual
theorem Rep.updL (ho : O l ≠ .free) (hl : H l = some (.lst zs)) : ∀ {d : D} {v : V}, Rep K mg O H d v → Rep K mg O (upd H l (.lst ws)) d v
  | .non, _, h => h
  | .bl _, _, h => h
  | .int _, _, h => h
  | .str _, _, h => h
  | .tup _, _, h => by
    obtain ⟨a, ys, q, t, r⟩ := h
    refine ⟨a, ys, q, ?_, RepAll.updL ho hl r⟩
    rcases t with (t | ⟨o, t⟩) | t
    · exact .inl (.inl (by rw [upd_ne (ne_of t hl (by intro z; cases z))]; exact t))
    · exact .inl (.inr ⟨o, by rw [upd_ne (ne_of t hl (by intro z; cases z))]; exact t⟩)
    · exact .inr t
  | .lst _, _, h => by
    obtain ⟨a, ys, q, t, r⟩ := h
    exact ⟨a, ys, q, ⟨by rw [upd_ne (by rintro rfl; exact ho t.2)]; exact t.1, t.2⟩, RepAll.updL ho hl r⟩
  | .dic _ _, _, h => h
  | .fn _, _, h => h
  | .ty _, _, h => h
theorem RepAll.updL (ho : O l ≠ .free) (hl : H l = some (.lst zs)) : ∀ {ds : List D} {ys : List V}, RepAll K mg O H ds ys → RepAll K mg O (upd H l (.lst ws)) ds ys
  | [], _, h => h
  | _ :: _, _, h => by obtain ⟨x, r, q, a, b⟩ := h; exact ⟨x, r, q, Rep.updL ho hl a, RepAll.updL ho hl b⟩
end
theorem LsV.updL {a : Addr} {ys : List V} (ho : O l ≠ .free) (ho' : O l ≠ .out) (h : LsV K O H a ys) : LsV K O (upd H l (.lst ws)) a ys := by
  rcases h with ⟨h, f⟩ | h
  · have ne : a ≠ l := by rintro rfl; exact f.elim ho ho'
    refine .inl ⟨?_, f⟩
    rcases h with h | ⟨o, h⟩
    · exact .inl (by rw [upd_ne ne]; exact h)
    · exact .inr ⟨o, by rw [upd_ne ne]; exact h⟩
  · exact .inr h
theorem SlotR.updL {w : Own} (ho : O l ≠ .free) (ho' : O l ≠ .out) (hw : O l ≠ w) (ht : ∀ p, O l ≠ w.at p) (hl : H l = some (.lst zs)) : ∀ {s : Slot} {u : Option V}, SlotR K mg O H w s u → SlotR K mg O (upd H l (.lst ws)) w s u
  | .emp, _, _ => trivial
  | .val _, _, h => by obtain ⟨v, q, r⟩ := h; exact ⟨v, q, r.updL ho hl⟩
  | .ow _ _, _, h => by obtain ⟨a, ys, q, o, t, r⟩ := h; exact ⟨a, ys, q, o, by rw [upd_ne (by rintro rfl; exact hw o)]; exact t, r.updL ho hl⟩
  | .vw _, _, h => by obtain ⟨a, ys, q, t, r⟩ := h; exact ⟨a, ys, q, t.updL ho ho', r.updL ho hl⟩
  | .dct _, _, h => by obtain ⟨a, ys, q, o, t, r⟩ := h; exact ⟨a, ys, q, o, by rw [upd_ne (by rintro rfl; rw [hl] at t; cases t)]; exact t, r.1, r.2.updL ho hl⟩
  | .vd _, _, h => by
    obtain ⟨a, ys, q, t, r⟩ := h
    refine ⟨a, ys, q, ⟨?_, t.2⟩, r.1, r.2.updL ho hl⟩
    rcases t.1 with t | ⟨o, t⟩
    · exact .inl (by rw [upd_ne (by rintro rfl; rw [hl] at t; cases t)]; exact t)
    · exact .inr ⟨o, by rw [upd_ne (by rintro rfl; rw [hl] at t; cases t)]; exact t⟩
  | .pd _, _, h => by obtain ⟨a, ys, q, o, t, r⟩ := h; exact ⟨a, ys, q, o, by rw [upd_ne (by rintro rfl; rw [hl] at t; cases t)]; exact t, r.1, r.2.all fun _ _ z => Rep.updL ho hl z⟩
  | .vp _, _, h => by
    obtain ⟨a, ys, q, t, r⟩ := h
    refine ⟨a, ys, q, ⟨?_, t.2⟩, r.1, r.2.all fun _ _ z => Rep.updL ho hl z⟩
    rcases t.1 with t | ⟨o, t⟩
    · exact .inl (by rw [upd_ne (by rintro rfl; rw [hl] at t; cases t)]; exact t)
    · exact .inr ⟨o, by rw [upd_ne (by rintro rfl; rw [hl] at t; cases t)]; exact t⟩
  | .tr _ _, _, h => by obtain ⟨v, q, r⟩ := h; exact ⟨v, q, r.all (fun _ _ z => Rep.updL ho hl z) fun a _ p o t _ => ⟨o, by rw [upd_ne (by rintro rfl; exact TM.ne ho' ht p o)]; exact t⟩⟩
theorem Dom.updL (d : Dom O H) (hl : H l = some (.lst zs)) : Dom O (upd H l (.lst ws)) := ⟨fun a ha => by
  by_cases e : a = l
  · rw [e, upd_same]; intro z; cases z
  · rw [upd_ne e]; exact d.has a ha, d.tabs.lst hl _⟩
end
section
variable {K : PySem.W.Frag} {mg : Str → Option Value}
variable {f : List D → List R → M (R × List D)} {r : V → List V → Hp → VK → Prop} {ms : MA} {i j : Nat}
end
section
variable {X : Cx} {x : Str} {i j : Nat} {p apos cpos pos pos' : Pos} {e : Expr} {es : List Expr} {ms : MA} {name y : Str} {id : String} {f : List D → List R → M (R × List D)} {r : V → List V → Hp → VK → Prop}
end
end L3

set_option Elab.async false
set_option linter.all false
set_option maxRecDepth 100000
set_option maxHeartbeats 1000000
namespace L3
open PySem PySem.Spec L2
variable [L2.TabP]
/-! ### what is walked -/
/-- it gives these, whatever is done that changes nobody's list -/
noncomputable def ItS (J : It) (O : Ow) (H : Hp) (ys : List V) : Prop := ∀ O2 H2, Gs O O2 H H2 → ∀ i, (i < ys.length → J.go i H2 ∧ ∀ x H', J.yld i H2 x H' → H' = H2 ∧ ys[i]? = some x) ∧ (ys.length ≤ i → J.stop i H2)
noncomputable abbrev MI := En → M (List D)
/-- for a comprehension -/
noncomputable def tcOf (K : PySem.W.Frag) (mg : Str → Option Value) (m : MI) : TI := fun σV H R => ∃ O σ S xs S', S3 K mg O σ S σV H ∧ (m σ).run S = .ok xs S' ∧ ∀ O' H' J ys, Go O O' H H' → S3 K mg O' σ S' σV H' → ItOk J H' ys → RepAll K mg O' H' xs ys → R J H'
/-- for a loop -/
noncomputable def tfOf (K : PySem.W.Frag) (mg : Str → Option Value) (m : MI) : TI := fun σV H R => ∃ O σ S xs S', S3 K mg O σ S σV H ∧ (m σ).run S = .ok xs S' ∧ ∀ O' H' J ys, Go O O' H H' → S3 K mg O' σ S' σV H' → ItS J O' H' ys → RepAll K mg O' H' xs ys → R J H'
noncomputable abbrev CIc (X : Cx) (tg iter : Expr) (m : MI) : Prop := PI X tg iter (tcOf X.K X.mg m)
noncomputable abbrev CIf (X : Cx) (tg iter : Expr) (m : MI) : Prop := PI X tg iter (tfOf X.K X.mg m)
theorem pi_imp {X : Cx} {tg e : Expr} {t t' : TI} (h : PI X tg e t) (i : ∀ σ H Q, t' σ H Q → t σ H Q) : PI X tg e t' := fun pins s σ H Q I q => h pins s σ H Q I (i _ _ _ q)
theorem Gs.sqT {K : PySem.W.Frag} {O O' : Ow} {H H' : Hp} (g : Gs O O' H H') {a : Addr} {ys : List V} (h : SqT K H a ys) : SqT K H' a ys := by
  rcases h with (h | ⟨o, h⟩) | h
  · exact .inl (.inl (g.cells _ _ h (.inr (.inr (.inl ⟨_, rfl⟩)))))
  · exact .inl (.inr ⟨o, g.cells _ _ h (.inr (.inr (.inr ⟨_, _, rfl⟩)))⟩)
  · exact .inr h
theorem Gs.lsV {K : PySem.W.Frag} {O O' : Ow} {H H' : Hp} (g : Gs O O' H H') {a : Addr} {ys : List V} (h : LsV K O H a ys) : LsV K O' H' a ys := by
  rcases h with ⟨h, f⟩ | h
  · refine .inl ⟨?_, by rw [g.own a (Rd.some h) f]; exact f⟩
    rcases h with h | ⟨o, h⟩
    · exact .inl (g.cells _ _ h (f.elim .inl fun z => .inr (.inl z)))
    · exact .inr ⟨o, g.cells _ _ h (f.elim .inl fun z => .inr (.inl z))⟩
  · exact .inr h
/-- a tuple's items -/
noncomputable def iT (m : ME) : MI := fun σ => do
  let r ← m σ
  match r with
  | .v (.tup xs) => pure xs
  | _ => bad
/-- a list's items (in a loop: not one's own) -/
noncomputable def iL (m : ME) : MI := fun σ => do
  let r ← m σ
  match r with
  | .v (.lst xs) => pure xs
  | .fr xs => pure xs
  | .vw xs => pure xs
  | _ => bad
noncomputable def iLc (m : ME) : MI := fun σ => do
  let r ← m σ
  match r.lis with
  | some xs => pure xs
  | none => bad
noncomputable def rngD (lo : Int) (n : Nat) : List D := (List.range n).map fun i => D.int (lo + (i : Nat))
omit [L2.TabP] in
theorem rngD_len (lo : Int) (n : Nat) : (rngD lo n).length = n := by unfold rngD; rw [List.length_map, List.length_range]
noncomputable def iR1 (m : MA) : MI := fun σ => do
  let rs ← m σ
  match rs with
  | [.v (.int j)] => if -(2 ^ 62) ≤ j ∧ j < 2 ^ 62 then pure (rngD 0 j.toNat) else bad
  | _ => bad
noncomputable def iR2 (m : MA) : MI := fun σ => do
  let rs ← m σ
  match rs with
  | [.v (.int i), .v (.int j)] => if -(2 ^ 62) ≤ i ∧ i < 2 ^ 62 ∧ -(2 ^ 62) ≤ j ∧ j < 2 ^ 62 then pure (rngD i (j - i).toNat) else bad
  | _ => bad
theorem rngD_rep {K : PySem.W.Frag} {mg : Str → Option Value} {O : Ow} {H : Hp} (lo : Int) (n : Nat) : RepAll K mg O H (rngD lo n) (rngV lo n) := by
  unfold rngD rngV
  induction (List.range n) with
  | nil => rfl
  | cons a r ih => exact ⟨.int (lo + a), _, rfl, rfl, ih⟩
theorem itr_s {O : Ow} {H : Hp} (lo : Int) (n : Nat) : ItS (Itr lo n) O H (rngV lo n) := fun O2 H2 _ i => itr_ok (H := H2) lo n H2 (Same.refl _) i
section
variable {X : Cx} {tg l : Expr} {m : ME} {e a b : Expr} {ms : MA} {pos p : Pos}
theorem rng1_read {K : PySem.W.Frag} {mg : Str → Option Value} : (∀ σV H R, tfOf K mg (iR1 ms) σV H R → iRng1 (taOf K mg ms) σV H R) ∧ (∀ σV H R, tcOf K mg (iR1 ms) σV H R → iRng1 (taOf K mg ms) σV H R) := by
  constructor <;>
  · rintro σV H R ⟨O, σ, S, xs, S', st, h, q⟩
    obtain ⟨rs, S1, h1, h⟩ := M.inv h
    split at h
    · rename_i j
      by_cases c : -(2 ^ 62) ≤ j ∧ j < 2 ^ 62
      · rw [if_pos c] at h
        cases h
        refine ⟨O, σ, S, _, _, st, h1, fun O1 vs H1 g1 st1 rr nn => ?_⟩
        obtain ⟨v, rfl, rv⟩ := reps1 rr
        cases (show v = .int j from rv)
        exact ⟨j, rfl, c.1, c.2, q O1 H1 (Itr 0 j.toNat) (rngV 0 j.toNat) g1 st1 (by first | exact itr_s _ _ | exact itr_ok _ _) (rngD_rep _ _)⟩
      · rw [if_neg c] at h; cases h
    · cases h
theorem rng2_read {K : PySem.W.Frag} {mg : Str → Option Value} : (∀ σV H R, tfOf K mg (iR2 ms) σV H R → iRng2 (taOf K mg ms) σV H R) ∧ (∀ σV H R, tcOf K mg (iR2 ms) σV H R → iRng2 (taOf K mg ms) σV H R) := by
  constructor <;>
  · rintro σV H R ⟨O, σ, S, xs, S', st, h, q⟩
    obtain ⟨rs, S1, h1, h⟩ := M.inv h
    split at h
    · rename_i i j
      by_cases c : -(2 ^ 62) ≤ i ∧ i < 2 ^ 62 ∧ -(2 ^ 62) ≤ j ∧ j < 2 ^ 62
      · rw [if_pos c] at h
        cases h
        refine ⟨O, σ, S, _, _, st, h1, fun O1 vs H1 g1 st1 rr nn => ?_⟩
        obtain ⟨v, u, rfl, rv, ru⟩ := reps2 rr
        cases (show v = .int i from rv)
        cases (show u = .int j from ru)
        exact ⟨i, j, rfl, c, q O1 H1 (Itr i (j - i).toNat) (rngV i (j - i).toNat) g1 st1 (by first | exact itr_s _ _ | exact itr_ok _ _) (rngD_rep _ _)⟩
      · rw [if_neg c] at h; cases h
    · cases h
theorem cf_range1 (hg : Gl X "range") (hm : X.mg "range" = none) (ha : CA X [a] ms) (hs : starEach [a] X.env = [(false, eval a X.env)] := by rfl) : CIf X tg (.Call (.Name "range" p) [a] [] pos) (iR1 ms) := pi_imp (pi_range1 hg hm ha hs) rng1_read.1
theorem cc_range1 (hg : Gl X "range") (hm : X.mg "range" = none) (ha : CA X [a] ms) (hs : starEach [a] X.env = [(false, eval a X.env)] := by rfl) : CIc X tg (.Call (.Name "range" p) [a] [] pos) (iR1 ms) := pi_imp (pi_range1 hg hm ha hs) rng1_read.2
theorem cf_range2 (hg : Gl X "range") (hm : X.mg "range" = none) (ha : CA X [a, b] ms) (hs : starEach [a, b] X.env = [(false, eval a X.env), (false, eval b X.env)] := by rfl) (hs2 : starEach [b] X.env = [(false, eval b X.env)] := by rfl) : CIf X tg (.Call (.Name "range" p) [a, b] [] pos) (iR2 ms) := pi_imp (pi_range2 hg hm ha hs hs2) rng2_read.1
theorem itl_s {K : PySem.W.Frag} {O : Ow} {H : Hp} {a : Addr} {xs : List V} (h : LsV K O H a xs) : ItS (Itl K a) O H xs := fun O2 H2 g i => itl_ok (g.lsV h).sq H2 (Same.refl _) i
theorem cf_list (hl : CE X l m) : CIf X tg l (iL m) := pi_imp (pi_list hl) <| by
  rintro σV H R ⟨O, σ, S, xs, S', st, h, q⟩
  obtain ⟨r, S1, h1, h⟩ := M.inv h
  refine ⟨O, σ, S, r, S1, st, h1, fun O1 v H1 g1 st1 rr nn => ?_⟩
  split at h
  · cases h
    obtain ⟨a, ys, rfl, ls, ra⟩ := rr
    exact ⟨a, rfl, ⟨ys, ls.sq⟩, q O1 H1 (Itl X.K a) ys g1 st1 (itl_s (.inl ⟨.inl ls.1, .inl ls.2⟩)) ra⟩
  · cases h
    obtain ⟨a, ys, rfl, ls, t, ra⟩ := rr
    exact ⟨a, rfl, ⟨ys, SqL.of ls⟩, q (frz H O1) H1 (Itl X.K a) ys g1.frz (st1.frz H) (itl_s (.inl ⟨.inl ls, .inl (frz_tmp (nn a rfl) t)⟩)) (ra.fre (frz_fre _ _))⟩
  · cases h
    obtain ⟨a, ys, rfl, ls, ra⟩ := rr
    exact ⟨a, rfl, ⟨ys, ls.sq⟩, q O1 H1 (Itl X.K a) ys g1 st1 (itl_s ls) ra⟩
  · cases h
theorem itt_s {K : PySem.W.Frag} {O : Ow} {H : Hp} {a : Addr} {xs : List V} (h : SqT K H a xs) : ItS (Itt K a) O H xs := fun O2 H2 g i => itt_ok (g.sqT h) H2 (Same.refl _) i
theorem cf_tup (hl : CE X l m) : CIf X tg l (iT m) := pi_imp (pi_tup hl) <| by
  rintro σV H R ⟨O, σ, S, xs, S', st, h, q⟩
  obtain ⟨r, S1, h1, h⟩ := M.inv h
  split at h
  · rename_i zs
    cases h
    refine ⟨O, σ, S, _, _, st, h1, fun O1 v H1 g1 st1 rr nn => ?_⟩
    obtain ⟨a, ys, rfl, ls, ra⟩ := rr
    exact ⟨a, rfl, ⟨ys, ls⟩, q O1 H1 (Itt X.K a) ys g1 st1 (itt_s ls) ra⟩
  · cases h
end
/-! ### loops -/
noncomputable def fLoop (b : D → MS) : List D → MS
  | [] => fun σ => pure (.nx σ)
  | d :: ds => fun σ => do
    let fl ← b d σ
    match fl with
    | .nx σ' => fLoop b ds σ'
    | .ct σ' => fLoop b ds σ'
    | .bk σ' => pure (.nx σ')
    | .rt r => pure (.rt r)
/-- for x in .. -/
noncomputable def cFor (i : Nat) (it : MI) (b : MS) : MS := fun σ => do
  let ds ← it σ
  fLoop (fun d σ => b (σ.set i (.val d))) ds σ
noncomputable def wLoop (c : En → M Bool) (b : MS) : Nat → MS
  | 0 => fun _ => bad
  | n + 1 => fun σ => do
    let t ← c σ
    if t = true then do
      let fl ← b σ
      match fl with
      | .nx σ' => wLoop c b n σ'
      | .ct σ' => wLoop c b n σ'
      | .bk σ' => pure (.nx σ')
      | .rt r => pure (.rt r)
    else pure (.nx σ)
@[irreducible] noncomputable def wFuel : Nat := 2 ^ 24
noncomputable def cWhile (c : En → M Bool) (b : MS) : MS := wLoop c b wFuel
theorem S3.val {K : PySem.W.Frag} {mg : Str → Option Value} {O : Ow} {σ : En} {S : Store} {σV : St} {H : Hp} {i : Nat} {d : D} {v : V} (st : S3 K mg O σ S σV H) (h : Rep K mg O H d v) : S3 K mg O (σ.set i (.val d)) S (σV.set i (some v)) H := st.set ⟨v, rfl, h⟩
theorem RepAll.gs {K : PySem.W.Frag} {mg : Str → Option Value} {O O' : Ow} {H H' : Hp} (g : Gs O O' H H') : ∀ {ds : List D} {ys : List V}, RepAll K mg O H ds ys → RepAll K mg O' H' ds ys := by
  have rep : ∀ (d : D) (v : V), Rep K mg O H d v → Rep K mg O' H' d v := by
    intro d
    induction d using D.rec (motive_2 := fun ds => ∀ ys, RepAll K mg O H ds ys → RepAll K mg O' H' ds ys) with
    | non => exact fun v h => h
    | bl _ => exact fun v h => h
    | int _ => exact fun v h => h
    | str _ => exact fun v h => h
    | fn _ => exact fun v h => h
    | ty _ => exact fun v h => h
    | dic l _ _ => exact fun v h => h
    | tup xs ih => exact fun v ⟨a, ys, q, l, r⟩ => ⟨a, ys, q, g.sqT l, ih ys r⟩
    | lst xs ih => exact fun v ⟨a, ys, q, l, r⟩ => ⟨a, ys, q, ⟨g.cells _ _ l.1 (.inl l.2), by rw [g.own a (by rw [l.1]; intro z; cases z) (.inl l.2)]; exact l.2⟩, ih ys r⟩
    | nil => assumption
    | cons x xs ih1 ih2 =>
      rename_i zs hz
      obtain ⟨y, r, q, a, b⟩ := hz
      exact ⟨y, r, q, ih1 y a, ih2 r b⟩
  intro ds
  induction ds with
  | nil => exact fun h => h
  | cons x xs ih => rintro ys ⟨y, r, q, a, b⟩; exact ⟨y, r, q, rep x y a, ih b⟩
section
variable {X : Cx} {tg iter : Expr} {it : MI} {i : Nat} {b : MS} {body : List Stmt} {pos tpos : Pos} {x : Str} {c : Expr} {t : En → M Bool}
theorem RepAll.get' {K : PySem.W.Frag} {mg : Str → Option Value} {O : Ow} {H : Hp} {ds : List D} {ys : List V} {k : Nat} {d : D} {ds' : List D} (h : RepAll K mg O H ds ys) (e : ds.drop k = d :: ds') : ∃ y, ys[k]? = some y ∧ Rep K mg O H d y ∧ ds.drop (k + 1) = ds' := by
  have e1 : ds[k]? = some d := by
    have := congrArg (·[0]?) e
    simpa using this
  obtain ⟨y, q, r⟩ := h.get e1
  refine ⟨y, q, r, ?_⟩
  have := congrArg (List.drop 1) e
  simpa [List.drop_drop] using this
theorem forG_read {K : PySem.W.Frag} {mg : Str → Option Value} {G : TG} {B : L3.D → MS} (hG : ∀ O σ S σV H d y f S2 Q, S3 K mg O σ S σV H → Rep K mg O H d y → (B d σ).run S = .ok f S2 → (∀ σn σVn, S3 K mg O σn S σVn H → Kp σ σn σV σVn → (b σn).run S = .ok f S2 → Q σVn H) → G y σV H Q) :
    ∀ D σV H, tsOf K mg (fun σ => do
      let ds ← it σ
      fLoop B ds σ) D σV H → tFor (tfOf K mg it) G (tsOf K mg b) D σV H := by
  rintro D σV H ⟨O, σ, S, fl, S', st, h, q⟩
  obtain ⟨ds, S1, h1, h⟩ := M.inv h
  refine ⟨O, σ, S, ds, S1, st, h1, fun O1 H1 J ys g1 st1 its ra => ?_⟩
  refine ⟨fun k m σV' H' => m = ys.length - k ∧ k ≤ ys.length ∧ ∃ O' σ' S'', S3 K mg O' σ' S'' σV' H' ∧ Gs O1 O' H1 H' ∧ Kp σ σ' σV σV' ∧ (fLoop B (ds.drop k) σ').run S'' = .ok fl S',
    ⟨_, rfl, Nat.zero_le _, O1, σ, S1, st1, Gs.refl _ _, Kp.refl _ _, h⟩, ?_⟩
  rintro k m σV' H' ⟨rfl, hk, O', σ', S'', st', g', kp, h⟩
  cases e : ds.drop k with
  | nil =>
    have hl : ys.length ≤ k := by
      have := congrArg List.length e
      rw [List.length_drop, List.length_nil] at this
      rw [ra.len]; omega
    rw [e] at h
    cases h
    exact .inl ⟨(its O' H' g' k).2 hl, q O' σV' H' (g1.gs.trans g') st' kp⟩
  | cons d ds' =>
    obtain ⟨y, ey, ry, e'⟩ := (RepAll.gs g' ra).get' e
    have hlt : k < ys.length := (List.getElem?_eq_some_iff.mp ey).1
    obtain ⟨go, yl⟩ := (its O' H' g' k).1 hlt
    rw [e] at h
    obtain ⟨f1, S2, h2, h⟩ := M.inv h
    refine .inr ⟨go, fun σV2 H2 => ∃ O2 σ2 S2, S3 K mg O2 σ2 S2 σV2 H2 ∧ Gs O1 O2 H1 H2 ∧ Kp σ σ2 σV σV2 ∧ (fLoop B (ds.drop (k + 1)) σ2).run S2 = .ok fl S', ?_, fun x H2 yy => ?_⟩
    · rintro σV2 H2 ⟨O2, σ2, S2, a1, a2, a3, a4⟩
      exact ⟨_, by omega, rfl, hlt, O2, σ2, S2, a1, a2, a3, a4⟩
    · obtain ⟨rfl, ex⟩ := yl x H2 yy
      rw [ey] at ex
      cases ex
      refine hG _ _ _ _ _ _ _ _ _ _ st' ry h2 fun σn σVn stn ks hb => ?_
      refine ⟨O', σn, S'', f1, S2, stn, hb, ?_⟩
      cases f1 with
      | nx σ2 => exact fun O2 σV2 H2 g2 st2 k2 => ⟨O2, σ2, S2, st2, g'.trans g2, kp.trans (ks.trans k2), by rw [e']; exact h⟩
      | ct σ2 => exact fun O2 σV2 H2 g2 st2 k2 => ⟨O2, σ2, S2, st2, g'.trans g2, kp.trans (ks.trans k2), by rw [e']; exact h⟩
      | bk σ2 => cases h; exact fun O2 σV2 H2 g2 st2 k2 => q O2 σV2 H2 (g1.gs.trans (g'.trans g2)) st2 (kp.trans (ks.trans k2))
      | rt r => cases h; exact fun O2 v H2 g2 d2 e2 r2 => q O2 v H2 (g1.gs.trans (g'.trans g2)) d2 e2 r2
theorem for_read {K : PySem.W.Frag} {mg : Str → Option Value} : ∀ D σV H, tsOf K mg (cFor i it b) D σV H → tFor (tfOf K mg it) (gName i) (tsOf K mg b) D σV H :=
  forG_read (B := fun d σ => b (σ.set i (.val d))) fun _ _ _ _ _ _ _ _ _ _ st ry h k => k _ _ (st.val ry) (Kp.set fun xs z => by cases z) h
theorem cs_for (hp : PassesOwn (model X.prog X.w) X.A X.env X.xe) (hc : X.calm = true) (hi : CIf X (.Name x tpos) iter it) (hN : X.N.Nodup) (hx : X.N[i]? = some x) (hl : Loc X.env.scope x) (hb : CSs X body b)
    (hs : ∀ x, foldedSetIterable iter X.env x = pure x := by intro _; rfl) (hf : X.fn x = true ∨ X.env.scope.names.lookup x = some .local := by first | exact .inl rfl | exact .inr rfl | assumption) : CS X (.For (.Name x tpos) iter body [] pos) (cFor i it b) :=
  ps_imp (ps_for hp hc hi (pg_name hN hx hl hf) hb hs) for_read
end
/-! ### comprehensions -/
noncomputable def kLoop (t : En → M Bool) (el : ME) (σ : En) : List D → M (List D)
  | [] => pure []
  | d :: ds => do
    let b ← t (σ.set 0 (.val d))
    if b = true then do
      let r ← el (σ.set 0 (.val d))
      let x ← r.dat
      let xs ← kLoop t el σ ds
      pure (x :: xs)
    else kLoop t el σ ds
noncomputable def cpSlot : Option Slot → Slot
  | some (.val d) => .val d
  | some (.ow _ xs) => .vw xs
  | some (.vw xs) => .vw xs
  | some (.dct kvs) => .vd kvs
  | some (.vd kvs) => .vd kvs
  | some (.pd kvs) => .vp kvs
  | some (.vp kvs) => .vp kvs
  | _ => .emp
noncomputable def cpEn (n : Nat) (cap : List Nat) (σ : En) : En := List.replicate n .emp ++ cap.map fun k => cpSlot σ[k]?
noncomputable def cComp (n : Nat) (cap : List Nat) (it : MI) (t : En → M Bool) (el : ME) : ME := fun σ => do
  let ds ← it σ
  chk (ds.length < sizeLine)
  let xs ← kLoop t el (cpEn n cap σ) ds
  pure (.fr xs)
noncomputable def tYes : En → M Bool := fun _ => pure true
noncomputable abbrev CFs (X : Cx) (ifs : List Expr) (t : En → M Bool) : Prop := PIfs X ifs (ttOf X.K X.mg t)
theorem cfs_one {X : Cx} {c : Expr} {t : En → M Bool} (h : CT X c t) : CFs X [c] t := pf_one h
/-- the block's owners: what is a name's own around is others' within -/
noncomputable def Own.blk : Own → Own
  | .loc _ => .out
  | .tr _ _ => .out
  | .tmp => .out
  | o => o
noncomputable def blk (O : Ow) : Ow := fun b => (O b).blk
theorem blk_free {O : Ow} {b : Addr} : blk O b = .free ↔ O b = .free := by unfold blk; cases O b <;> simp [Own.blk]
theorem blk_cases (O : Ow) (b : Addr) : blk O b = .free ∨ blk O b = .out := by unfold blk; cases O b <;> simp [Own.blk]
theorem blk_fre (O : Ow) : Fre O (blk O) := ⟨fun _ h => blk_free.mpr h⟩
theorem LsV.blk {K : PySem.W.Frag} {O : Ow} {H : Hp} {a : Addr} {ys : List V} (h : LsV K O H a ys) : LsV K (blk O) H a ys := by
  rcases h with ⟨h, f⟩ | h
  · refine .inl ⟨h, ?_⟩
    rcases f with f | f
    · exact .inl (blk_free.mpr f)
    · exact .inr (by unfold L3.blk; rw [f]; rfl)
  · exact .inr h
theorem S3.blk {K : PySem.W.Frag} {mg : Str → Option Value} {O : Ow} {σ : En} {S : Store} {σV : St} {H : Hp} (st : S3 K mg O σ S σV H) (n : Nat) (cap : List Nat) : S3 K mg (blk O) (cpEn n cap σ) S (cpSt n cap σV) H := by
  refine ⟨⟨fun a ha => st.dom.has a fun z => ha (blk_free.mpr z), st.dom.tabs⟩, ?_, fun i s e => ?_, st.emp⟩
  · unfold cpEn cpSt
    rw [List.length_append, List.length_append, List.length_replicate, List.length_replicate, List.length_map, List.length_map]
  · unfold cpEn at e
    unfold cpSt
    by_cases hi : i < n
    · rw [List.getElem?_append_left (by simpa using hi), List.getElem?_replicate, if_pos hi] at e
      cases e
      exact trivial
    · rw [List.getElem?_append_right (by simpa using hi), List.length_replicate, List.getElem?_map] at e
      rw [List.getElem?_append_right (by simpa using hi), List.length_replicate, List.getElem?_map]
      cases ec : cap[i - n]? with
      | none => rw [ec] at e; cases e
      | some k =>
        rw [ec] at e
        have e' : cpSlot σ[k]? = s := Option.some.inj e
        show SlotR K mg _ H _ s (some (σV[k]?.join)).join
        cases es : σ[k]? with
        | none => rw [es] at e'; subst e'; exact trivial
        | some s0 =>
          rw [es] at e'
          have l := st.loc k s0 es
          cases s0 with
          | emp => subst e'; exact trivial
          | dct _ => subst e'; obtain ⟨a, ys, q, o, l, r⟩ := l; exact ⟨a, ys, q, ⟨.inl l, .inr (by unfold L3.blk; rw [o]; rfl)⟩, r.fre (blk_fre O)⟩
          | pd _ => subst e'; obtain ⟨a, ys, q, o, l, r⟩ := l; exact ⟨a, ys, q, ⟨.inl l, .inr (by unfold L3.blk; rw [o]; rfl)⟩, r.1, r.2.fre (blk_fre O)⟩
          | vp _ => subst e'; obtain ⟨a, ys, q, l, r⟩ := l; exact ⟨a, ys, q, ⟨l.1, l.2.elim (fun f => .inl (blk_free.mpr f)) fun f => .inr (by unfold L3.blk; rw [f]; rfl)⟩, r.1, r.2.fre (blk_fre O)⟩
          | tr _ _ => subst e'; exact trivial
          | vd _ => subst e'; obtain ⟨a, ys, q, l, r⟩ := l; exact ⟨a, ys, q, ⟨l.1, l.2.elim (fun f => .inl (blk_free.mpr f)) fun f => .inr (by unfold L3.blk; rw [f]; rfl)⟩, r.fre (blk_fre O)⟩
          | val d => subst e'; obtain ⟨v, q, r⟩ := l; exact ⟨v, q, r.fre (blk_fre O)⟩
          | vw xs => subst e'; obtain ⟨a, ys, q, l, r⟩ := l; exact ⟨a, ys, q, l.blk, r.fre (blk_fre O)⟩
          | ow p xs => subst e'; obtain ⟨a, ys, q, o, l, r⟩ := l; exact ⟨a, ys, q, .inl ⟨.inl l, .inr (by unfold L3.blk; rw [o]; rfl)⟩, r.fre (blk_fre O)⟩
theorem S3.updT {K : PySem.W.Frag} {mg : Str → Option Value} {O : Ow} {H : Hp} {l : Addr} {zs ws : List V} {σ : En} {S : Store} {σV : St} (st : S3 K mg O σ S σV H) (ho : O l = .tmp) (hl : H l = some (.lst zs)) : S3 K mg O σ S σV (upd H l (.lst ws)) := by
  have ne : ∀ w : Own, w ≠ .tmp → O l ≠ w := fun w hw z => hw (z.symm.trans ho)
  exact ⟨st.dom.updL hl, st.len, fun j t e => (st.loc j t e).updL (ne _ (by intro z; cases z)) (ne _ (by intro z; cases z)) (ne _ (by intro z; cases z)) (fun p => ne _ (by intro z; cases z)) hl, st.emp⟩
section
variable {K : PySem.W.Frag} {mg : Str → Option Value} {n : Nat} {cap : List Nat} {it : MI} {t : En → M Bool} {el : ME}
inductive CompI (K : PySem.W.Frag) (mg : Str → Option Value) (n : Nat) (cap : List Nat) (t : En → M Bool) (el : ME) (O1 : Ow) (σ : En) (S' : Store) (σV : St) (H1 : Hp) (A : Addr) (ds xs : List L3.D) (k : Nat) (zs : List V) (H' : Hp) : Prop
  | mk (O' : Ow) (S'' : Store) (acc xs' : List L3.D) (st' : S3 K mg O' (cpEn n cap σ) S'' (cpSt n cap σV) H') (s' : Same H1 H') (own' : ∀ b, H1 b ≠ none → O' b = blk O1 b) (tD : O' A = .tmp) (hH : H' A = some (.lst zs)) (hz : zs.length ≤ k)
      (rz : RepAll K mg O' H' acc zs) (h : (kLoop t el (cpEn n cap σ) (ds.drop k)).run S'' = .ok xs' S') (ex : acc ++ xs' = xs)
theorem comp_read (hn : 0 < n) : ∀ σV H Q, teOf K mg (cComp n cap it t el) σV H Q → tComp n cap (tcOf K mg it) (gName 0) (ttOf K mg t) (teOf K mg el) σV H Q := by
  rintro σV H Q ⟨O, σ, S, r, S', st, h, q⟩
  obtain ⟨ds, S1, h1, h⟩ := M.inv h
  obtain ⟨_, S2, h2, h⟩ := M.inv h
  obtain ⟨hlen, rfl⟩ := chk_inv h2
  obtain ⟨xs, S3', h3, h⟩ := M.inv h
  cases h
  refine ⟨O, σ, S, ds, S1, st, h1, fun O1 H1 J ys g1 st1 its ra => fun D hD => ?_⟩
  have stb : S3 K mg (updO (blk O1) D .tmp) (cpEn n cap σ) S1 (cpSt n cap σV) (upd H1 D (.lst [])) := (st1.blk n cap).new hD
  refine ⟨fun k m zs H' => m = ys.length - k ∧ k ≤ ys.length ∧ CompI K mg n cap t el O1 σ S' σV H1 D ds xs k zs H',
    ⟨_, rfl, Nat.zero_le _, _, S1, [], xs, stb, same_new hD _, fun b hb => updO_ne (by rintro rfl; exact hb hD), updO_same, upd_same, Nat.le_refl _, rfl, h3, rfl⟩, ?_⟩
  rintro k m zs H' ⟨rfl, hk, O', S'', acc, xs', st', s', own', tD, hH, hz, rz, h, ex⟩
  cases e : ds.drop k with
  | nil =>
    have hl : ys.length ≤ k := by
      have := congrArg List.length e
      rw [List.length_drop, List.length_nil] at this
      rw [ra.len]; omega
    rw [e] at h
    cases h
    rw [List.append_nil] at ex
    subst ex
    refine .inl ⟨(its H' s' k).2 hl, ?_⟩
    let Of : Ow := fun b => match H1 b with | none => O' b | some _ => O1 b
    have ofOld : ∀ b, H1 b ≠ none → Of b = O1 b := fun b hb => by
      show (match H1 b with | none => O' b | some _ => O1 b) = O1 b
      cases e : H1 b with
      | none => exact absurd e hb
      | some _ => rfl
    have ofNew : ∀ b, H1 b = none → Of b = O' b := fun b hb => by
      show (match H1 b with | none => O' b | some _ => O1 b) = O' b
      rw [hb]
    have fre : Fre O' Of := ⟨fun b hb => by
        by_cases hb1 : H1 b = none
        · rw [ofNew b hb1]; exact hb
        · rw [ofOld b hb1]; exact blk_free.mp ((own' b hb1).symm.trans hb)⟩
    have go : Go O1 Of H1 H' := ⟨s', ofOld⟩
    have dom : Dom Of H' := ⟨fun b hb => by
      by_cases hb1 : H1 b = none
      · rw [ofNew b hb1] at hb; exact st'.dom.has b hb
      · exact s'.some hb1, st'.dom.tabs⟩
    have eS : S1 = S' := st1.emp.trans st'.emp.symm
    subst eS
    refine q Of (.ref D) H' (g1.trans go) (st1.go go dom) ⟨D, zs, rfl, hH, (ofNew D hD).trans tD, rz.fre fre⟩ fun a ea => ?_
    cases ea
    exact g1.same.free hD
  | cons d ds' =>
    have raK : RepAll K mg O' H' ds ys := (ra.fre (blk_fre O1)).go ⟨s', own'⟩
    obtain ⟨y, ey, ry, e'⟩ := raK.get' e
    have hlt : k < ys.length := (List.getElem?_eq_some_iff.mp ey).1
    obtain ⟨go, yl⟩ := (its H' s' k).1 hlt
    rw [e] at h
    obtain ⟨b, S2, h2, h⟩ := M.inv h
    refine .inr ⟨go, fun x H2 yy => ?_⟩
    obtain ⟨eH, exx⟩ := yl x H2 yy
    have eH' := eH.symm
    subst eH'
    rw [ey] at exx
    cases exx
    have h0 : (cpSt n cap σV)[0]? = some none := by
      cases n with
      | zero => exact absurd hn (Nat.lt_irrefl _)
      | succ j => rfl
    refine ⟨(Fgt.refl _).set h0, O', _, S'', b, S2, st'.val ry, h2, fun O2 H3 g2 st2 => ?_⟩
    cases b with
    | false =>
      rw [if_neg Bool.false_ne_true] at h
      refine iteF ⟨ys.length - (k + 1), by omega, rfl, hlt, O2, S2, acc, xs', ?_, s'.trans g2.same, fun b hb => (g2.own b (s'.some hb)).trans (own' b hb), (g2.own D (by rw [hH]; intro z; cases z)).trans tD, g2.same.at' _ _ hH, by omega, rz.go g2, by rw [e']; exact h, ex⟩
      have eS : S'' = S2 := st'.emp.trans st2.emp.symm
      exact eS ▸ st'.go g2 st2.dom
    | true =>
      rw [if_pos rfl] at h
      obtain ⟨r, S4, h4, h⟩ := M.inv h
      obtain ⟨x, S5, h5, h⟩ := M.inv h
      obtain ⟨xs2, S6, h6, h⟩ := M.inv h
      cases h
      refine iteT ⟨O2, _, S2, r, S4, st2, h4, fun O3 v H4 g3 st3 rr nn => ?_⟩
      obtain ⟨rx, rfl⟩ := dat_rep (H₀ := H3) rr nn h5
      have G : Go O' (frz H3 O3) H' H4 := g2.trans g3.frz
      have hD4 : H4 D = some (.lst zs) := G.same.at' _ _ hH
      have tD4 : frz H3 O3 D = .tmp := (G.own D (by rw [hH]; intro z; cases z)).trans tD
      have eS : S'' = S4 := st'.emp.trans st3.emp.symm
      refine ⟨hD4, by rw [ra.len] at hlt; omega, ys.length - (k + 1), by omega, rfl, hlt, frz H3 O3, S4, acc ++ [x], xs2, ?_, upd_over hD (s'.trans G.same) hD4 _, fun b hb => (G.own b (s'.some hb)).trans (own' b hb), tD4, upd_same,
        by rw [List.length_append, List.length_singleton]; omega, ((rz.go G).append (.one rx)).updL (by rw [tD4]; intro z; cases z) hD4, by rw [e']; exact h6, by rw [List.append_assoc]; exact ex⟩
      exact eS ▸ (st'.go G (st3.frz H3).dom).updT tD4 hD4
end
section
variable {X : Cx} {scope esc : Scope} {EN N : List Str} {n : Nat} {cap : List Nat} {elt iter : Expr} {ifs : List Expr} {pos tpos : Pos} {x : Str} {it : MI} {t : En → M Bool} {el : ME}
theorem asg_comp {i : Nat} {y : Str} {py spos : Pos} (S : CpScope esc scope EN N n cap) (hNd : X.N.Nodup) (hi' : X.N[i]? = some y) (hy : X.env.scope.names.lookup y = some .local) (hn : 0 < n) (hi : CIc X (.Name x tpos) iter it) (hx : N[0]? = some x) (hlx : ∀ C fp s H, Loc (cxComp X scope N C fp s H).env.scope x ∧ (cxComp X scope N C fp s H).env.scope.names.lookup x = some .local)
    (ht : ∀ C fp s H, CFs (cxComp X scope N C fp s H) ifs t) (hel : ∀ C fp s H, CE (cxComp X scope N C fp s H) elt el)
    (he : X.env.scope = esc := by rfl) (hN : X.N = EN := by rfl) (hc : X.calm = true := by rfl) (hs : ∀ x, foldedSetIterable iter X.env x = pure x := by intro _; rfl)
    (hsw : swapsWith (.ListComp elt [⟨.Name x tpos, iter, ifs, 0⟩] scope pos) (some (.Name y py)) spos.line X.env = pure true := by rfl) :
    PS X (.Assign [.Name y py] (.ListComp elt [⟨.Name x tpos, iter, ifs, 0⟩] scope pos) spos) (tAsg (tComp n cap (tcOf X.K X.mg it) (gName 0) (ttOf X.K X.mg t) (teOf X.K X.mg el)) (gName i)) :=
  ps_comp (wi := tcOf X.K X.mg it) (g := gName 0) (tt := ttOf X.K X.mg t) (te := teOf X.K X.mg el) S hNd hi' hy hi (fun C fp s H => pg_name S.nd hx (hlx C fp s H).1 (.inr (hlx C fp s H).2)) ht hel he hN hc hs hsw
end
/-! ### calls of defs -/
noncomputable abbrev MF := List D → M R
noncomputable def ArgR (K : PySem.W.Frag) (mg : Str → Option Value) (O : Ow) (H : Hp) : D → V → Prop
  | .lst xs, v => ∃ a ys, v = .ref a ∧ SqL K H a ys ∧ RepAll K mg O H xs ys
  | .dic ks vs, v => ∃ a kvv, v = .ref a ∧ Rd H a (.dK kvv) ∧ RepKV K mg O H (ks.zip vs) kvv
  | d, v => Rep K mg O H d v
noncomputable def ArgAll (K : PySem.W.Frag) (mg : Str → Option Value) (O : Ow) (H : Hp) : List D → List V → Prop
  | [], ys => ys = []
  | x :: xs, ys => ∃ y r, ys = y :: r ∧ ArgR K mg O H x y ∧ ArgAll K mg O H xs r
theorem zip_un {α β : Type} : ∀ l : List (α × β), (l.map (·.1)).zip (l.map (·.2)) = l
  | [] => rfl
  | x :: l => by rw [List.map_cons, List.map_cons, List.zip_cons_cons, zip_un l]
noncomputable def slotOf : D → Slot
  | .lst xs => .vw xs
  | .dic ks vs => .vd (ks.zip vs)
  | d => .val d
theorem arg_of {K : PySem.W.Frag} {mg : Str → Option Value} {O : Ow} {H : Hp} {r : R} {v : V} (h : RepR K mg O H r v) : ArgR K mg O H r.arg v := by
  match r, h with
  | .v (.lst xs), h => obtain ⟨a, ys, q, l, r⟩ := h; exact ⟨a, ys, q, l.sq, r⟩
  | .fr xs, h => obtain ⟨a, ys, q, l, _, r⟩ := h; exact ⟨a, ys, q, SqL.of l, r⟩
  | .vw xs, h => obtain ⟨a, ys, q, l, r⟩ := h; exact ⟨a, ys, q, l.sq, r⟩
  | .mv xs, h => obtain ⟨a, ys, q, l, r⟩ := h; exact ⟨a, ys, q, SqL.of l, r⟩
  | .v .non, h => exact h
  | .v (.bl _), h => exact h
  | .v (.int _), h => exact h
  | .v (.str _), h => exact h
  | .v (.tup _), h => exact h
  | .v (.dic _ _), h => exact False.elim h
  | .dv kvs, h => obtain ⟨a, kvv, q, l, r⟩ := h; exact ⟨a, kvv, q, l, by rw [zip_un]; exact r⟩
  | .v (.fn _), h => exact h
  | .v (.ty _), h => exact h
theorem args_of {K : PySem.W.Frag} {mg : Str → Option Value} {O : Ow} {H : Hp} : ∀ {rs : List R} {vs : List V}, RepRs K mg O H rs vs → ArgAll K mg O H (rs.map R.arg) vs
  | [], _, h => h
  | _ :: _, _, h => by obtain ⟨y, r, q, a, b⟩ := h; exact ⟨y, r, q, arg_of a, args_of b⟩
theorem ArgAll.len {K : PySem.W.Frag} {mg : Str → Option Value} {O : Ow} {H : Hp} : ∀ {ds : List D} {vs : List V}, ArgAll K mg O H ds vs → vs.length = ds.length
  | [], _, h => by cases h; rfl
  | _ :: _, _, h => by obtain ⟨x, r, rfl, _, b⟩ := h; rw [List.length_cons, List.length_cons, ArgAll.len b]
theorem ArgAll.get {K : PySem.W.Frag} {mg : Str → Option Value} {O : Ow} {H : Hp} : ∀ {ds : List D} {xs : List V} {i : Nat} {d : D}, ArgAll K mg O H ds xs → ds[i]? = some d → ∃ x, xs[i]? = some x ∧ ArgR K mg O H d x
  | [], _, _, _, _, e => by simp at e
  | _ :: _, _, 0, d, h, e => by obtain ⟨x, r, rfl, a, _⟩ := h; cases (show some _ = some d from e); exact ⟨x, rfl, a⟩
  | _ :: ds, _, i + 1, d, h, e => by
    obtain ⟨x, r, rfl, _, b⟩ := h
    obtain ⟨y, e1, e2⟩ := ArgAll.get (i := i) b (by simpa using e)
    exact ⟨y, by simpa using e1, e2⟩
noncomputable def spF (K : PySem.W.Frag) (mg : Str → Option Value) (mf : MF) : Sp := fun vs H Q _ => ∃ O ds r S', Dom O H ∧ ArgAll K mg O H ds vs ∧ (mf ds).run [] = .ok r S' ∧ ∀ O' v H', Go O O' H H' → Dom O' H' → S' = [] → RepR K mg O' H' r v → NewR H r v → Q v H'
noncomputable def cCall (mf : MF) (ms : MA) : ME := fun σ => do
  let rs ← ms σ
  mf (rs.map R.arg)
section
variable {X : Cx} {x : Str} {ps : List Str} {k : Nat} {mf : MF} {p pos : Pos} {e : Expr} {es : List Expr} {ms : MA}
theorem call_read {K : PySem.W.Frag} {mg : Str → Option Value} : ∀ σV H Q, teOf K mg (cCall mf ms) σV H Q → tFn (spF K mg mf) (taOf K mg ms) σV H Q := by
  rintro σV H Q ⟨O, σ, S, r, S', st, h, q⟩
  obtain ⟨rs, S1, h1, h⟩ := M.inv h
  refine ⟨O, σ, S, rs, S1, st, h1, fun O1 vs H1 g1 st1 rr nn => ?_⟩
  have eS := st1.emp
  subst eS
  refine ⟨O1, _, r, S', st1.dom, args_of rr, h, fun O' v H' g d e r' n' => q O' v H' (g1.trans g) ?_ r' (n'.back g1.same)⟩
  subst e
  exact st1.go g d
theorem ce_call (h : Has X.prog X.w X.K X.mg X.base x ps k (spF X.K X.mg mf)) (hr : Room k X.A) (hg : Gl X x) (ha : CA X (e :: es) ms) (hdb : (x == ("__debug__" : Str)) = false := by decide)
    (he : starEach (e :: es) X.env = (false, eval e X.env) :: starEach es X.env := by rfl) (hpl : (backTo pos (starEach es X.env)).any (·.1) = false := by rfl) : CE X (.Call (.Name x p) (e :: es) [] pos) (cCall mf ms) :=
  pe_imp (pe_fn h hr hg ha hdb he hpl) call_read
end
/-! ### defs -/
noncomputable def fnOf (n N : Nat) (b : MS) : MF := fun ds => if ds.length = n then do
    let fl ← b (ds.map slotOf ++ List.replicate (N - n) .emp)
    match fl with
    | .rt (.v d) => pure (.v d)
    | .rt (.fr xs) => pure (.fr xs)
    | .nx _ => pure (.v .non)
    | _ => bad
  else bad
/-- a callee's owners: all that is somebody's is others' -/
theorem slot_arg {K : PySem.W.Frag} {mg : Str → Option Value} {O : Ow} {H : Hp} {w : Own} {d : D} {v : V} (h : ArgR K mg O H d v) : SlotR K mg (blk O) H w (slotOf d) (some v) := by
  have val : Rep K mg O H d v → SlotR K mg (blk O) H w (.val d) (some v) := fun h => ⟨v, rfl, h.fre (blk_fre O)⟩
  match d, h, val with
  | .lst xs, h, _ =>
    obtain ⟨a, ys, rfl, l, r⟩ := h
    exact ⟨a, ys, rfl, l.imp (fun z => ⟨z, blk_cases O a⟩) id, r.fre (blk_fre O)⟩
  | .non, h, val => exact val h
  | .bl _, h, val => exact val h
  | .int _, h, val => exact val h
  | .str _, h, val => exact val h
  | .tup _, h, val => exact val h
  | .dic ks vs, h, _ => obtain ⟨a, kvv, rfl, l, r⟩ := h; exact ⟨a, kvv, rfl, ⟨l, blk_cases O a⟩, r.fre (blk_fre O)⟩
  | .fn _, h, val => exact val h
  | .ty _, h, val => exact val h
omit [L2.TabP] in
theorem fnOf_len {n N : Nat} {b : MS} {ds : List D} {S S' : Store} {r : R} (h : (fnOf n N b ds).run S = .ok r S') : ds.length = n := by
  unfold fnOf at h
  by_cases c : ds.length = n
  · exact c
  · rw [if_neg c] at h; cases h
theorem body_read {K : PySem.W.Frag} {mg : Str → Option Value} {ps N : List Str} {mb : MS} {vs : List V} {H : Hp} {Q : VK} {E : XK} (hsp : spF K mg (fnOf ps.length N.length mb) vs H Q E) : tsOf K mg mb { nx := fun _ H' => Q .non H', rt := Q } (L2.start N vs) H := by
  obtain ⟨O, ds, r, S', dm, ar, h, q⟩ := hsp
  have hl := fnOf_len h
  have hlv := ar.len
  unfold fnOf at h
  rw [if_pos hl] at h
  obtain ⟨fl, S1, h1, h⟩ := M.inv h
  have st0 : S3 K mg (blk O) (ds.map slotOf ++ List.replicate (N.length - ps.length) .emp) [] (L2.start N vs) H := by
    refine ⟨⟨fun a ha => dm.has a fun z => ha (blk_free.mpr z), dm.tabs⟩, ?_, fun i s e => ?_, rfl⟩
    · unfold L2.start
      rw [List.length_append, List.length_append, List.length_map, List.length_map, List.length_replicate, List.length_replicate, hlv, hl]
    · by_cases hi : i < ds.length
      · rw [List.getElem?_append_left (by rw [List.length_map]; exact hi), List.getElem?_map] at e
        cases ed : ds[i]? with
        | none => rw [ed] at e; cases e
        | some d =>
          rw [ed] at e
          cases e
          obtain ⟨v, ev, rv⟩ := ar.get ed
          unfold L2.start
          rw [List.getElem?_append_left (by rw [List.length_map, hlv]; exact hi), List.getElem?_map, ev]
          exact slot_arg rv
      · rw [List.getElem?_append_right (by rw [List.length_map]; omega), List.getElem?_replicate] at e
        split at e
        · cases e; exact trivial
        · cases e
  have old : ∀ b, H b ≠ none → blk O b = .free ∨ blk O b = .out := fun b _ => blk_cases O b
  -- the caller's owners behind the call
  have back : ∀ {O' : Ow} {H' : Hp}, Gs (blk O) O' H H' → Dom O' H' → ∃ O2 : Ow, Go O O2 H H' ∧ Dom O2 H' ∧ Fre O' O2 ∧ ∀ b, (O' b = .tmp ∨ ∃ i, O' b = .loc i) → H b = none ∧ O2 b = .tmp := fun {O' H'} g d => by
    refine ⟨fun b => match H b with | some _ => O b | none => (match O' b with | .loc _ => .tmp | o => o), ⟨⟨fun b o e n => g.cells b o e ((old b (by rw [e]; intro z; cases z)).elim .inl fun z => .inr (.inl z)) n, g.tb, g.gd⟩, fun b hb => ?_⟩, ⟨fun b hb => ?_, d.tabs⟩, ⟨fun b hb => ?_⟩, fun b hb => ?_⟩
    · cases e : H b with
      | none => exact absurd e hb
      | some o => rfl
    · cases e : H b with
      | some o => exact g.has b (by rw [e]; intro z; cases z)
      | none =>
        rw [e] at hb
        refine d.has b fun z => hb ?_
        dsimp only
        rw [z]
    · cases e : H b with
      | some o =>
        dsimp only
        have := (g.own b (by rw [e]; intro z; cases z) (blk_cases O b)).symm.trans hb
        exact blk_free.mp this
      | none =>
        dsimp only
        rw [hb]
    · have hn : H b = none := by
        cases e : H b with
        | none => rfl
        | some o =>
          exfalso
          have q1 := g.own b (by rw [e]; intro z; cases z) (blk_cases O b)
          rcases blk_cases O b with z | z <;> rw [z] at q1 <;> rcases hb with w | ⟨i, w⟩ <;> rw [q1] at w <;> cases w
      refine ⟨hn, ?_⟩
      dsimp only
      rw [hn]
      rcases hb with w | ⟨i, w⟩ <;> rw [w]
  refine ⟨blk O, _, [], fl, S1, st0, h1, ?_⟩
  cases fl with
  | nx σ' =>
    cases h
    intro O' σV' H' g st' _
    obtain ⟨O2, g2, d2, f2, _⟩ := back g st'.dom
    exact q O2 .non H' g2 d2 st'.emp rfl trivial
  | bk σ' => cases h
  | ct σ' => cases h
  | rt r' =>
    intro O' v H' g d eS rr
    obtain ⟨O2, g2, d2, f2, t2⟩ := back g d
    cases r' with
    | v dd => cases h; exact q O2 v H' g2 d2 eS (Rep.fre f2 rr) trivial
    | fr xs =>
      cases h
      obtain ⟨a, ys, rfl, l, t, ra⟩ := rr
      obtain ⟨hn, ht⟩ := t2 a t
      exact q O2 _ H' g2 d2 eS ⟨a, ys, rfl, l, ht, ra.fre f2⟩ fun b eb => by cases eb; exact hn
    | vw xs => exact False.elim rr
    | mv xs => exact False.elim rr
    | dv _ => exact False.elim rr
theorem fn_sim {P : Program} {w : World} {K : PySem.W.Frag} {mg : Str → Option Value} {base : Heap} {x qual : Str} {st : Stmt} {ps N : List Str} {k : Nat} {mb : MS} {f : Addr} {fd : FuncData} {n nl : Nat} (F : Fun K x qual st f fd) (Sc : FnScope N ps (defScope st)) (hn : ps.length = n) (hl : N.length = nl)
    (hb : ∀ (cdv : Value) (A : Around) (outer : List Env) (s : Shared) (H : Hp) (E : XK), Room k (A.deeper (PyProof.Rows.envOfC qual (defScope st) s.heap.objs.size f cdv)) →
      CSs (cxOf CX0 P w K mg base N qual (defScope st) f cdv A outer s H E).nox (defBody st) mb) : FnOk P w K mg base CX0 (k + 1) f fd ps (spF K mg (fnOf n nl mb)) := by
  subst hn hl
  exact F.ok Sc (fun vs H Q E ⟨O, ds, r, S', dm, ar, h, q⟩ => ar.len.trans (fnOf_len h)) fun cdv A outer s H vs Q E hr hsp => ⟨_, hb cdv A outer s H E hr, body_read hsp⟩
theorem has_of {P : Program} {w : World} {K : PySem.W.Frag} {mg : Str → Option Value} {base : Heap} {x : Str} {st : Stmt} {ps N : List Str} {k : Nat} {mb : MS} {n nl : Nat} (Df : Df K mg x st ps) (Sc : FnScope N ps (defScope st)) (hn : ps.length = n) (hl : N.length = nl)
    (hb : ∀ (f : Addr) (cdv : Value) (A : Around) (outer : List Env) (s : Shared) (H : Hp) (E : XK), Room k (A.deeper (PyProof.Rows.envOfC x (defScope st) s.heap.objs.size f cdv)) →
      CSs (cxOf CX0 P w K mg base N x (defScope st) f cdv A outer s H E).nox (defBody st) mb) : Has P w K mg base x ps (k + 1) (spF K mg (fnOf n nl mb)) := by
  obtain ⟨f, fd, F, b, m⟩ := Df.ex
  exact ⟨f, fd, fn_sim F Sc hn hl (fun cdv => hb f cdv), b, F.kp, m⟩
/-- the law itself -/
theorem law_of {P : Program} {w : World} {K : PySem.W.Frag} {mg : Str → Option Value} {base : Heap} {f : Addr} {fd : FuncData} {k : Nat} {mf : MF} (F : FnOk P w K mg base CX0 k f fd ["script"] (spF K mg mf))
    (h : ∀ ns : List Int, ns.length ≤ 63 → ∃ S', (mf [.lst (ns.map D.int)]).run [] = .ok (.v (.bl true)) S') :
    FnOk P w K mg base CX0 k f fd ["script"] (fun vs H Q _ => ∃ (a : Addr) (ns : List Int), vs = [.ref a] ∧ SqL K H a (ns.map V.int) ∧ ns.length ≤ 63 ∧ TabsOk H ∧ ∀ H', Q (.bl true) H') := by
  refine F.imp fun vs H Q E ⟨a, ns, e, hS, hn, tb, q⟩ => ?_
  subst e
  obtain ⟨S', h'⟩ := h ns hn
  refine ⟨fun _ => .free, [.lst (ns.map D.int)], _, S', ⟨fun a ha => absurd rfl ha, tb⟩, ⟨_, _, rfl, ⟨a, _, rfl, hS, repAll_ints ns⟩, rfl⟩, h', fun O' v H' _ _ _ rr _ => ?_⟩
  cases (show v = .bl true from rr)
  exact q H'
end L3

set_option Elab.async false
set_option linter.all false
set_option maxRecDepth 100000
set_option maxHeartbeats 1000000
namespace L3
open PySem PySem.Spec L2
variable [L2.TabP]
omit [L2.TabP] in
theorem df_mk {K : PySem.W.Frag} {h : Heap} {mg : Str → Option Value} {x : Str} {st : Stmt} {f : Addr} {ps : List Str} {od an : Option Addr} {sl : Array (Option Value)} {oc kV dc pm cd ct : Value} (X : K.In h) (G : h.Ns mainGlobals mg)
    (a : PySem.W.nsIn K mainGlobals x = some (some (.ref f))) (l : K.lookup f = some ⟨oc, od, .func (PySem.W.fnOf x x (defArgs st) (defBody st) (defScope st) .none kV dc pm an cd ct), sl⟩) (c : PySem.W.codeIn K cd x = true) (k : PySem.W.keepIn K (.ref f) = true)
    (hb : ∀ (kV doc pm : Value) (an : Option Addr) (cdv ct : Value) (us : List Value), us.length = ps.length → bindArgs (PySem.W.fnOf x x (defArgs st) (defBody st) (defScope st) .none kV doc pm an cdv ct) ⟨us, []⟩ = pure (ps.zip us)) : Df K mg x st ps :=
  ⟨f, _, fun_mk (st := st) l c k, (fun_mk (st := st) l c k).binds hb, PySem.W.mg_of X G a⟩
noncomputable abbrev spLaw (K : PySem.W.Frag) : Sp := fun vs H Q _ => ∃ (a : Addr) (ns : List Int), vs = [.ref a] ∧ SqL K H a (ns.map V.int) ∧ ns.length ≤ 63 ∧ TabsOk H ∧ ∀ H', Q (.bl true) H'
theorem all_mk {l : PySem.W.OpenLaw} {w : World} {K : PySem.W.Frag} {mg : Str → Option Value} {fa : Addr} {k : Nat} {st : Stmt} {mf : MF} (hfa : mg "law" = some (.ref fa)) (Dl : Df K mg "law" st ["script"])
    (hb : ∀ (kV doc pm : Value) (an : Option Addr) (cdv ct v : Value), bindArgs (PySem.W.fnOf "law" "law" (defArgs st) (defBody st) (defScope st) .none kV doc pm an cdv ct) ⟨[v], []⟩ = pure [(("script" : Str), v)])
    (ht : ∀ ns : List Int, ns.length ≤ 63 → ∃ S', (mf [.lst (ns.map D.int)]).run [] = .ok (.v (.bl true)) S')
    (ok : ∀ (base : Heap) (f : Addr) (fd : FuncData), Fun K "law" "law" st f fd → FnOk l.prog w K mg base CX0 k f fd ["script"] (spF K mg mf)) :
    ∃ fd : FuncData, (∀ (s : Shared) (v : Value), BindsTo s fd ⟨[v], []⟩ [("script", v)]) ∧ ∀ base : Heap, K.In base → base.Ns mainGlobals mg → FnOk l.prog w K mg base CX0 k fa fd ["script"] (spLaw K) := by
  obtain ⟨f, fd, F, b, m⟩ := Dl.ex
  have e : Value.ref fa = Value.ref f := Option.some.inj (hfa.symm.trans m)
  cases e
  refine ⟨fd, fun s v => ?_, fun base _ _ => law_of (ok base fa fd F) ht⟩
  obtain ⟨oc, od, kV, doc, pm, an, cdv, ct, osl, rfl, lk, hcd⟩ := F.ex
  exact .of_eq (hb kV doc pm an cdv ct v)
theorem walk {l : PySem.W.OpenLaw} {q : Program} {k : Nat} {loose : List Str} {XP : (Str → Option Value) → Heap → Prop} {YP : World → Heap → Prop} {d : DefRec} {K : Params → PySem.W.Frag} (hn : l.most = some 63) (hdf : d.params.defaults = []) (hr : Room k callerA) (hT : ∀ P, ¬ TabP.tp P)
    (hY : ∀ (w : World) (h : Heap), YP w h → (K w.params).In h)
    (F : ∀ (w : World) (mg : Str → Option Value) (fa : Addr) (h : Heap), (K w.params).In h → h.Ns mainGlobals mg → mg d.name = some (.ref fa) →
      ∃ fd : FuncData, (∀ (s : Shared) (u : Value), BindsTo s fd ⟨[u], []⟩ [("script", u)]) ∧ ∀ base : Heap, (K w.params).In base → base.Ns mainGlobals mg → FnOk l.prog w (K w.params) mg base CX0 k fa fd ["script"] (spLaw (K w.params))) :
    PySem.W.WalkO q loose XP YP l.row.toRowW d [] (fun f vs => PySem.call f vs) :=
  L2.walk_of (n := 63) (k := k) (x := "script") (CX := fun _ => CX0) (sp := fun w => spLaw (K w.params)) hn (by decide) hdf hr hY F (fun _ _ a ns hl _ hS => ⟨a, ns, rfl, hS, hl, fun P hP => (hT P hP).elim, fun _ => rfl⟩) fun _ _ _ _ _ z => z
end L3

set_option Elab.async false
set_option linter.all false
set_option maxRecDepth 100000
set_option maxHeartbeats 1000000
namespace L3
open PySem PySem.Spec L2
variable [L2.TabP]
/-! ### big numbers -/
/-- 2 to the 1000 -/
noncomputable abbrev BIG : Nat := 10715086071862673209484250490600018105614048117055336074437503883703510511249361224931983788156958581275946729175531468251871452856923140435984577574698574803934567774824230985421074605062371141877954182153046474983581941267398767559165543946077062914571196477686542167660429831652624386837205668069376
omit [L2.TabP] in
theorem big_eq : BIG = 2 ^ 1000 := by decide +kernel
omit [L2.TabP] in
theorem natBits {i : Int} (h : i.natAbs < BIG) : Builtin.Int.intBits i ≤ 1000 := by
  unfold Builtin.Int.intBits
  split
  · exact Nat.zero_le _
  · rename_i hz
    have : i.natAbs.log2 < 1000 := (Nat.log2_lt (by simpa using hz)).mpr (big_eq ▸ h)
    omega
noncomputable def CMulB (i j : Int) : Prop := (-(2 ^ 64) < i ∧ i < 2 ^ 64) ∨ (-(2 ^ 64) < j ∧ j < 2 ^ 64) ∨ (i.natAbs < BIG ∧ j.natAbs < BIG)
omit [L2.TabP] in
theorem CMulB.ok {i j : Int} (h : CMulB i j) : IntMulOk i j := by
  rcases h with h | h | h
  · exact (show CMul i j from .inl h).ok
  · exact (show CMul i j from .inr h).ok
  · have h1 := natBits h.1
    have h2 := natBits h.2
    have hb : Builtin.Int.intTooBig (Builtin.Int.intBits i + Builtin.Int.intBits j) = false := by
      unfold Builtin.Int.intTooBig
      refine decide_eq_false ?_
      have : (2000 : Int) ≤ ((bitsLine : Nat) : Int) := by decide
      omega
    unfold IntMulOk
    rw [hb]
    simp
noncomputable instance (i j : Int) : Decidable (CMulB i j) := by unfold CMulB; exact inferInstance
theorem op_mulB {X : Cx} : OpR X (binaryOp .Mult) (rI CMulB fun i j => .int (i * j)) := opI fun _ _ _ _ _ _ _ hc q => PyProof.Rows.mul_int q hc.ok
noncomputable abbrev oMulB := oI CMulB (· * ·)
theorem bMulB {X : Cx} : Bin X.K X.mg (rI CMulB fun i j => .int (i * j)) oMulB := bin_I fun _ _ h => h
noncomputable def CDivB (_ j : Int) : Prop := 0 < j ∧ j.natAbs < BIG
noncomputable instance (i j : Int) : Decidable (CDivB i j) := by unfold CDivB; exact inferInstance
theorem op_fdivB {X : Cx} : OpR X (binaryOp .FloorDiv) (rI CDivB fun i j => .int (i / j)) := opI fun i j _ _ _ _ _ hc q => by
  have h1 : (0 : Int) < j := hc.1
  have h2 : j.natAbs < BIG := hc.2
  refine PyProof.Rows.floordiv_int (by omega) (by rw [Int.fdiv_eq_ediv_of_nonneg i (by omega)]; exact q) (.inl (PyProof.noPylong_of_log2 ?_))
  have : j.natAbs.log2 < 1000 := (Nat.log2_lt (by omega)).mpr (big_eq ▸ h2)
  omega
noncomputable abbrev oDivB := oI CDivB (· / ·)
theorem bDivB {X : Cx} : Bin X.K X.mg (rI CDivB fun i j => .int (i / j)) oDivB := bin_I fun _ _ h => h
noncomputable def oBits : R → M R
  | .v (.int i) => pure (.v (.int (Builtin.Int.intBits i : Nat)))
  | _ => bad
section
variable {X : Cx} {a : Expr} {ma : ME} {apos cpos : Pos}
end
/-- the built-in names that the text leaves as they are -/
structure Bl3 (mg : Str → Option Value) : Prop where
  len : mg "len" = none
  range : mg "range" = none
  isinstance : mg "isinstance" = none
  max : mg "max" = none
  min : mg "min" = none
  any : mg "any" = none
  all : mg "all" = none
  int' : mg "int" = none
  bool' : mg "bool" = none
  list' : mg "list" = none
  tuple' : mg "tuple" = none
  str' : mg "str" = none
  abs : mg "abs" = none
  sorted : mg "sorted" = none
  sum : mg "sum" = none
  zip : mg "zip" = none
  enumerate : mg "enumerate" = none
  reversed : mg "reversed" = none
  set' : mg "set" = none
omit [L2.TabP] in
theorem bt_min : bootBuiltins "min" = some (.builtin "min") := by decide +kernel
end L3

set_option Elab.async false
set_option linter.all false
set_option maxRecDepth 100000
set_option maxHeartbeats 1000000
namespace L3
open PySem PySem.Spec L2
/-! ### evaluation by simp -/
@[simp] theorem e_bad {α β : Type} (f : α → M β) : (bad >>= f) = bad := rfl
@[simp] theorem e_chk {p : Prop} [Decidable p] : chk p = if p then pure () else bad := rfl
@[simp] theorem e_var {i : Nat} {σ : En} : cVar i σ = match σ[i]? with
  | some (.val d) => pure (.v d)
  | some (.ow _ xs) => pure (.mv xs)
  | some (.vw xs) => pure (.vw xs)
  | some (.dct kvs) => pure (.dv kvs)
  | some (.vd kvs) => pure (.dv kvs)
  | _ => bad := rfl
@[simp] theorem e_K {d : D} {σ : En} : cK d σ = pure (.v d) := rfl
@[simp] theorem e_2 {f : R → R → M R} {a b : ME} {σ : En} : c2 f a b σ = (do let x ← a σ; let y ← b σ; f x y) := rfl
@[simp] theorem e_1 {f : R → M R} {a : ME} {σ : En} : c1 f a σ = (do let x ← a σ; f x) := rfl
@[simp] theorem e_tru {b : Bool} : R.tru (.v (.bl b)) = pure b := rfl
@[simp] theorem e_T {m : ME} {σ : En} : cT m σ = (do let x ← m σ; x.tru) := rfl
@[simp] theorem e_3 {f g : R → R → M R} {a b c : ME} {σ : En} : c3 f g a b c σ = (do
  let x ← a σ
  let y ← b σ
  let z ← f x y
  let t ← z.tru
  if t = true then do
    let w ← c σ
    g y w
  else pure (.v (.bl false))) := rfl
@[simp] theorem e_and {a b : ME} {σ : En} : cAnd a b σ = (do
  let x ← a σ
  let t ← x.tru
  if t = true then b σ else pure (.v (.bl false))) := rfl
@[simp] theorem e_or {a b : ME} {σ : En} : cOr a b σ = (do
  let x ← a σ
  let t ← x.tru
  if t = true then pure (.v (.bl true)) else b σ) := rfl
@[simp] theorem e_not {a : ME} {σ : En} : cNot a σ = (do
  let x ← a σ
  let t ← x.tru
  pure (.v (.bl (!t)))) := rfl
@[simp] theorem e_andM {a b : En → M Bool} {σ : En} : tAndM a b σ = (do
  let t ← a σ
  if t = true then b σ else pure false) := rfl
@[simp] theorem e_orM {a b : En → M Bool} {σ : En} : tOrM a b σ = (do
  let t ← a σ
  if t = true then pure true else b σ) := rfl
@[simp] theorem e_notM {a : En → M Bool} {σ : En} : tNotM a σ = (do
  let t ← a σ
  pure (!t)) := rfl
@[simp] theorem e_if {t : En → M Bool} {a b : ME} {σ : En} : cIf t a b σ = (do
  let t ← t σ
  if t = true then a σ else b σ) := rfl
@[simp] theorem e_I0 {g : Int → Int → Int} {i j : Int} : oI0 g (.v (.int i)) (.v (.int j)) = pure (.v (.int (g i j))) := rfl
@[simp] theorem e_I {C : Int → Int → Prop} [∀ i j, Decidable (C i j)] {g : Int → Int → Int} {i j : Int} : oI C g (.v (.int i)) (.v (.int j)) = if C i j then pure (.v (.int (g i j))) else bad := rfl
@[simp] theorem e_B {g : Int → Int → Bool} {i j : Int} : oB g (.v (.int i)) (.v (.int j)) = pure (.v (.bl (g i j))) := rfl
@[simp] theorem e_neg {i : Int} : oNeg (.v (.int i)) = pure (.v (.int (-i))) := rfl
@[simp] theorem e_bits {i : Int} : oBits (.v (.int i)) = pure (.v (.int (Builtin.Int.intBits i : Nat))) := rfl
@[simp] theorem e_nil {σ : En} : cNil σ = pure [] := rfl
@[simp] theorem e_cons {m : ME} {ms : MA} {σ : En} : cCons m ms σ = (do
  let x ← m σ
  let xs ← ms σ
  pure (x :: xs)) := rfl
@[simp] theorem e_datv {d : D} : R.dat (.v d) = pure d := rfl
@[simp] theorem e_datf {xs : List D} : R.dat (.fr xs) = pure (.lst xs) := rfl
@[simp] theorem e_dats0 : dats [] = pure [] := rfl
@[simp] theorem e_dats {r : R} {rs : List R} : dats (r :: rs) = (do
    let d ← r.dat
    let ds ← dats rs
    pure (d :: ds)) := rfl
@[simp] theorem e_tup {ms : MA} {σ : En} : cTup ms σ = (do
  let rs ← ms σ
  let ds ← dats rs
  chk (ds.length ≤ 1000)
  pure (.v (.tup ds))) := rfl
@[simp] theorem e_lst {ms : MA} {σ : En} : cLst ms σ = (do
  let rs ← ms σ
  let ds ← dats rs
  chk (ds.length ≤ 1000)
  pure (.fr ds)) := rfl
@[simp] theorem e_cB {f : List R → M R} {ms : MA} {σ : En} : cB f ms σ = (do
  let rs ← ms σ
  f rs) := rfl
@[simp] theorem e_lisv {xs : List D} : R.lis (.v (.lst xs)) = some xs := rfl
@[simp] theorem e_lisf {xs : List D} : R.lis (.fr xs) = some xs := rfl
@[simp] theorem e_lisw {xs : List D} : R.lis (.vw xs) = some xs := rfl
@[simp] theorem e_lism {xs : List D} : R.lis (.mv xs) = some xs := rfl
@[simp] theorem e_seqv {xs : List D} : R.seq (.v (.lst xs)) = some xs := rfl
@[simp] theorem e_seqt {xs : List D} : R.seq (.v (.tup xs)) = some xs := rfl
@[simp] theorem e_seqf {xs : List D} : R.seq (.fr xs) = some xs := rfl
@[simp] theorem e_seqw {xs : List D} : R.seq (.vw xs) = some xs := rfl
@[simp] theorem e_seqm {xs : List D} : R.seq (.mv xs) = some xs := rfl
@[simp] theorem e_ownv {xs : List D} : R.own (.v (.lst xs)) = some xs := rfl
@[simp] theorem e_ownf {xs : List D} : R.own (.fr xs) = some xs := rfl
@[simp] theorem e_ownm {xs : List D} : R.own (.mv xs) = some xs := rfl
@[simp] theorem e_argv {d : D} : R.arg (.v d) = d := rfl
@[simp] theorem e_argf {xs : List D} : R.arg (.fr xs) = .lst xs := rfl
@[simp] theorem e_argw {xs : List D} : R.arg (.vw xs) = .lst xs := rfl
@[simp] theorem e_argm {xs : List D} : R.arg (.mv xs) = .lst xs := rfl
@[simp] theorem e_len {x : R} : fLen [x] = match x.seq with
    | some xs => pure (.v (.int (xs.length : Nat)))
    | none => bad := rfl
@[simp] theorem e_kn : R.kind (.v .non) = some "NoneType" := rfl
@[simp] theorem e_kb {b : Bool} : R.kind (.v (.bl b)) = some "bool" := rfl
@[simp] theorem e_ki {i : Int} : R.kind (.v (.int i)) = some "int" := rfl
@[simp] theorem e_ks {x : Str} : R.kind (.v (.str x)) = some "str" := rfl
@[simp] theorem e_kt {xs : List D} : R.kind (.v (.tup xs)) = some "tuple" := rfl
@[simp] theorem e_kl {xs : List D} : R.kind (.v (.lst xs)) = some "list" := rfl
@[simp] theorem e_kf {xs : List D} : R.kind (.fr xs) = some "list" := rfl
@[simp] theorem e_kw {xs : List D} : R.kind (.vw xs) = some "list" := rfl
@[simp] theorem e_km {xs : List D} : R.kind (.mv xs) = some "list" := rfl
@[simp] theorem e_isi {x : R} {n : String} : fIsi [x, .v (.ty n)] = match x.kind with
    | some t => if n ∈ ["int", "bool", "tuple", "list", "str"] then pure (.v (.bl (isiB t n))) else bad
    | none => bad := rfl
@[simp] theorem e_isiB {t n : String} : isiB t n = (t == n || (t == "bool" && n == "int")) := rfl
@[simp] theorem e_2I {g : Int → Int → Int} {i j : Int} : f2I g [.v (.int i), .v (.int j)] = pure (.v (.int (g i j))) := rfl
@[simp] theorem e_abs {i : Int} : fAbs [.v (.int i)] = pure (.v (.int (if i < 0 then -i else i))) := rfl
@[simp] theorem e_any {x : R} : fAny [x] = match x.lis.bind bls with
    | some bs => pure (.v (.bl (bs.any id)))
    | none => bad := rfl
@[simp] theorem e_all {x : R} : fAll [x] = match x.lis.bind bls with
    | some bs => pure (.v (.bl (bs.all id)))
    | none => bad := rfl
@[simp] theorem e_inti {i : Int} : fInt [.v (.int i)] = pure (.v (.int i)) := rfl
@[simp] theorem e_intb {b : Bool} : fInt [.v (.bl b)] = pure (.v (.int (if b then 1 else 0))) := rfl
@[simp] theorem e_list {x : R} : fList [x] = match x.seq with
    | some xs => pure (.fr xs)
    | none => bad := rfl
@[simp] theorem e_tuple {x : R} : fTuple [x] = match x.seq with
    | some xs => pure (.v (.tup xs))
    | none => bad := rfl
@[simp] theorem e_ixt {xs : List D} {i : Int} : oIx (.v (.tup xs)) (.v (.int i)) = match atI xs i with
      | some d => pure (.v d)
      | none => bad := rfl
@[simp] theorem e_ixl {xs : List D} {i : Int} : oIx (.v (.lst xs)) (.v (.int i)) = match atI xs i with
      | some d => pure (.v d)
      | none => bad := rfl
@[simp] theorem e_ixf {xs : List D} {i : Int} : oIx (.fr xs) (.v (.int i)) = match atI xs i with
      | some d => pure (.v d)
      | none => bad := rfl
@[simp] theorem e_ixw {xs : List D} {i : Int} : oIx (.vw xs) (.v (.int i)) = match atI xs i with
      | some d => pure (.v d)
      | none => bad := rfl
@[simp] theorem e_ixm {xs : List D} {i : Int} : oIx (.mv xs) (.v (.int i)) = match atI xs i with
      | some d => pure (.v d)
      | none => bad := rfl
theorem at_k {α : Type} {xs : List α} (k : Nat) {v : α} (h : xs[k]? = some v) : atI xs (k : Int) = some v := atI_nat h
@[simp] theorem e_at0 {α : Type} {x : α} {xs : List α} : atI (x :: xs) 0 = some x := at_k 0 rfl
@[simp] theorem e_at1 {α : Type} {x y : α} {xs : List α} : atI (x :: y :: xs) 1 = some y := at_k 1 rfl
@[simp] theorem e_at2 {α : Type} {x y z : α} {xs : List α} : atI (x :: y :: z :: xs) 2 = some z := at_k 2 rfl
@[simp] theorem e_at3 {α : Type} {x y z w : α} {xs : List α} : atI (x :: y :: z :: w :: xs) 3 = some w := at_k 3 rfl
@[simp] theorem e_call {mf : MF} {ms : MA} {σ : En} : cCall mf ms σ = (do
  let rs ← ms σ
  mf (rs.map R.arg)) := rfl
@[simp] theorem e_pass {σ : En} : cPass σ = pure (.nx σ) := rfl
@[simp] theorem e_brk {σ : En} : cBrk σ = pure (.bk σ) := rfl
@[simp] theorem e_cnt {σ : En} : cCnt σ = pure (.ct σ) := rfl
@[simp] theorem e_retN {σ : En} : cRetN σ = pure (.rt (.v .non)) := rfl
@[simp] theorem e_seqS {a b : MS} {σ : En} : cSeq a b σ = (do
  let fl ← a σ
  match fl with
  | .nx σ' => b σ'
  | fl => pure fl) := rfl
@[simp] theorem e_ret {m : ME} {σ : En} : cRet m σ = (do
  let r ← m σ
  match r with
  | .v d => pure (.rt (.v d))
  | .fr xs => pure (.rt (.fr xs))
  | _ => bad) := rfl
@[simp] theorem e_retO {i : Nat} {σ : En} : cRetO i σ = match σ[i]? with
  | some (.ow false xs) => pure (.rt (.fr xs))
  | _ => bad := rfl
@[simp] theorem e_ifS {t : En → M Bool} {a b : MS} {σ : En} : cIfS t a b σ = (do
  let t ← t σ
  if t = true then a σ else b σ) := rfl
@[simp] theorem e_drop {m : ME} {σ : En} : cDrop m σ = (do
  let _ ← m σ
  pure (.nx σ)) := rfl
@[simp] theorem e_set {i : Nat} {m : ME} {σ : En} : cSet i m σ = (do
  let r ← m σ
  let d ← r.dat
  pure (.nx (σ.set i (.val d)))) := rfl
@[simp] theorem e_own {i : Nat} {m : ME} {σ : En} : cOwn i m σ = (do
  let r ← m σ
  match r with
  | .fr xs => pure (.nx (σ.set i (.ow false xs)))
  | _ => bad) := rfl
@[simp] theorem e_mut {i : Nat} {f : List D → List R → M (R × List D)} {ms : MA} {σ : En} : cMut i f ms σ = (do
  let rs ← ms σ
  match σ[i]? with
  | some (.ow p xs) => do
    let (r, ys) ← f xs rs
    pure (r, σ.set i (.ow p ys))
  | _ => bad) := rfl
@[simp] theorem e_mutS {i : Nat} {f : List D → List R → M (R × List D)} {ms : MA} {σ : En} : cMutS i f ms σ = (do
  let (_, σ') ← cMut i f ms σ
  pure (.nx σ')) := rfl
@[simp] theorem e_mutSet {j i : Nat} {f : List D → List R → M (R × List D)} {ms : MA} {σ : En} : cMutSet j i f ms σ = (do
  let (r, σ') ← cMut i f ms σ
  let d ← r.dat
  pure (.nx (σ'.set j (.val d)))) := rfl
@[simp] theorem e_append {xs : List D} {r : R} : uAppend xs [r] = (do
    let d ← r.dat
    chk (xs.length < sizeLine)
    pure (.v .non, xs ++ [d])) := rfl
@[simp] theorem e_extend {xs : List D} {r : R} : uExtend xs [r] = match r.own with
    | some ys => do
      chk (xs.length + ys.length ≤ sizeLine)
      pure (.v .non, xs ++ ys)
    | none => bad := rfl
@[simp] theorem e_for {i : Nat} {it : MI} {b : MS} {σ : En} : cFor i it b σ = (do
  let ds ← it σ
  fLoop (fun d σ => b (σ.set i (.val d))) ds σ) := rfl
@[simp] theorem e_iT {m : ME} {σ : En} : iT m σ = (do
  let r ← m σ
  match r with
  | .v (.tup xs) => pure xs
  | _ => bad) := rfl
@[simp] theorem e_iL {m : ME} {σ : En} : iL m σ = (do
  let r ← m σ
  match r with
  | .v (.lst xs) => pure xs
  | .fr xs => pure xs
  | .vw xs => pure xs
  | _ => bad) := rfl
@[simp] theorem e_iLc {m : ME} {σ : En} : iLc m σ = (do
  let r ← m σ
  match r.lis with
  | some xs => pure xs
  | none => bad) := rfl
@[simp] theorem e_iR1 {m : MA} {σ : En} : iR1 m σ = (do
  let rs ← m σ
  match rs with
  | [.v (.int j)] => if -(2 ^ 62) ≤ j ∧ j < 2 ^ 62 then pure (rngD 0 j.toNat) else bad
  | _ => bad) := rfl
@[simp] theorem e_iR2 {m : MA} {σ : En} : iR2 m σ = (do
  let rs ← m σ
  match rs with
  | [.v (.int i), .v (.int j)] => if -(2 ^ 62) ≤ i ∧ i < 2 ^ 62 ∧ -(2 ^ 62) ≤ j ∧ j < 2 ^ 62 then pure (rngD i (j - i).toNat) else bad
  | _ => bad) := rfl
@[simp] theorem e_sl {a : ME} {lo hi : MO} {σ : En} : cSl a lo hi σ = (do
  let x ← a σ
  let l ← lo σ
  let h ← hi σ
  oSl x l h) := rfl
@[simp] theorem e_noPart {σ : En} : cNoPart σ = pure none := rfl
@[simp] theorem e_part {m : ME} {σ : En} : cPart m σ = (do
  let r ← m σ
  match r with
  | .v (.int i) => pure (some i)
  | _ => bad) := rfl
@[simp] theorem e_slf {xs : List D} {l h : Option Int} : oSl (.fr xs) l h = pure (.fr (cutD xs l h)) := rfl
@[simp] theorem e_slw {xs : List D} {l h : Option Int} : oSl (.vw xs) l h = pure (.fr (cutD xs l h)) := rfl
@[simp] theorem e_slm {xs : List D} {l h : Option Int} : oSl (.mv xs) l h = pure (.fr (cutD xs l h)) := rfl
@[simp] theorem e_sll {xs : List D} {l h : Option Int} : oSl (.v (.lst xs)) l h = pure (.fr (cutD xs l h)) := rfl
@[simp] theorem e_slt {xs : List D} {l h : Option Int} : oSl (.v (.tup xs)) l h = if HT.sIx xs.length 0 l = 0 ∧ HT.sIx xs.length xs.length h = xs.length then bad else pure (.v (.tup (cutD xs l h))) := rfl
@[simp] theorem e_comp {n : Nat} {cap : List Nat} {it : MI} {t : En → M Bool} {el : ME} {σ : En} : cComp n cap it t el σ = (do
  let ds ← it σ
  chk (ds.length < sizeLine)
  let xs ← kLoop t el (cpEn n cap σ) ds
  pure (.fr xs)) := rfl
@[simp] theorem e_cpEn {n : Nat} {cap : List Nat} {σ : En} : cpEn n cap σ = List.replicate n .emp ++ cap.map fun k => cpSlot σ[k]? := rfl
@[simp] theorem e_cpv {d : D} : cpSlot (some (.val d)) = .val d := rfl
@[simp] theorem e_cpo {p : Bool} {xs : List D} : cpSlot (some (.ow p xs)) = .vw xs := rfl
@[simp] theorem e_cpw {xs : List D} : cpSlot (some (.vw xs)) = .vw xs := rfl
@[simp] theorem e_yes {σ : En} : tYes σ = pure true := rfl
@[simp] theorem e_isN {x : R} : oIsN x (.v .non) = pure (.v (.bl x.isN)) := rfl
@[simp] theorem e_notN {x : R} : oNotN x (.v .non) = pure (.v (.bl (!x.isN))) := rfl
@[simp] theorem e_isn : R.isN (.v .non) = true := rfl
@[simp] theorem e_isni {i : Int} : R.isN (.v (.int i)) = false := rfl
@[simp] theorem e_isnt {xs : List D} : R.isN (.v (.tup xs)) = false := rfl
@[simp] theorem e_isnf {xs : List D} : R.isN (.fr xs) = false := rfl
@[simp] theorem e_isns {x : Str} : R.isN (.v (.str x)) = false := rfl
@[simp] theorem e_isB {a b : Bool} : oIsB (.v (.bl a)) (.v (.bl b)) = pure (.v (.bl (decide (a = b)))) := rfl
@[simp] theorem e_notB {a b : Bool} : oNotB (.v (.bl a)) (.v (.bl b)) = pure (.v (.bl (!decide (a = b)))) := rfl
@[simp] theorem e_eqii {i j : Int} : oEq (.v (.int i)) (.v (.int j)) = pure (.v (.bl (i == j))) := rfl
@[simp] theorem e_neii {i j : Int} : oNe (.v (.int i)) (.v (.int j)) = pure (.v (.bl (!(i == j)))) := rfl
theorem e_eq {x y : R} (hx : x.arg.gd 64 = true) (hy : y.arg.gd 64 = true) : oEq x y = pure (.v (.bl (peq x.arg y.arg))) := if_pos ⟨hx, hy⟩
theorem e_ne {x y : R} (hx : x.arg.gd 64 = true) (hy : y.arg.gd 64 = true) : oNe x y = pure (.v (.bl (!peq x.arg y.arg))) := if_pos ⟨hx, hy⟩
@[simp] theorem e_slotl {xs : List D} : slotOf (.lst xs) = .vw xs := rfl
@[simp] theorem e_sloti {i : Int} : slotOf (.int i) = .val (.int i) := rfl
@[simp] theorem e_slott {xs : List D} : slotOf (.tup xs) = .val (.tup xs) := rfl
@[simp] theorem e_slots {x : Str} : slotOf (.str x) = .val (.str x) := rfl
@[simp] theorem e_slotn : slotOf .non = .val .non := rfl
@[simp] theorem e_slotb {b : Bool} : slotOf (.bl b) = .val (.bl b) := rfl
@[simp] theorem e_fn {n N : Nat} {b : MS} {ds : List D} : fnOf n N b ds = if ds.length = n then (do
    let fl ← b (ds.map slotOf ++ List.replicate (N - n) .emp)
    match fl with
    | .rt (.v d) => pure (.v d)
    | .rt (.fr xs) => pure (.fr xs)
    | .nx _ => pure (.v .non)
    | _ => bad) else bad := rfl
/-! loops -/
theorem fLoop_inv {b : D → MS} (I : Nat → En → Prop) : ∀ (ds : List D) (k : Nat) (σ : En), I k σ → (∀ i d σ, ds[i]? = some d → I (k + i) σ → ∃ σ', (b d σ = pure (.nx σ') ∨ b d σ = pure (.ct σ')) ∧ I (k + i + 1) σ') →
    ∃ σ', fLoop b ds σ = pure (.nx σ') ∧ I (k + ds.length) σ'
  | [], k, σ, h0, _ => ⟨σ, rfl, h0⟩
  | d :: ds, k, σ, h0, step => by
    obtain ⟨σ1, e, h1⟩ := step 0 d σ rfl h0
    obtain ⟨σ2, e2, h2⟩ := fLoop_inv I ds (k + 1) σ1 h1 fun i d' σ' hd hI => by
      have := step (i + 1) d' σ' (by simpa using hd) (by rw [show k + (i + 1) = k + 1 + i by omega]; exact hI)
      rw [show k + (i + 1) + 1 = k + 1 + i + 1 by omega] at this
      exact this
    refine ⟨σ2, ?_, by rw [List.length_cons, show k + (ds.length + 1) = k + 1 + ds.length by omega]; exact h2⟩
    show (b d σ >>= _) = _
    rcases e with e | e <;> rw [e] <;> exact e2
/-- a loop by what holds between two turns -/
theorem for_inv {b : D → MS} {ds : List D} {σ : En} (I : Nat → En → Prop) (h0 : I 0 σ) (step : ∀ i d σ, ds[i]? = some d → I i σ → ∃ σ', (b d σ = pure (.nx σ') ∨ b d σ = pure (.ct σ')) ∧ I (i + 1) σ') :
    ∃ σ', fLoop b ds σ = pure (.nx σ') ∧ I ds.length σ' := by
  obtain ⟨σ', e, h⟩ := fLoop_inv I ds 0 σ h0 fun i d σ hd hI => by
    rw [Nat.zero_add] at hI ⊢
    exact step i d σ hd hI
  exact ⟨σ', e, by rw [Nat.zero_add] at h; exact h⟩
/-- a comprehension by what its turn is worth -/
theorem comp_eq {t : En → M Bool} {el : ME} {σ : En} (p : D → Bool) (g : D → D) : ∀ ds : List D, (∀ d ∈ ds, t (σ.set 0 (.val d)) = pure (p d)) → (∀ d ∈ ds, p d = true → (el (σ.set 0 (.val d)) >>= R.dat) = pure (g d)) →
    kLoop t el σ ds = pure ((ds.filter p).map g)
  | [], _, _ => rfl
  | d :: ds, h1, h2 => by
    have ih := comp_eq p g ds (fun x hx => h1 x (List.mem_cons_of_mem _ hx)) fun x hx => h2 x (List.mem_cons_of_mem _ hx)
    unfold kLoop
    rw [h1 d List.mem_cons_self, pure_bind]
    cases e : p d with
    | false => rw [if_neg Bool.false_ne_true, ih, List.filter_cons_of_neg (by rw [e]; exact Bool.false_ne_true)]
    | true =>
      have h := h2 d List.mem_cons_self e
      rw [if_pos rfl, ← bind_assoc, h, pure_bind, ih, pure_bind, List.filter_cons_of_pos e]
      rfl
theorem rngD_get {lo : Int} {n i : Nat} {d : D} (h : (rngD lo n)[i]? = some d) : i < n ∧ d = .int (lo + (i : Nat)) := by
  have hi : i < n := by
    have := (List.getElem?_eq_some_iff.mp h).1
    rwa [rngD_len] at this
  unfold rngD at h
  rw [List.getElem?_map, List.getElem?_range hi] at h
  cases h
  exact ⟨hi, rfl⟩
end L3

set_option Elab.async false
set_option linter.all false
set_option maxRecDepth 100000
set_option maxHeartbeats 1000000
namespace L3
open PySem PySem.Spec L2
/-! ### what the laws' small helpers are worth -/
theorem at_ints {ns : List Int} {k : Nat} (h : k < ns.length) : atI (ns.map D.int) (k : Int) = some (.int (ns.getD k 0)) := by
  refine at_k k ?_
  rw [List.getElem?_map, List.getElem?_eq_getElem h]
  simp [List.getD_eq_getElem?_getD, h]
theorem at_ints_lt {ns : List Int} {i : Int} (h0 : 0 ≤ i) (h : i < ns.length) : atI (ns.map D.int) i = some (.int (ns.getD i.toNat 0)) := by
  have := at_ints (ns := ns) (k := i.toNat) (by omega)
  rwa [Int.toNat_of_nonneg h0] at this
theorem mod_lt {a b : Int} (h : 0 < b) : 0 ≤ a % b ∧ a % b < b := ⟨Int.emod_nonneg _ (by omega), Int.emod_lt_of_pos _ h⟩
theorem lt_big {i : Int} (h1 : -(10 ^ 200) < i) (h2 : i < 10 ^ 200) : i.natAbs < BIG := by
  unfold BIG
  omega
theorem mulB {i j : Int} (h1 : -(10 ^ 200) < i) (h2 : i < 10 ^ 200) (h3 : -(10 ^ 200) < j) (h4 : j < 10 ^ 200) : CMulB i j := .inr (.inr ⟨lt_big h1 h2, lt_big h3 h4⟩)
theorem mulS {i j : Int} (h1 : -(2 ^ 64) < i) (h2 : i < 2 ^ 64) : CMulB i j := .inl ⟨h1, h2⟩
theorem divB {i j : Int} (h1 : 0 < j) (h2 : j < 10 ^ 200) : CDivB i j := ⟨h1, lt_big (by omega) h2⟩
end L3

set_option Elab.async false
set_option linter.all false
set_option maxRecDepth 100000
set_option maxHeartbeats 1000000
namespace L3
open PySem PySem.Spec L2
variable [L2.TabP]
/-! ### a def that changes the list that is its first parameter -/
structure GoA (a : Addr) (O O' : Ow) (H H' : Hp) : Prop where
  cells : ∀ b o, b ≠ a → H b = some o → (h : nT o := by exact trivial) → H' b = some o
  tb : ∀ b ps, H b = some (.tbl ps) → ∃ ps', H' b = some (.tbl ps')
  gd : TabsOk H → TabsOk H'
  own : ∀ b, b ≠ a → H b ≠ none → O' b = O b
  owa : O' a = O a
section
variable {K : PySem.W.Frag} {mg : Str → Option Value} {O O' : Ow} {H H' : Hp} {a : Addr} {zs : List V}
mutual
theorem Rep.goA (g : GoA a O O' H H') (ho : O a ≠ .free) (hl : H a = some (.lst zs)) : ∀ {d : D} {v : V}, Rep K mg O H d v → Rep K mg O' H' d v
  | .non, _, h => h
  | .bl _, _, h => h
  | .int _, _, h => h
  | .str _, _, h => h
  | .tup _, _, h => by
    obtain ⟨b, ys, q, t, r⟩ := h
    refine ⟨b, ys, q, ?_, RepAll.goA g ho hl r⟩
    rcases t with (t | ⟨o, t⟩) | t
    · exact .inl (.inl (g.cells _ _ (ne_of t hl (by intro z; cases z)) t))
    · exact .inl (.inr ⟨o, g.cells _ _ (ne_of t hl (by intro z; cases z)) t⟩)
    · exact .inr t
  | .lst _, _, h => by
    obtain ⟨b, ys, q, t, r⟩ := h
    have nb : b ≠ a := by rintro rfl; exact ho t.2
    exact ⟨b, ys, q, ⟨g.cells _ _ nb t.1, (g.own b nb (by rw [t.1]; intro z; cases z)).trans t.2⟩, RepAll.goA g ho hl r⟩
  | .dic _ _, _, h => h
  | .fn _, _, h => h
  | .ty _, _, h => h
theorem RepAll.goA (g : GoA a O O' H H') (ho : O a ≠ .free) (hl : H a = some (.lst zs)) : ∀ {ds : List D} {ys : List V}, RepAll K mg O H ds ys → RepAll K mg O' H' ds ys
  | [], _, h => h
  | _ :: _, _, h => by obtain ⟨x, r, q, a, b⟩ := h; exact ⟨x, r, q, Rep.goA g ho hl a, RepAll.goA g ho hl b⟩
end
end
noncomputable abbrev MIO := List D → M (List D)
noncomputable def ioEnd (σ' : En) : M (List D) := match (σ'[(0 : Nat)]? : Option Slot) with
  | some (.ow true ys) => pure ys
  | _ => bad
noncomputable def fnIO (n N : Nat) (b : MS) : MIO := fun ds => match ds with
  | .lst xs :: ds' => if ds'.length + 1 = n then do
      let fl ← b (.ow true xs :: ds'.map slotOf ++ List.replicate (N - n) .emp)
      match fl with
      | .nx σ' => ioEnd σ'
      | _ => bad
    else bad
  | _ => bad
noncomputable def R.noMv : R → Bool
  | .mv _ => false
  | _ => true
noncomputable def cIO (i : Nat) (mf : MIO) (ms : MA) : MS := fun σ => do
  let rs ← ms σ
  match σ[i]? with
  | some (.ow p xs) => (if rs.all R.noMv = true then (do
      let ys ← mf (.lst xs :: rs.map R.arg)
      pure (.nx (σ.set i (.ow p ys)))) else bad)
  | _ => bad
section
variable {X : Cx} {x y : Str} {ps : List Str} {k i : Nat} {mf : MIO} {p q pos pos' : Pos} {es : List Expr} {ms : MA}
end
/-! ### for x in xs, xs one's own list that the body leaves -/
omit [L2.TabP] in
@[simp] theorem e_noMvv {d : D} : R.noMv (.v d) = true := rfl
omit [L2.TabP] in
@[simp] theorem e_noMvf {xs : List D} : R.noMv (.fr xs) = true := rfl
omit [L2.TabP] in
@[simp] theorem e_noMvw {xs : List D} : R.noMv (.vw xs) = true := rfl
omit [L2.TabP] in
@[simp] theorem e_io {i : Nat} {mf : MIO} {ms : MA} {σ : En} : cIO i mf ms σ = (do
  let rs ← ms σ
  match σ[i]? with
  | some (.ow p xs) => (if rs.all R.noMv = true then (do
      let ys ← mf (.lst xs :: rs.map R.arg)
      pure (.nx (σ.set i (.ow p ys)))) else bad)
  | _ => bad) := rfl
omit [L2.TabP] in
@[simp] theorem e_ioEnd {σ : En} : ioEnd σ = match (σ[(0 : Nat)]? : Option Slot) with
  | some (.ow true ys) => pure ys
  | _ => bad := rfl
omit [L2.TabP] in
@[simp] theorem e_fnIO {n N : Nat} {b : MS} {xs ds : List D} : fnIO n N b (.lst xs :: ds) = if ds.length + 1 = n then (do
      let fl ← b (.ow true xs :: ds.map slotOf ++ List.replicate (N - n) .emp)
      match fl with
      | .nx σ' => ioEnd σ'
      | _ => bad) else bad := rfl
omit [L2.TabP] in
@[simp] theorem e_pop {xs : List D} : uPop xs [] = match xs[xs.length - 1]? with
    | some d => pure (.v d, xs.dropLast)
    | none => bad := rfl
omit [L2.TabP] in
@[simp] theorem e_catL {x y : R} : oCatL x y = match x.own, y.own with
  | some xs, some ys => if xs.length + ys.length ≤ sizeLine then pure (.fr (xs ++ ys)) else bad
  | _, _ => bad := rfl
omit [L2.TabP] in
@[simp] theorem e_catT {xs ys : List D} : oCatT (.v (.tup xs)) (.v (.tup ys)) = if xs.length + ys.length ≤ sizeLine then pure (.v (.tup (xs ++ ys))) else bad := rfl
omit [L2.TabP] in
@[simp] theorem e_while {c : En → M Bool} {b : MS} {σ : En} : cWhile c b σ = wLoop c b wFuel σ := rfl
omit [L2.TabP] in
theorem comp_filter {t : En → M Bool} {el : ME} {σ : En} (p : D → Bool) (ds : List D) (h1 : ∀ d ∈ ds, t (σ.set 0 (.val d)) = pure (p d)) (h2 : ∀ d, (el (σ.set 0 (.val d)) >>= R.dat) = pure d) : kLoop t el σ ds = pure (ds.filter p) := by
  have := comp_eq (t := t) (el := el) (σ := σ) p id ds h1 fun d _ _ => h2 d
  rw [this, List.map_id]
omit [L2.TabP] in
@[simp] theorem s_div {i j : Int} (h1 : 0 < j) (h2 : j < 10 ^ 200) : CDivB i j := divB h1 h2
omit [L2.TabP] in
@[simp] theorem s_mulr {i j : Int} (h1 : -(2 ^ 64) < j) (h2 : j < 2 ^ 64) : CMulB i j := .inr (.inl ⟨h1, h2⟩)
end L3

set_option Elab.async false
set_option linter.all false
set_option maxRecDepth 100000
set_option maxHeartbeats 1000000
namespace L3
open PySem PySem.Spec L2
variable [L2.TabP]
/-! ### a, b = e and for a, b in e -/
noncomputable def setsD : List Nat → List D → En → En
  | i :: is, d :: ds, σ => setsD is ds (σ.set i (.val d))
  | _, _, σ => σ
noncomputable def cUnp (is : List Nat) (m : ME) : MS := fun σ => do
  let r ← m σ
  match r with
  | .v (.tup ds) => if ds.length = is.length then pure (.nx (setsD is ds σ)) else bad
  | _ => bad
section
variable {X : Cx} {pos tpos : Pos} {is : List Nat} {e : Expr} {m : ME} {es : List Expr} {k : Nat} {iter : Expr} {it : MI} {body : List Stmt} {b : MS}
noncomputable def cForT (is : List Nat) (it : MI) (b : MS) : MS := fun σ => do
  let ds ← it σ
  fLoop (fun d σ => match d with
    | .tup es => if es.length = is.length then b (setsD is es σ) else bad
    | _ => bad) ds σ
end
omit [L2.TabP] in
@[simp] theorem e_unp {is : List Nat} {m : ME} {σ : En} : cUnp is m σ = (do
  let r ← m σ
  match r with
  | .v (.tup ds) => if ds.length = is.length then pure (.nx (setsD is ds σ)) else bad
  | _ => bad) := rfl
omit [L2.TabP] in
@[simp] theorem e_sets {i : Nat} {is : List Nat} {d : D} {ds : List D} {σ : En} : setsD (i :: is) (d :: ds) σ = setsD is ds (σ.set i (.val d)) := rfl
omit [L2.TabP] in
@[simp] theorem e_forT {is : List Nat} {it : MI} {b : MS} {σ : En} : cForT is it b σ = (do
  let ds ← it σ
  fLoop (fun d σ => match d with
    | .tup es => if es.length = is.length then b (setsD is es σ) else bad
    | _ => bad) ds σ) := rfl
end L3

set_option Elab.async false
set_option linter.all false
set_option maxRecDepth 100000
set_option maxHeartbeats 1000000
namespace L3
open PySem PySem.Spec L2
variable [L2.TabP]
/-! ### an own list is lent while a statement runs: looked at only -/
noncomputable def lendEnd (j : Nat) (p : Bool) (xs : List D) : Fl → M Fl
  | .nx σ' => match (σ'[j]? : Option Slot) with
    | some (.vw _) => pure (.nx (σ'.set j (.ow p xs)))
    | _ => bad
  | .rt r => pure (.rt r)
  | _ => bad
noncomputable def cLend (j : Nat) (m : MS) : MS := fun σ => match σ[j]? with
  | some (.ow p xs) => do
    let fl ← m (σ.set j (.vw xs))
    lendEnd j p xs fl
  | _ => bad
section
variable {K : PySem.W.Frag} {mg : Str → Option Value} {O : Ow} {H : Hp}
end
omit [L2.TabP] in
@[simp] theorem e_lend {j : Nat} {m : MS} {σ : En} : cLend j m σ = match σ[j]? with
  | some (.ow p xs) => do
    let fl ← m (σ.set j (.vw xs))
    lendEnd j p xs fl
  | _ => bad := rfl
omit [L2.TabP] in
@[simp] theorem e_lendr {j : Nat} {p : Bool} {xs : List D} {r : R} : lendEnd j p xs (.rt r) = pure (.rt r) := rfl
omit [L2.TabP] in
@[simp] theorem e_lendn {j : Nat} {p : Bool} {xs : List D} {σ' : En} : lendEnd j p xs (.nx σ') = match (σ'[j]? : Option Slot) with
    | some (.vw _) => pure (.nx (σ'.set j (.ow p xs)))
    | _ => bad := rfl
end L3

set_option Elab.async false
set_option linter.all false
set_option maxRecDepth 100000
set_option maxHeartbeats 1000000
namespace L2
open PySem PySem.Spec PyProof.Rows
variable [L2.TabP]
/-! ### sum of a list of ints -/
end L2
namespace L3
open PySem PySem.Spec L2
variable [L2.TabP]
noncomputable def nums : List D → Option (List Int)
  | [] => some []
  | .int b :: r => (nums r).map (b :: ·)
  | _ => none
noncomputable def fSum : List R → M R
  | [x] => match x.lis.bind nums with
    | some bs => pure (.v (.int bs.sum))
    | none => bad
  | _ => bad
section
variable {K : PySem.W.Frag} {mg : Str → Option Value}
end
omit [L2.TabP] in
@[simp] theorem e_sum {x : R} : fSum [x] = match x.lis.bind nums with
    | some bs => pure (.v (.int bs.sum))
    | none => bad := rfl
end L3

set_option Elab.async false
set_option linter.all false
set_option maxRecDepth 100000
set_option maxHeartbeats 1000000
namespace L3
open PySem PySem.Spec L2
/-! ### the rules over judgements that stay shut -/
section
variable [L2.TabP] (X : Cx)
structure WE (e : Expr) (m : ME) : Prop where
  un : CE X e m
structure WT (e : Expr) (m : En → M Bool) : Prop where
  un : CT X e m
structure WW (e : Expr) (m : En → M Bool) : Prop where
  un : CW X e m
structure WA (e : List Expr) (m : MA) : Prop where
  un : CA X e m
structure WO (e : Option Expr) (m : MO) : Prop where
  un : CO X e m
structure WS (e : Stmt) (m : MS) : Prop where
  un : CS X e m
structure WSs (e : List Stmt) (m : MS) : Prop where
  un : CSs X e m
structure WIc (tg e : Expr) (m : MI) : Prop where
  un : CIc X tg e m
structure WIf (tg e : Expr) (m : MI) : Prop where
  un : CIf X tg e m
structure WFs (e : List Expr) (m : En → M Bool) : Prop where
  un : CFs X e m
end
section
variable [L2.TabP]
variable {X : Cx} {a b c e : Expr} {ma mb mc m : ME} {ta tb : En → M Bool} {pos : Pos}
theorem we_var (i : Nat) {x : Str} {pos : Pos} (hN : X.N[i]? = some x := by rfl) (hv : Vis X.env.scope x := by first | exact Or.inl rfl | exact Or.inr (Or.inl rfl) | exact Or.inr (Or.inr rfl)) (hd : (x == ("__debug__" : Str)) = false := by decide) (hcd : (x == ("__classdict__" : Str)) = false := by decide) : WE X (.Name x pos) (cVar i) := ⟨ce_var i hN hv hd hcd⟩
end
section
variable [L2.TabP]
variable {X : Cx} {e : Expr} {es : List Expr} {m : ME} {ms : MA} {pos : Pos}
theorem wa_cons (ha : WE X e m) (hr : WA X es ms) (hs : starEach (e :: es) X.env = (false, eval e X.env) :: starEach es X.env := by rfl) : WA X (e :: es) (cCons m ms) := ⟨ca_cons ha.un hr.un hs⟩
end
section
variable [L2.TabP]
variable {X : Cx} {a b c e : Expr} {ma mb mc m : ME} {ta tb : En → M Bool} {pos : Pos}
theorem we_int {i j pos} : WE X (.Constant (.int i) j pos) (cK (.int i)) := ⟨ce_int⟩
end
section
variable [L2.TabP]
variable {X : Cx} {e : Expr} {es : List Expr} {m : ME} {ms : MA} {pos : Pos}
theorem wa_nil  : WA X [] cNil := ⟨ca_nil⟩
end
section
variable [L2.TabP]
variable {X : Cx} {a b c e : Expr} {ma mb mc m : ME} {ta tb : En → M Bool} {pos : Pos}
theorem we_op {op : Operator} {r : R2} {f : R → R → M R} (ho : OpR X (binaryOp op) r) (hf : Bin X.K X.mg r f) (ha : WE X a ma) (hb : WE X b mb) : WE X (.BinOp a op b pos) (c2 f ma mb) := ⟨ce_op ho hf ha.un hb.un⟩
end
section
variable [L2.TabP]
variable {X : Cx} {st : Stmt} {rest : List Stmt} {pos : Pos} {a b : MS} {e : Expr} {m : ME}
theorem wss_cons (h1 : WS X st a) (h2 : WSs X rest b) : WSs X (st :: rest) (cSeq a b) := ⟨css_cons h1.un h2.un⟩
end
section
variable [L2.TabP]
variable {X : Cx} {st : Stmt} {rest : List Stmt} {pos : Pos} {a b : MS} {e : Expr} {m : ME}
theorem wss_one (h : WS X st a) : WSs X [st] a := ⟨css_one h.un⟩
end
section
variable [L2.TabP]
variable {X : Cx} {a b c e : Expr} {ma mb mc m : ME} {ta tb : En → M Bool} {pos : Pos}
theorem we_ix {r : R2} {f : R → R → M R} (ho : IxR X r) (hf : Bin X.K X.mg r f) (ha : WE X a ma) (hb : WE X b mb) (hs : PlainIx b) : WE X (.Subscript a b pos) (c2 f ma mb) := ⟨ce_ix ho hf ha.un hb.un hs⟩
end
section
variable [L2.TabP]
variable {X : Cx} {st : Stmt} {rest : List Stmt} {pos : Pos} {a b : MS} {e : Expr} {m : ME}
theorem ws_ret (he : WE X e m) : WS X (.Return (some e) pos) (cRet m) := ⟨cs_ret he.un⟩
end
section
variable [L2.TabP]
variable {X : Cx} {e : Expr} {es : List Expr} {m : ME} {ms : MA} {pos : Pos}
theorem we_tup {x1} (h : WA X es ms) : WE X (.Tuple es x1 pos) (cTup ms) := ⟨ce_tup h.un⟩
end
section
variable [L2.TabP]
variable {X : Cx} {st : Stmt} {rest : List Stmt} {pos : Pos} {a b : MS} {e : Expr} {m : ME}
variable {i : Nat} {x : Str} {pos' : Pos}
theorem ws_set (hN : X.N.Nodup) (hi : X.N[i]? = some x) (hx : Loc X.env.scope x) (he : WE X e m) (hs : swapsWith e (some (.Name x pos')) pos.line X.env = pure false := by rfl) (hf : X.fn x = true ∨ X.env.scope.names.lookup x = some .local := by first | exact .inl rfl | exact .inr rfl | assumption) : WS X (.Assign [.Name x pos'] e pos) (cSet i m) := ⟨cs_set hN hi hx he.un hs hf⟩
end
section
variable [L2.TabP]
variable {X : Cx} {x : Str} {ps : List Str} {k : Nat} {mf : MF} {p pos : Pos} {e : Expr} {es : List Expr} {ms : MA}
theorem we_call (h : Has X.prog X.w X.K X.mg X.base x ps k (spF X.K X.mg mf)) (hr : Room k X.A) (hg : Gl X x) (ha : WA X (e :: es) ms) (hdb : (x == ("__debug__" : Str)) = false := by decide) (he : starEach (e :: es) X.env = (false, eval e X.env) :: starEach es X.env := by rfl) (hpl : (backTo pos (starEach es X.env)).any (·.1) = false := by rfl) : WE X (.Call (.Name x p) (e :: es) [] pos) (cCall mf ms) := ⟨ce_call h hr hg ha.un hdb he hpl⟩
end
section
variable [L2.TabP]
variable {X : Cx} {x : Str} {ps : List Str} {k : Nat} {mf : MF} {p pos : Pos} {e : Expr} {es : List Expr} {ms : MA}
end
section
variable [L2.TabP]
variable {X : Cx} {e : Expr} {es : List Expr} {ms : MA} {pos p : Pos} {x : Str} {id T : String} {r : List V → Hp → VK → Prop} {f : List R → M R}
theorem we_callB (hc : CallR X (.builtin id) r) (hf : BinC X.K X.mg r f) (hg : Gl X x) (hm : X.mg x = none) (hv : bootBuiltins x = some (.builtin id)) (ha : WA X (e :: es) ms) (hn : x ≠ "__name__" := by decide) (hdb : (x == ("__debug__" : Str)) = false := by decide) (he : starEach (e :: es) X.env = (false, eval e X.env) :: starEach es X.env := by rfl) (hpl : (backTo pos (starEach es X.env)).any (·.1) = false := by rfl) : WE X (.Call (.Name x p) (e :: es) [] pos) (cB f ms) := ⟨ce_callB hc hf hg hm hv ha.un hn hdb he hpl⟩
end
section
variable [L2.TabP]
variable {X : Cx} {st : Stmt} {rest : List Stmt} {pos : Pos} {a b : MS} {e : Expr} {m : ME}
theorem ws_if {c : Expr} {A B : List Stmt} {t : En → M Bool} (hc : WT X c t) (ha : WSs X A a) (hb : WSs X B b) : WS X (.If c A B pos) (cIfS t a b) := ⟨cs_if hc.un ha.un hb.un⟩
end
section
variable [L2.TabP]
variable {X : Cx} {st : Stmt} {rest : List Stmt} {pos : Pos} {a b : MS} {e : Expr} {m : ME}
theorem wss_nil  : WSs X [] cPass := ⟨css_nil⟩
end
section
variable [L2.TabP]
variable {X : Cx} {a b c e : Expr} {ma mb mc m : ME} {ta tb : En → M Bool} {pos : Pos}
theorem wt_cmp {op : CmpOp} {r : R2} {f : R → R → M R} (ho : OpR X (compareOp op) r) (hf : Bin X.K X.mg r f) (ha : WE X a ma) (hb : WE X b mb) (hm : behindInMarks op b = false) : WT X (.Compare a [op] [b] pos) (cT (c2 f ma mb)) := ⟨ct_cmp ho hf ha.un hb.un hm⟩
end
section
variable [L2.TabP]
variable {X : Cx} {a b c e : Expr} {ma mb mc m : ME} {ta tb : En → M Bool} {pos : Pos}
variable {rest : List Expr}
theorem wt_val (ha : WE X a ma) (he : ∀ whole, isTrue a X.env whole = (do let v ← whole; standAt a.pos; holding [v] (truthy v)) := by intro _; rfl) : WT X a (cT ma) := ⟨ct_val ha.un he⟩
end
section
variable [L2.TabP]
variable {X : Cx} {a b c e : Expr} {ma mb mc m : ME} {ta tb : En → M Bool} {pos : Pos}
theorem we_k {d : D} {v : V} (h : PE X e (tC v)) (r : ∀ O H, Rep X.K X.mg O H d v) : WE X e (cK d) := ⟨ce_k h r⟩
end
section
variable [L2.TabP]
variable {X : Cx} {e : Expr} {es : List Expr} {m : ME} {ms : MA} {pos : Pos}
theorem we_lst (h : WA X es ms) : WE X (.List es pos) (cLst ms) := ⟨ce_lst h.un⟩
end
section
variable [L2.TabP]
variable {X : Cx} {a b c e : Expr} {ma mb mc m : ME} {ta tb : En → M Bool} {pos : Pos}
theorem we_bl {b j pos} : WE X (.Constant (.bool b) j pos) (cK (.bl b)) := ⟨ce_bl⟩
end
section
variable [L2.TabP]
variable {X : Cx} {a b c e : Expr} {ma mb mc m : ME} {ta tb : En → M Bool} {pos : Pos}
variable {rest : List Expr}
theorem wt_not (ha : WT X a ta) : WT X (.UnaryOp .Not a pos) (tNotM ta) := ⟨ct_not ha.un⟩
end
section
variable [L2.TabP]
variable {X : Cx} {a b c e : Expr} {ma mb mc m : ME} {ta tb : En → M Bool} {pos : Pos}
variable {rest : List Expr}
theorem ww_or (ha : WT X a ta) (hb : WW X (.BoolOp .Or (b :: rest) pos) tb) : WW X (.BoolOp .Or (a :: b :: rest) pos) (tOrM ta tb) := ⟨cw_or ha.un hb.un⟩
end
section
variable [L2.TabP]
variable {X : Cx} {a b c e : Expr} {ma mb mc m : ME} {ta tb : En → M Bool} {pos : Pos}
theorem we_str {x j pos} : WE X (.Constant (.str x) j pos) (cK (.str x)) := ⟨ce_str⟩
end
section
variable [L2.TabP]
variable {X : Cx} {a b c e : Expr} {ma mb mc m : ME} {ta tb : En → M Bool} {pos : Pos}
theorem we_non {j pos} : WE X (.Constant .none j pos) (cK .non) := ⟨ce_non⟩
end
section
variable [L2.TabP]
variable {X : Cx} {a b c e : Expr} {ma mb mc m : ME} {ta tb : En → M Bool} {pos : Pos}
theorem we_cmp {op : CmpOp} {r : R2} {f : R → R → M R} (ho : OpR X (compareOp op) r) (hf : Bin X.K X.mg r f) (ha : WE X a ma) (hb : WE X b mb) (hm : behindInMarks op b = false) : WE X (.Compare a [op] [b] pos) (c2 f ma mb) := ⟨ce_cmp ho hf ha.un hb.un hm⟩
end
section
variable [L2.TabP]
variable {X : Cx} {tg iter : Expr} {it : MI} {i : Nat} {b : MS} {body : List Stmt} {pos tpos : Pos} {x : Str} {c : Expr} {t : En → M Bool}
theorem ws_for (hp : PassesOwn (model X.prog X.w) X.A X.env X.xe) (hc : X.calm = true) (hi : WIf X (.Name x tpos) iter it) (hN : X.N.Nodup) (hx : X.N[i]? = some x) (hl : Loc X.env.scope x) (hb : WSs X body b) (hs : ∀ x, foldedSetIterable iter X.env x = pure x := by intro _; rfl) (hf : X.fn x = true ∨ X.env.scope.names.lookup x = some .local := by first | exact .inl rfl | exact .inr rfl | assumption) : WS X (.For (.Name x tpos) iter body [] pos) (cFor i it b) := ⟨cs_for hp hc hi.un hN hx hl hb.un hs hf⟩
end
section
variable [L2.TabP]
variable {X : Cx} {a b c e : Expr} {ma mb mc m : ME} {ta tb : En → M Bool} {pos : Pos}
variable {rest : List Expr}
theorem we_and (ha : WE X a ma) (hb : WE X (.BoolOp .And (b :: rest) pos) mb) : WE X (.BoolOp .And (a :: b :: rest) pos) (cAnd ma mb) := ⟨ce_and ha.un hb.un⟩
end
section
variable [L2.TabP]
variable {X : Cx} {a b c e : Expr} {ma mb mc m : ME} {ta tb : En → M Bool} {pos : Pos}
variable {rest : List Expr}
theorem we_or (ha : WE X a ma) (hb : WE X (.BoolOp .Or (b :: rest) pos) mb) : WE X (.BoolOp .Or (a :: b :: rest) pos) (cOr ma mb) := ⟨ce_or ha.un hb.un⟩
end
section
variable [L2.TabP]
variable {X : Cx} {a b c e : Expr} {ma mb mc m : ME} {ta tb : En → M Bool} {pos : Pos}
variable {rest : List Expr}
theorem ww_or1 (ha : WT X a ta) : WW X (.BoolOp .Or [a] pos) ta := ⟨cw_or1 ha.un⟩
end
section
variable [L2.TabP]
variable {X : Cx} {a b c e : Expr} {ma mb mc m : ME} {ta tb : En → M Bool} {pos : Pos}
variable {rest : List Expr}
theorem ww_and (ha : WT X a ta) (hb : WW X (.BoolOp .And (b :: rest) pos) tb) : WW X (.BoolOp .And (a :: b :: rest) pos) (tAndM ta tb) := ⟨cw_and ha.un hb.un⟩
end
section
variable [L2.TabP]
variable {X : Cx} {e : Expr} {m : ME} {lo hi : Option Expr} {ml mh : MO} {pos p2 : Pos}
theorem wo_some (he : WE X e m) : WO X (some e) (cPart m) := ⟨co_some he.un⟩
end
section
variable [L2.TabP]
variable {X : Cx} {e : Expr} {m : ME} {lo hi : Option Expr} {ml mh : MO} {pos p2 : Pos}
theorem wo_none  : WO X none cNoPart := ⟨co_none⟩
end
section
variable [L2.TabP]
variable {X : Cx} {e : Expr} {m : ME} {lo hi : Option Expr} {ml mh : MO} {pos p2 : Pos}
theorem we_slice (he : WE X e m) (hl : WO X lo ml) (hu : WO X hi mh) : WE X (.Subscript e (.Slice lo hi none p2) pos) (cSl m ml mh) := ⟨ce_slice he.un hl.un hu.un⟩
end
section
variable [L2.TabP]
variable {X : Cx} {a b c e : Expr} {ma mb mc m : ME} {ta tb : En → M Bool} {pos : Pos}
variable {rest : List Expr}
theorem we_one {op} (h : WE X a ma) : WE X (.BoolOp op [a] pos) ma := ⟨ce_one h.un⟩
end
section
variable [L2.TabP]
variable {X : Cx} {scope esc : Scope} {EN N : List Str} {n : Nat} {cap : List Nat} {elt iter : Expr} {ifs : List Expr} {pos tpos : Pos} {x : Str} {it : MI} {t : En → M Bool} {el : ME}
end
section
variable [L2.TabP]
variable {X : Cx} {x : Str} {i j : Nat} {p apos cpos pos pos' : Pos} {e : Expr} {es : List Expr} {ms : MA} {name y : Str} {id : String} {f : List D → List R → M (R × List D)} {r : V → List V → Hp → VK → Prop}
end
section
variable [L2.TabP]
variable {X : Cx} {x : Str} {i j : Nat} {p apos cpos pos pos' : Pos} {e : Expr} {es : List Expr} {ms : MA} {name y : Str} {id : String} {f : List D → List R → M (R × List D)} {r : V → List V → Hp → VK → Prop}
end
section
variable [L2.TabP]
variable {X : Cx} {a b c e : Expr} {ma mb mc m : ME} {ta tb : En → M Bool} {pos : Pos}
variable {rest : List Expr}
theorem ww_and1 (ha : WT X a ta) : WW X (.BoolOp .And [a] pos) ta := ⟨cw_and1 ha.un⟩
end
section
variable [L2.TabP]
variable {X : Cx} {tg l : Expr} {m : ME} {e a b : Expr} {ms : MA} {pos p : Pos}
theorem wf_list (hl : WE X l m) : WIf X tg l (iL m) := ⟨cf_list hl.un⟩
end
section
variable [L2.TabP]
theorem we_neg {X : Cx} {a : Expr} {ma : ME} {pos : Pos} (ha : WE X a ma) : WE X (.UnaryOp .USub a pos) (c1 oNeg ma) := ⟨ce_neg ha.un⟩
end
section
variable [L2.TabP]
variable {X : Cx} {st : Stmt} {rest : List Stmt} {pos : Pos} {a b : MS} {e : Expr} {m : ME}
variable {i : Nat} {x : Str} {pos' : Pos}
end
section
variable [L2.TabP]
end
section
variable [L2.TabP]
variable {X : Cx} {a b c e : Expr} {ma mb mc m : ME} {ta tb : En → M Bool} {pos : Pos}
variable {rest : List Expr}
theorem we_not (ha : WE X a ma) : WE X (.UnaryOp .Not a pos) (cNot ma) := ⟨ce_not ha.un⟩
end
section
variable [L2.TabP]
variable {X : Cx} {a b c e : Expr} {ma mb mc m : ME} {ta tb : En → M Bool} {pos : Pos}
variable {rest : List Expr}
end
section
variable [L2.TabP]
variable {X : Cx} {e : Expr} {es : List Expr} {ms : MA} {pos p : Pos} {x : Str} {id T : String} {r : List V → Hp → VK → Prop} {f : List R → M R}
theorem we_callTy (hc : CallR X (.type T) r) (hf : BinC X.K X.mg r f) (hg : Gl X x) (hm : X.mg x = none) (hv : bootBuiltins x = some (.type T)) (ha : WA X (e :: es) ms) (hn : x ≠ "__name__" := by decide) (hdb : (x == ("__debug__" : Str)) = false := by decide) (he : starEach (e :: es) X.env = (false, eval e X.env) :: starEach es X.env := by rfl) (hpl : (backTo pos (starEach es X.env)).any (·.1) = false := by rfl) : WE X (.Call (.Name x p) (e :: es) [] pos) (cB f ms) := ⟨ce_callTy hc hf hg hm hv ha.un hn hdb he hpl⟩
end
section
variable [L2.TabP]
theorem wfs_one {X : Cx} {c : Expr} {t : En → M Bool} (h : WT X c t) : WFs X [c] t := ⟨cfs_one h.un⟩
end
section
variable [L2.TabP]
variable {X : Cx} {tg l : Expr} {m : ME} {e a b : Expr} {ms : MA} {pos p : Pos}
theorem wf_range1 (hg : Gl X "range") (hm : X.mg "range" = none) (ha : WA X [a] ms) (hs : starEach [a] X.env = [(false, eval a X.env)] := by rfl) : WIf X tg (.Call (.Name "range" p) [a] [] pos) (iR1 ms) := ⟨cf_range1 hg hm ha.un hs⟩
end
section
variable [L2.TabP]
variable {X : Cx} {tg l : Expr} {m : ME} {e a b : Expr} {ms : MA} {pos p : Pos}
theorem wf_range2 (hg : Gl X "range") (hm : X.mg "range" = none) (ha : WA X [a, b] ms) (hs : starEach [a, b] X.env = [(false, eval a X.env), (false, eval b X.env)] := by rfl) (hs2 : starEach [b] X.env = [(false, eval b X.env)] := by rfl) : WIf X tg (.Call (.Name "range" p) [a, b] [] pos) (iR2 ms) := ⟨cf_range2 hg hm ha.un hs hs2⟩
end
section
variable [L2.TabP]
variable {X : Cx} {a b c e : Expr} {ma mb mc m : ME} {ta tb : En → M Bool} {pos : Pos}
end
section
variable [L2.TabP]
variable {X : Cx} {x y : Str} {ps : List Str} {k i : Nat} {mf : MIO} {p q pos pos' : Pos} {es : List Expr} {ms : MA}
end
section
variable [L2.TabP]
variable {X : Cx} {tg l : Expr} {m : ME} {e a b : Expr} {ms : MA} {pos p : Pos}
end
section
variable [L2.TabP]
variable {X : Cx} {tg l : Expr} {m : ME} {e a b : Expr} {ms : MA} {pos p : Pos}
end
section
variable [L2.TabP]
variable {X : Cx} {tg iter : Expr} {it : MI} {i : Nat} {b : MS} {body : List Stmt} {pos tpos : Pos} {x : Str} {c : Expr} {t : En → M Bool}
end
section
variable [L2.TabP]
variable {X : Cx} {tg l : Expr} {m : ME} {e a b : Expr} {ms : MA} {pos p : Pos}
theorem wf_tup (hl : WE X l m) : WIf X tg l (iT m) := ⟨cf_tup hl.un⟩
end
section
variable [L2.TabP]
variable {X : Cx} {tg l : Expr} {m : ME} {e a b : Expr} {ms : MA} {pos p : Pos}
theorem wc_range1 (hg : Gl X "range") (hm : X.mg "range" = none) (ha : WA X [a] ms) (hs : starEach [a] X.env = [(false, eval a X.env)] := by rfl) : WIc X tg (.Call (.Name "range" p) [a] [] pos) (iR1 ms) := ⟨cc_range1 hg hm ha.un hs⟩
end
section
variable [L2.TabP]
variable {X : Cx} {tg l : Expr} {m : ME} {e a b : Expr} {ms : MA} {pos p : Pos}
end
section
variable [L2.TabP]
variable {X : Cx} {st : Stmt} {rest : List Stmt} {pos : Pos} {a b : MS} {e : Expr} {m : ME}
end
section
variable [L2.TabP]
variable {X : Cx} {st : Stmt} {rest : List Stmt} {pos : Pos} {a b : MS} {e : Expr} {m : ME}
end
section
variable [L2.TabP]
variable {X : Cx} {x : Str} {i j : Nat} {p apos cpos pos pos' : Pos} {e : Expr} {es : List Expr} {ms : MA} {name y : Str} {id : String} {f : List D → List R → M (R × List D)} {r : V → List V → Hp → VK → Prop}
end
section
variable [L2.TabP]
variable {X : Cx} {a b c e : Expr} {ma mb mc m : ME} {ta tb : En → M Bool} {pos : Pos}
end
section
variable [L2.TabP]
variable {X : Cx} {pos tpos : Pos} {is : List Nat} {e : Expr} {m : ME} {es : List Expr} {k : Nat} {iter : Expr} {it : MI} {body : List Stmt} {b : MS}
end
section
variable [L2.TabP]
variable {X : Cx} {pos tpos : Pos} {is : List Nat} {e : Expr} {m : ME} {es : List Expr} {k : Nat} {iter : Expr} {it : MI} {body : List Stmt} {b : MS}
end
section
variable [L2.TabP]
variable {X : Cx} {a : Expr} {ma : ME} {apos cpos : Pos}
end
section
variable [L2.TabP]
variable {X : Cx} {st : Stmt} {rest : List Stmt} {pos : Pos} {a b : MS} {e : Expr} {m : ME}
end
section
variable [L2.TabP]
variable {X : Cx} {st : Stmt} {rest : List Stmt} {pos : Pos} {a b : MS} {e : Expr} {m : ME}
end
section
variable [L2.TabP]
variable {X : Cx} {st : Stmt} {rest : List Stmt} {pos : Pos} {a b : MS} {e : Expr} {m : ME}
end
section
variable [L2.TabP]
variable {X : Cx} {st : Stmt} {rest : List Stmt} {pos : Pos} {a b : MS} {e : Expr} {m : ME}
end
section
variable [L2.TabP]
variable {X : Cx} {st : Stmt} {rest : List Stmt} {pos : Pos} {a b : MS} {e : Expr} {m : ME}
end
section
variable [L2.TabP]
variable {K : PySem.W.Frag} {mg : Str → Option Value} {O : Ow} {H : Hp}
end
section
variable [L2.TabP]
variable {X : Cx} {a b c e : Expr} {ma mb mc m : ME} {ta tb : En → M Bool} {pos : Pos}
variable {rest : List Expr}
theorem WW.ct (h : WW X a ta) : WT X a ta := ⟨CW.ct h.un⟩
end
section
variable [L2.TabP]
variable {X : Cx} {scope esc : Scope} {EN N : List Str} {n : Nat} {cap : List Nat} {elt iter : Expr} {ifs : List Expr} {pos tpos : Pos} {x : Str} {it : MI} {t : En → M Bool} {el : ME}
end
section
variable [L2.TabP]
variable {X : Cx} {scope esc : Scope} {EN N : List Str} {n : Nat} {cap : List Nat} {elt iter : Expr} {ifs : List Expr} {pos tpos : Pos} {x : Str} {it : MI} {t : En → M Bool} {el : ME}
theorem ws_asgS {i : Nat} {y : Str} {py spos : Pos} (S : CpScope esc scope EN N n cap) (hNd : X.N.Nodup) (hi' : X.N[i]? = some y) (hy : X.env.scope.names.lookup y = some .local) (hn : 0 < n) (hi : WIc X (.Name x tpos) iter it) (hx : N[0]? = some x) (hlx : ∀ C fp s H, Loc (cxComp X scope N C fp s H).env.scope x ∧ (cxComp X scope N C fp s H).env.scope.names.lookup x = some .local) (ht : ∀ C fp s H, WFs (cxComp X scope N C fp s H) ifs t) (hel : ∀ C fp s H, WE (cxComp X scope N C fp s H) elt el) (he : X.env.scope = esc := by rfl) (hN : X.N = EN := by rfl) (hc : X.calm = true := by rfl) (hs : ∀ x, foldedSetIterable iter X.env x = pure x := by intro _; rfl) (hsw : swapsWith (.ListComp elt [⟨.Name x tpos, iter, ifs, 0⟩] scope pos) (some (.Name y py)) spos.line X.env = pure true := by rfl) : WS X (.Assign [.Name y py] (.ListComp elt [⟨.Name x tpos, iter, ifs, 0⟩] scope pos) spos) (cSet i (cComp n cap it t el)) := ⟨ps_imp (asg_comp S hNd hi' hy hn hi.un hx hlx (fun C fp s H => (ht C fp s H).un) (fun C fp s H => (hel C fp s H).un) he hN hc hs hsw) (set_read (comp_read hn))⟩
end
end L3

set_option Elab.async false
set_option linter.all false
set_option maxRecDepth 100000
set_option maxHeartbeats 1000000
namespace L3
open PySem PySem.Spec L2 PyProof.Rows
/-! ### sorting by keys -/
/-- keys of one kind, as data -/
structure KO where
  κ : PyProof.Rows.KeyKind
  kd : κ.α → D
  un : D → Option κ.α
structure KO.Ok (Z : KO) : Prop where
  one : Z.κ.OneLt
  un_kd : ∀ d a, Z.un d = some a → d = Z.kd a
  key : ∀ (a : Z.κ.α) (K : PySem.W.Frag) (mg : Str → Option Value) (O : Ow) (H : Hp) (v : V) (u : Value), Rep K mg O H (Z.kd a) v → RelV v u → Z.κ.keyOf u = some a
  kind : ∀ (v₁ v₂ : Value) (vs : List Value), (∀ v ∈ v₁ :: v₂ :: vs, ∃ a, Z.κ.keyOf v = some a) → keyKind' (v₁ :: v₂ :: vs).toArray = pure oneType'
/-! the sorted list, in plain -/
section
variable {β : Type}
noncomputable def insB (blt : β → β → Bool) (p : β × D) : List (β × D) → List (β × D)
  | [] => [p]
  | q :: r => if blt q.1 p.1 then q :: insB blt p r else p :: q :: r
noncomputable def sortB (blt : β → β → Bool) : List (β × D) → List (β × D)
  | [] => []
  | p :: r => insB blt p (sortB blt r)
end
end L3

set_option Elab.async false
set_option linter.all false
set_option maxRecDepth 100000
set_option maxHeartbeats 1000000
namespace L3
open PySem PySem.Spec L2 PyProof.Rows
variable [L2.TabP]
noncomputable def lstP (a : Addr) (e : Nat) : Heap → Prop := fun h => h.get? a = some (seqObj "list" #[] e)
/-- the state between two keys -/
structure KSt (X : Cx) (pins : List (Addr × Obj)) (σ : L2.St) (G : Hp → Prop) (O : Ow) (H : Hp) (a kS : Addr) (e1 : Nat) (ks : List D) (s' : Shared) : Prop where
  ex : ∃ O' H' ys, Inv X pins σ H' s' ∧ Go O O' H H' ∧ Dom O' H' ∧ G H' ∧ H' a = some (.ext (lstP a e1)) ∧ H' kS = some (.lst ys) ∧ RepAll X.K X.mg O' H' ks ys ∧ O' kS = .tmp
section
variable {X : Cx} {pins : List (Addr × Obj)} {σ : L2.St} {H : Hp} {s : Shared} {G : Hp → Prop} {mf : MF} {f a kS : Addr} {k : Nat} {O : Ow} {e1 : Nat}
end
end L3

set_option Elab.async false
set_option linter.all false
set_option maxRecDepth 100000
set_option maxHeartbeats 1000000
namespace L3
open PySem PySem.Spec L2 PyProof.Rows
variable [L2.TabP]
section
variable {K : PySem.W.Frag} {mg : Str → Option Value} {O : Ow} {H : Hp} {Z : KO}
end
section
variable {X : Cx} {pins : List (Addr × Obj)} {σ : L2.St} {H : Hp} {s : Shared} {G : Hp → Prop} {mf : MF} {f a kS : Addr} {k : Nat} {O : Ow} {e1 : Nat} {Z : KO} {ds : List D} {ka : List Z.κ.α} {xs : List V} {us : List Value} {E : Value → Shared → Prop} {keys : Array Value}
end
end L3

set_option Elab.async false
set_option linter.all false
set_option maxRecDepth 100000
set_option maxHeartbeats 1000000
namespace L3
open PySem PySem.Spec L2 PyProof.Rows
variable [L2.TabP]
section
variable {X : Cx} {pins : List (Addr × Obj)} {σ : L2.St} {H : Hp} {s : Shared} {G : Hp → Prop} {mf : MF} {f l : Addr} {k : Nat} {O : Ow} {Z : KO} {ds : List D} {ka : List Z.κ.α} {xs : List V} {E : Value → Shared → Prop}
end
end L3

set_option Elab.async false
set_option linter.all false
set_option maxRecDepth 100000
set_option maxHeartbeats 1000000
namespace L3
open PySem PySem.Spec L2 PyProof.Rows
variable [L2.TabP]
/-! ### lambdas -/
/-- the code and the table of the def in which a lambda stands -/
structure Lm (K : PySem.W.Frag) (c P : Addr) (q : Str) : Prop where
  hd : ∀ h, K.In h → PySem.W.CodeHd h c P
  tp : TabP.tp P
  ql : TabP.ql P = q
structure Bm (base : Heap) (mg : Str → Option Value) : Prop where
  ex : ∃ bm o, mg (Str.ofString "__builtins__") = some (Value.ref bm) ∧ bm ≠ builtinsNs ∧ bm ≠ mainGlobals ∧ base.get? bm = some o ∧ o.cls = Value.type "module" ∧ o.dict = some builtinsNs ∧ o.data = Data.plain
section
variable {X : Cx} {k : Nat} {f c : Addr} {name q : Str} {params : Arguments} {body : Expr} {scope : Scope} {pm ctv : Value} {N ps : List Str} {m : ME}
end
end L3

set_option Elab.async false
set_option linter.all false
set_option maxRecDepth 100000
set_option maxHeartbeats 1000000
namespace L3
open PySem PySem.Spec L2 PyProof.Rows
variable [L2.TabP]
section
variable {X : Cx} {pins : List (Addr × Obj)} {σ : L2.St} {H : Hp} {s : Shared} {O : Ow} {c P : Addr} {q : Str} {params : Arguments} {body : Expr} {scope : Scope} {pos : Pos}
end
end L3

set_option Elab.async false
set_option linter.all false
set_option maxRecDepth 100000
set_option maxHeartbeats 1000000
namespace L3
open PySem PySem.Spec L2 PyProof.Rows
/-! ### sorted(.., key = ..) -/
variable [L2.TabP]
section
variable {X : Cx} {k : Nat} {e : Expr} {ma : ME} {Z : KO} {p pos kp : Pos} {kx : Expr} {mf : MF} {G : Addr → Hp → Prop}
end
/-! ### a def in which lambdas stand -/
end L3

set_option Elab.async false
set_option linter.all false
set_option maxRecDepth 100000
set_option maxHeartbeats 1000000
namespace L2
open PySem PySem.Spec PyProof.Rows
section
open PySem.SeqAt
open PySem.AutoSeq1 (wpAny_loadPart')
open PySem.MeetsSeq PySem.MeetsSeq2 PySem.MeetsSeq3
end
section
open PySem.SeqAt
open PySem.AutoSeq1 (wpAny_loadPart')
open PySem.MeetsSeq PySem.MeetsSeq2 PySem.MeetsSeq3
end
section
open PySem.SeqAt
open PySem.AutoSeq1 (wpAny_loadPart')
open PySem.MeetsSeq PySem.MeetsSeq2 PySem.MeetsSeq3
end
section
open PySem.SeqAt
open PySem.AutoSeq1 (wpAny_loadPart')
open PySem.MeetsSeq PySem.MeetsSeq2 PySem.MeetsSeq3
end
end L2
namespace L3
open PySem PySem.Spec L2
variable [L2.TabP]
end L3

set_option Elab.async false
set_option linter.all false
set_option maxRecDepth 100000
set_option maxHeartbeats 1000000
namespace L3
open PySem PySem.Spec L2 PyProof.Rows
/-! ### the head of a law in whose text lambdas stand -/
end L3
namespace L3
open PySem PySem.Spec L2 PyProof.Rows
end L3

set_option Elab.async false
set_option linter.all false
set_option maxRecDepth 100000
set_option maxHeartbeats 1000000
namespace L3
open PySem PySem.Spec L2 PyProof.Rows
variable [L2.TabP]
section
variable {X : Cx} {k : Nat} {e : Expr} {ma : ME} {Z : KO} {p pos kp : Pos} {mf : MF}
end
end L3

set_option Elab.async false
set_option linter.all false
set_option maxRecDepth 100000
set_option maxHeartbeats 1000000
namespace L3
open PySem PySem.Spec L2
/-! ### dicts with ints and texts for keys -/
noncomputable def keyD : D → Option Key
  | .int i => some (.inl i)
  | .str x => some (.inr x)
  | _ => none
noncomputable def dvalD (kvs : List (Key × D)) (k : Key) : Option D := (kvs.find? fun kv => decide (kv.1 = k)).map (·.2)
noncomputable def dputD (kvs : List (Key × D)) (k : Key) (d : D) : List (Key × D) :=
  if (kvs.any fun kv => decide (kv.1 = k)) = true then kvs.map (fun kv => if kv.1 = k then (kv.1, d) else kv) else kvs ++ [(k, d)]
/-- d.get(k, x) -/
noncomputable def cDGet2 (m mk mx : ME) : ME := fun σ => do
  let x ← m σ
  let k ← mk σ
  let z ← mx σ
  match x, k, z with
  | .dv kvs, .v kd, .v zd => match keyD kd with
    | some key => pure (.v ((dvalD kvs key).getD zd))
    | none => bad
  | _, _, _ => bad
/-- d[k] -/
noncomputable def oDIx : R → R → M R
  | .dv kvs, .v kd => match keyD kd with
    | some key => match dvalD kvs key with
      | some d => pure (.v d)
      | none => bad
    | none => bad
  | _, _ => bad
/-- k in d -/
noncomputable def oDIn (neg : Bool) : R → R → M R
  | .v kd, .dv kvs => match keyD kd with
    | some key => pure (.v (.bl (if neg then !(dvalD kvs key).isSome else (dvalD kvs key).isSome)))
    | none => bad
  | _, _ => bad
/-- x = {} -/
noncomputable def cDNew (i : Nat) : MS := fun σ => pure (.nx (σ.set i (.dct [])))
/-- x[k] = v -/
noncomputable def cDPut (i : Nat) (mk mv : ME) : MS := fun σ => do
  let r ← mv σ
  let d ← r.dat
  let k ← mk σ
  match σ[i]?, k with
  | some (.dct kvs), .v kd => match keyD kd with
    | some key => if kvs.length < 1000 then pure (.nx (σ.set i (.dct (dputD kvs key d)))) else bad
    | none => bad
  | _, _ => bad
variable [L2.TabP]
section
variable {K : PySem.W.Frag} {mg : Str → Option Value} {O : Ow} {H : Hp}
end
/-! what stands while a dict is written -/
section
variable {K : PySem.W.Frag} {mg : Str → Option Value} {O : Ow} {H : Hp} {l : Addr} {zs : List (Key × V)} {o : HO}
mutual
theorem Rep.updK (hl : H l = some (.dK zs)) : ∀ {d : D} {v : V}, Rep K mg O H d v → Rep K mg O (upd H l o) d v
  | .non, _, h => h
  | .bl _, _, h => h
  | .int _, _, h => h
  | .str _, _, h => h
  | .tup _, _, h => by
    obtain ⟨a, ys, q, t, r⟩ := h
    refine ⟨a, ys, q, ?_, RepAll.updK hl r⟩
    rcases t with (t | ⟨o, t⟩) | t
    · exact .inl (.inl (by rw [upd_ne (ne_of t hl (by intro z; cases z))]; exact t))
    · exact .inl (.inr ⟨o, by rw [upd_ne (ne_of t hl (by intro z; cases z))]; exact t⟩)
    · exact .inr t
  | .lst _, _, h => by
    obtain ⟨a, ys, q, t, r⟩ := h
    exact ⟨a, ys, q, ⟨by rw [upd_ne (ne_of t.1 hl (by intro z; cases z))]; exact t.1, t.2⟩, RepAll.updK hl r⟩
  | .dic _ _, _, h => h
  | .fn _, _, h => h
  | .ty _, _, h => h
theorem RepAll.updK (hl : H l = some (.dK zs)) : ∀ {ds : List D} {ys : List V}, RepAll K mg O H ds ys → RepAll K mg O (upd H l o) ds ys
  | [], _, h => h
  | _ :: _, _, h => by obtain ⟨x, r, q, a, b⟩ := h; exact ⟨x, r, q, Rep.updK hl a, RepAll.updK hl b⟩
end
end
section
variable {X : Cx} {o i e f value : Expr} {m mk mx mv : ME} {pos pos' apos cpos : Pos} {x : Str} {j : Nat}
end
end L3

set_option Elab.async false
set_option linter.all false
set_option maxRecDepth 100000
set_option maxHeartbeats 1000000
namespace L3
open PySem PySem.Spec L2
variable [L2.TabP]
section
variable {X : Cx} {o i e f value : Expr} {m mk mx mv : ME} {pos pos' apos cpos : Pos} {x : Str} {j : Nat}
end
/-! ### evaluation -/
end L3
namespace L3
open PySem PySem.Spec L2
@[simp] theorem e_dget2 {m mk mx : ME} {σ : En} : cDGet2 m mk mx σ = (do
  let x ← m σ
  let k ← mk σ
  let z ← mx σ
  match x, k, z with
  | .dv kvs, .v kd, .v zd => match keyD kd with
    | some key => pure (.v ((dvalD kvs key).getD zd))
    | none => bad
  | _, _, _ => bad) := rfl
@[simp] theorem e_keyi {i : Int} : keyD (.int i) = some (.inl i) := rfl
@[simp] theorem e_keys {x : Str} : keyD (.str x) = some (.inr x) := rfl
@[simp] theorem e_dix {kvs : List (Key × D)} {kd : D} : oDIx (.dv kvs) (.v kd) = match keyD kd with
    | some key => match dvalD kvs key with
      | some d => pure (.v d)
      | none => bad
    | none => bad := rfl
@[simp] theorem e_din {neg : Bool} {kvs : List (Key × D)} {kd : D} : oDIn neg (.v kd) (.dv kvs) = match keyD kd with
    | some key => pure (.v (.bl (if neg then !(dvalD kvs key).isSome else (dvalD kvs key).isSome)))
    | none => bad := rfl
@[simp] theorem e_dnew {i : Nat} {σ : En} : cDNew i σ = pure (.nx (σ.set i (.dct []))) := rfl
@[simp] theorem e_dput {i : Nat} {mk mv : ME} {σ : En} : cDPut i mk mv σ = (do
  let r ← mv σ
  let d ← r.dat
  let k ← mk σ
  match σ[i]?, k with
  | some (.dct kvs), .v kd => match keyD kd with
    | some key => if kvs.length < 1000 then pure (.nx (σ.set i (.dct (dputD kvs key d)))) else bad
    | none => bad
  | _, _ => bad) := rfl
end L3


set_option Elab.async false
set_option linter.all false
set_option maxRecDepth 100000
set_option maxHeartbeats 1000000
namespace L3
open PySem PySem.Spec L2 PyProof.Rows
/-! ### sorted(..) of a list or of a dict's keys, without a key -/
variable [L2.TabP]
section
variable {X : Cx} {pins : List (Addr × Obj)} {σ : L2.St} {H : Hp} {s : Shared} {O : Ow} {Z : KO} {ka : List Z.κ.α} {xs : List V} {us : List Value} {E : Value → Shared → Prop} {A : Around} {Q : VK}
end
section
variable {K : PySem.W.Frag} {mg : Str → Option Value} {Z : KO}
end
end L3

set_option Elab.async false
set_option linter.all false
set_option maxRecDepth 100000
set_option maxHeartbeats 1000000
namespace L3
open PySem PySem.Spec L2 PyProof.Rows
/-! ### slices of texts -/
noncomputable def cutS (z : Str) (lo hi : Option Int) : Str := ⟨(cutD z.cps.toList lo hi).toArray⟩
noncomputable def oSlS : R → Option Int → Option Int → M R
  | .v (.str z), lo, hi => if z.length ≤ sizeLine then pure (.v (.str (cutS z lo hi))) else bad
  | _, _, _ => bad
noncomputable def cSlS (a : ME) (lo hi : MO) : ME := fun σ => do
  let x ← a σ
  let l ← lo σ
  let h ← hi σ
  oSlS x l h
variable [L2.TabP]
section
variable {X : Cx} {e : Expr} {m : ME} {lo hi : Option Expr} {ml mh : MO} {pos p2 : Pos}
end
omit [L2.TabP] in
@[simp] theorem e_slS {a : ME} {lo hi : MO} {σ : En} : cSlS a lo hi σ = (do
  let x ← a σ
  let l ← lo σ
  let h ← hi σ
  oSlS x l h) := rfl
omit [L2.TabP] in
@[simp] theorem e_sls {z : Str} {lo hi : Option Int} : oSlS (.v (.str z)) lo hi = if z.length ≤ sizeLine then pure (.v (.str (cutS z lo hi))) else bad := rfl
end L3

set_option Elab.async false
set_option linter.all false
set_option maxRecDepth 100000
set_option maxHeartbeats 1000000
namespace L3
open PySem PySem.Spec L2 PyProof.Rows
/-! ### a table of defs, by texts; a def in a local name -/
structure FnTab (P : Program) (w : World) (K : PySem.W.Frag) (mg : Str → Option Value) (x : Str) (ps : List (Str × Str)) : Prop where
  ex : ∃ (a : Addr) (es : Array DictEntry) (n : Nat), mg x = some (.ref a) ∧ List.lookup a K = some { cls := .type "dict", data := .dict es n } ∧ PySem.KeysOf (PySem.strKind P w) es ∧
    ∀ k fn, ps.lookup k = some fn → ∃ f, findBy Value.isStrOf es k = some (.ref f) ∧ mg fn = some (.ref f)
noncomputable def cTab (ps : List (Str × Str)) (mk : ME) : ME := fun σ => do
  let k ← mk σ
  match k with
  | .v (.str z) => match ps.lookup z with
    | some fn => pure (.v (.fn fn))
    | none => bad
  | _ => bad
noncomputable def cCallV (i : Nat) (fs : List (Str × MF)) (ms : MA) : ME := fun σ => match σ[i]? with
  | some (.val (.fn f)) => match fs.lookup f with
    | some mf => cCall mf ms σ
    | none => bad
  | _ => bad
variable [L2.TabP]
section
variable {X : Cx} {x : Str} {ps : List (Str × Str)} {i : Expr} {pos p : Pos} {ty : TE} {mk : ME} {j k : Nat} {e : Expr} {es : List Expr} {ms : MA} {pp : List Str} {fs : List (Str × MF)}
end
omit [L2.TabP] in
@[simp] theorem e_tab {ps : List (Str × Str)} {mk : ME} {σ : En} : cTab ps mk σ = (do
  let k ← mk σ
  match k with
  | .v (.str z) => match ps.lookup z with
    | some fn => pure (.v (.fn fn))
    | none => bad
  | _ => bad) := rfl
omit [L2.TabP] in
@[simp] theorem e_callV {i : Nat} {fs : List (Str × MF)} {ms : MA} {σ : En} : cCallV i fs ms σ = match σ[i]? with
  | some (.val (.fn f)) => match fs.lookup f with
    | some mf => cCall mf ms σ
    | none => bad
  | _ => bad := rfl
omit [L2.TabP] in
@[simp] theorem e_slotfn {f : Str} : slotOf (.fn f) = .val (.fn f) := rfl
end L3

set_option Elab.async false
set_option linter.all false
set_option maxRecDepth 100000
set_option maxHeartbeats 1000000
namespace L3
open PySem PySem.Spec L2 PyProof.Rows
/-! ### xs[i] = v of an own list; xs * n; a, b from a list -/
noncomputable def cIPut (j : Nat) (mk mv : ME) : MS := fun σ => do
  let r ← mv σ
  let d ← r.dat
  let k ← mk σ
  match σ[j]?, k with
  | some (.ow p xs), .v (.int i) => if 0 ≤ i ∧ i < xs.length then pure (.nx (σ.set j (.ow p (xs.set i.toNat d)))) else bad
  | _, _ => bad
section
variable {prog : Program} {w : World} {A : Around} {E : Value → Shared → Prop} {s : Shared}
end
variable [L2.TabP]
section
variable {K : PySem.W.Frag} {mg : Str → Option Value}
end
section
variable {X : Cx} {o i e value : Expr} {m mk mv : ME} {pos pos' apos tpos : Pos} {x : Str} {j : Nat}
end
section
variable {X : Cx} {pos tpos : Pos} {is : List Nat} {es : List Expr} {k : Nat} {iter : Expr} {it : MI} {body : List Stmt} {b : MS}
noncomputable def cForL (is : List Nat) (it : MI) (b : MS) : MS := fun σ => do
  let ds ← it σ
  fLoop (fun d σ => match d with
    | .lst es => if es.length = is.length then b (setsD is es σ) else bad
    | _ => bad) ds σ
end
omit [L2.TabP] in
@[simp] theorem e_iput {j : Nat} {mk mv : ME} {σ : En} : cIPut j mk mv σ = (do
  let r ← mv σ
  let d ← r.dat
  let k ← mk σ
  match σ[j]?, k with
  | some (.ow p xs), .v (.int i) => if 0 ≤ i ∧ i < xs.length then pure (.nx (σ.set j (.ow p (xs.set i.toNat d)))) else bad
  | _, _ => bad) := rfl
omit [L2.TabP] in
@[simp] theorem e_forL {is : List Nat} {it : MI} {b : MS} {σ : En} : cForL is it b σ = (do
  let ds ← it σ
  fLoop (fun d σ => match d with
    | .lst es => if es.length = is.length then b (setsD is es σ) else bad
    | _ => bad) ds σ) := rfl
end L3

set_option Elab.async false
set_option linter.all false
set_option maxRecDepth 100000
set_option maxHeartbeats 1000000
namespace L3
open PySem PySem.W PyProof.Rows
/-! ### the sort's asks, by an order of distinct things -/
/-- a strict order in which any two stand apart -/
structure Ord (n : Nat) (lt : Nat → Nat → Bool) : Prop where
  tr : ∀ i j k, i < n → j < n → k < n → lt i j = true → lt j k = true → lt i k = true
  tot : ∀ i j, i < n → j < n → i ≠ j → lt i j = false → lt j i = true
  asy : ∀ i j, i < n → j < n → lt i j = true → lt j i = false
/-- a row of the places 0 .. n - 1 -/
structure Row (n : Nat) (p : Array Nat) : Prop where
  sz : p.size = n
  lt : ∀ i, i < n → p.getD i 0 < n
  ap : ∀ i j, i < n → j < n → i ≠ j → p.getD i 0 ≠ p.getD j 0
  pm : p.toList.Perm (List.range n)
section
variable {n : Nat} {lt : Nat → Nat → Bool} (O : Ord n lt)
include O
end
end L3

set_option Elab.async false
set_option linter.all false
set_option maxRecDepth 100000
set_option maxHeartbeats 1000000
namespace L3
open PySem PySem.W PyProof.Rows
/-! ### list.sort, by the asks -/
section
variable {prog : Program} {w : World} {A : Around} {E : Value → Shared → Prop} {s : Shared}
end
end L3

set_option Elab.async false
set_option linter.all false
set_option maxRecDepth 100000
set_option maxHeartbeats 1000000
namespace L3
open PySem
open Sem (wp)
/-! ### a place (e, (n, i)) as a key -/
section
variable {prog : Program} {w : World}
variable {A : Around} {E : Value → Shared → Prop} {s : Shared}
end
end L3

set_option Elab.async false
set_option linter.all false
set_option maxRecDepth 100000
set_option maxHeartbeats 1000000
namespace L3
open PySem PySem.W PyProof.Rows
open Sem (wp)
/-! ### the keys of a dict, whatever they are -/
section
variable {prog : Program} {w : World} {A : Around} {E : Value → Shared → Prop} {s : Shared} {d it : Addr} {es : Array DictEntry} {ep : Nat}
end
end L3

set_option Elab.async false
set_option linter.all false
set_option maxRecDepth 100000
set_option maxHeartbeats 1000000
namespace L3
open PySem PySem.Spec L2 PyProof.Rows
/-! ### dicts whose keys are places -/
noncomputable def unPl : D → Option Pl
  | .tup [.int e, .tup [.int n, .int i]] => some (e, n, i)
  | _ => none
noncomputable def pval (kvs : List (Pl × D)) (p : Pl) : Option D := (kvs.find? fun kv => decide (kv.1 = p)).map (·.2)
noncomputable def pput (kvs : List (Pl × D)) (p : Pl) (d : D) : List (Pl × D) := if (kvs.any fun kv => decide (kv.1 = p)) = true then kvs.map fun kv => if kv.1 = p then (kv.1, d) else kv else kvs ++ [(p, d)]
section
variable {X : Cx} {pins : List (Addr × Obj)} {σ : L2.St} {H : Hp} {s : Shared}
end
section
variable {K : PySem.W.Frag} {mg : Str → Option Value} {O : Ow} {H : Hp}
end
end L3

set_option Elab.async false
set_option linter.all false
set_option maxRecDepth 100000
set_option maxHeartbeats 1000000
namespace L3
open PySem PySem.Spec L2 PyProof.Rows
variable [L2.TabP]
/-! what stands while a dict is written -/
section
variable {K : PySem.W.Frag} {mg : Str → Option Value} {O : Ow} {H : Hp} {l : Addr} {zs : List (Pl × Addr × Value)} {o : HO}
mutual
theorem Rep.updP (hl : H l = some (PD l zs)) : ∀ {d : D} {v : V}, Rep K mg O H d v → Rep K mg O (upd H l o) d v
  | .non, _, h => h
  | .bl _, _, h => h
  | .int _, _, h => h
  | .str _, _, h => h
  | .tup _, _, h => by
    obtain ⟨a, ys, q, t, r⟩ := h
    refine ⟨a, ys, q, ?_, RepAll.updP hl r⟩
    rcases t with (t | ⟨o, t⟩) | t
    · exact .inl (.inl (by rw [upd_ne (ne_of t hl (by intro z; cases z))]; exact t))
    · exact .inl (.inr ⟨o, by rw [upd_ne (ne_of t hl (by intro z; cases z))]; exact t⟩)
    · exact .inr t
  | .lst _, _, h => by
    obtain ⟨a, ys, q, t, r⟩ := h
    exact ⟨a, ys, q, ⟨by rw [upd_ne (ne_of t.1 hl (by intro z; cases z))]; exact t.1, t.2⟩, RepAll.updP hl r⟩
  | .dic _ _, _, h => h
  | .fn _, _, h => h
  | .ty _, _, h => h
theorem RepAll.updP (hl : H l = some (PD l zs)) : ∀ {ds : List D} {ys : List V}, RepAll K mg O H ds ys → RepAll K mg O (upd H l o) ds ys
  | [], _, h => h
  | _ :: _, _, h => by obtain ⟨x, r, q, a, b⟩ := h; exact ⟨x, r, q, Rep.updP hl a, RepAll.updP hl b⟩
end
end
/-! the rules -/
noncomputable def cPNew (i : Nat) : MS := fun σ => pure (.nx (σ.set i (.pd [])))
noncomputable def pdOf : Option Slot → Option (List (Pl × D))
  | some (.pd kvs) => some kvs
  | some (.vp kvs) => some kvs
  | _ => none
noncomputable def cPIx (j : Nat) (mk : ME) : ME := fun σ => do
  let k ← mk σ
  match pdOf σ[j]?, k with
  | some kvs, .v kd => match unPl kd with
    | some p => match pval kvs p with
      | some d => pure (.v d)
      | none => bad
    | none => bad
  | _, _ => bad
noncomputable def cPGet2 (j : Nat) (mk mx : ME) : ME := fun σ => do
  let k ← mk σ
  let z ← mx σ
  match pdOf σ[j]?, k, z with
  | some kvs, .v kd, .v zd => match unPl kd with
    | some p => pure (.v ((pval kvs p).getD zd))
    | none => bad
  | _, _, _ => bad
noncomputable def cPPut (i : Nat) (mk mv : ME) : MS := fun σ => do
  let r ← mv σ
  let d ← r.dat
  let k ← mk σ
  match σ[i]?, k with
  | some (.pd kvs), .v kd => match unPl kd with
    | some p => if kvs.length < 1000 then pure (.nx (σ.set i (.pd (pput kvs p d)))) else bad
    | none => bad
  | _, _ => bad
section
variable {K : PySem.W.Frag} {mg : Str → Option Value} {O : Ow} {H : Hp}
end
section
variable {X : Cx} {o i e f value : Expr} {m mk mx mv : ME} {ti tx : TE} {pos pos' apos cpos p : Pos} {x : Str} {j : Nat}
end
end L3

set_option Elab.async false
set_option linter.all false
set_option maxRecDepth 100000
set_option maxHeartbeats 1000000
namespace L3
open PySem PySem.Spec L2 PyProof.Rows
variable [L2.TabP]
section
variable {X : Cx} {o i e f value : Expr} {m mk mx mv : ME} {ti tx : TE} {pos pos' apos cpos p : Pos} {x : Str} {j : Nat}
end
end L3

set_option Elab.async false
set_option linter.all false
set_option maxRecDepth 100000
set_option maxHeartbeats 1000000
namespace L3
open PySem PySem.Spec L2 PyProof.Rows PySem.W
/-! ### the places of a dict, sorted -/
noncomputable def plB (a b : Pl) : Bool := decide (a.1 < b.1 ∨ a.1 = b.1 ∧ (a.2.1 < b.2.1 ∨ a.2.1 = b.2.1 ∧ a.2.2 < b.2.2))
section
variable [L2.TabP] {X : Cx} {pins : List (Addr × Obj)} {σ : L2.St} {H : Hp} {s : Shared} {A : Around} {E : Value → Shared → Prop} {O : Ow} {Q : VK}
end
end L3

set_option Elab.async false
set_option linter.all false
set_option maxRecDepth 100000
set_option maxHeartbeats 1000000
namespace L3
open PySem PySem.Spec L2 PyProof.Rows PySem.W
variable [L2.TabP]
noncomputable def cSortPl (j : Nat) : ME := fun σ => match pdOf σ[j]? with
  | some kvs => if kvs.length < 64 then pure (.fr ((sortB plB (kvs.map fun kv => (kv.1, plD kv.1))).map (·.2))) else bad
  | none => bad
section
variable {X : Cx} {o i e f value : Expr} {m mk mx mv : ME} {ti tx : TE} {pos pos' apos cpos p pp : Pos} {x : Str} {j : Nat}
end
section
omit [L2.TabP]
@[simp] theorem e_pnew {i : Nat} {σ : En} : cPNew i σ = pure (.nx (σ.set i (.pd []))) := rfl
@[simp] theorem e_pdOf {kvs : List (Pl × D)} : pdOf (some (.pd kvs)) = some kvs := rfl
@[simp] theorem e_vpOf {kvs : List (Pl × D)} : pdOf (some (.vp kvs)) = some kvs := rfl
@[simp] theorem e_cppd {kvs : List (Pl × D)} : cpSlot (some (.pd kvs)) = .vp kvs := rfl
@[simp] theorem e_unPl {a b c : Int} : unPl (.tup [.int a, .tup [.int b, .int c]]) = some (a, b, c) := rfl
@[simp] theorem e_unPlD {p : Pl} : unPl (plD p) = some p := rfl
@[simp] theorem e_pix {j : Nat} {mk : ME} {σ : En} : cPIx j mk σ = (do
  let k ← mk σ
  match pdOf σ[j]?, k with
  | some kvs, .v kd => match unPl kd with
    | some p => match pval kvs p with
      | some d => pure (.v d)
      | none => bad
    | none => bad
  | _, _ => bad) := rfl
@[simp] theorem e_pget2 {j : Nat} {mk mx : ME} {σ : En} : cPGet2 j mk mx σ = (do
  let k ← mk σ
  let z ← mx σ
  match pdOf σ[j]?, k, z with
  | some kvs, .v kd, .v zd => match unPl kd with
    | some p => pure (.v ((pval kvs p).getD zd))
    | none => bad
  | _, _, _ => bad) := rfl
@[simp] theorem e_pput {i : Nat} {mk mv : ME} {σ : En} : cPPut i mk mv σ = (do
  let r ← mv σ
  let d ← r.dat
  let k ← mk σ
  match σ[i]?, k with
  | some (.pd kvs), .v kd => match unPl kd with
    | some p => if kvs.length < 1000 then pure (.nx (σ.set i (.pd (pput kvs p d)))) else bad
    | none => bad
  | _, _ => bad) := rfl
@[simp] theorem e_sortPl {j : Nat} {σ : En} : cSortPl j σ = match pdOf σ[j]? with
  | some kvs => if kvs.length < 64 then pure (.fr ((sortB plB (kvs.map fun kv => (kv.1, plD kv.1))).map (·.2))) else bad
  | none => bad := rfl
end
end L3
namespace L3
open PySem PySem.Spec L2
section
variable {P : List Value → Prop}
theorem us1 (h : ∀ a, P [a]) : ∀ us : List Value, us.length = 1 → P us
  | [_], _ => h _
theorem us2 (h : ∀ a b, P [a, b]) : ∀ us : List Value, us.length = 2 → P us
  | [_, _], _ => h _ _
theorem us3 (h : ∀ a b c, P [a, b, c]) : ∀ us : List Value, us.length = 3 → P us
  | [_, _, _], _ => h _ _ _
theorem us4 (h : ∀ a b c d, P [a, b, c, d]) : ∀ us : List Value, us.length = 4 → P us
  | [_, _, _, _], _ => h _ _ _ _
theorem us5 (h : ∀ a b c d e, P [a, b, c, d, e]) : ∀ us : List Value, us.length = 5 → P us
  | [_, _, _, _, _], _ => h _ _ _ _ _
theorem us6 (h : ∀ a b c d e f, P [a, b, c, d, e, f]) : ∀ us : List Value, us.length = 6 → P us
  | [_, _, _, _, _, _], _ => h _ _ _ _ _ _
end
end L3

set_option Elab.async false
set_option linter.all false
set_option maxRecDepth 100000
set_option maxHeartbeats 1000000
namespace L3
open PySem PySem.Spec L2
variable [L2.TabP]
/-! ### trees: parts of them, puts into them -/
noncomputable def Tr.kids : Tr → List Tr
  | .lf _ => []
  | .ls ts => ts
  | .dc _ ts => ts
  | .ob _ _ ts => ts
noncomputable def Tr.sub : Tr → Nat → Tr → Tr
  | .lf d, _, _ => .lf d
  | .ls ts, n, s => .ls (ts.set n s)
  | .dc ks ts, n, s => .dc ks (ts.set n s)
  | .ob c ns ts, n, s => .ob c ns (ts.set n s)
noncomputable def Tr.atP : List Nat → Tr → Option Tr
  | [], t => some t
  | n :: p, t => match t.kids[n]? with
    | some s => Tr.atP p s
    | none => none
noncomputable def Tr.put : List Nat → Tr → Tr → Tr
  | [], _, s => s
  | n :: p, t, s => match t.kids[n]? with
    | some u => t.sub n (Tr.put p u s)
    | none => t
/-- the n-th of what stands at a -/
noncomputable def kidV (H : Hp) (a : Addr) (n : Nat) : Option V := match H a with
  | some (.lst ys) => ys[n]?
  | some (.dK kvs) => kvs[n]?.map (·.2)
  | some (.ins _ _ fs) => fs[n]?.map (·.2)
  | _ => none
noncomputable def PathV (H : Hp) : V → List Nat → V → Prop
  | v, [], v' => v = v'
  | v, n :: q, v' => ∃ a y, v = .ref a ∧ kidV H a n = some y ∧ PathV H y q v'
omit [L2.TabP] in
theorem PathV.det {H : Hp} : ∀ {q : List Nat} {v a b : V}, PathV H v q a → PathV H v q b → a = b
  | [], _, _, _, h, h' => h.symm.trans h'
  | _ :: _, _, _, _, ⟨a, y, e, k, h⟩, ⟨a', y', e', k', h'⟩ => by
    subst e
    cases e'
    rw [k] at k'
    cases k'
    exact PathV.det h h'
omit [L2.TabP] in
theorem PathV.snoc {H : Hp} {n : Nat} {a : Addr} {y : V} (k : kidV H a n = some y) : ∀ {q : List Nat} {v : V}, PathV H v q (.ref a) → PathV H v (q ++ [n]) y
  | [], _, h => ⟨a, y, h, k, rfl⟩
  | _ :: _, _, ⟨a', y', e, k', h⟩ => ⟨a', y', e, k', PathV.snoc k h⟩
theorem kidV.same {H H' : Hp} (s : Same H H') {a : Addr} {n : Nat} {y : V} (h : kidV H a n = some y) : kidV H' a n = some y := by
  unfold kidV at h
  split at h
  · rename_i ys e; unfold kidV; rw [s.at' _ _ e]; exact h
  · rename_i ys e; unfold kidV; rw [s.at' _ _ e]; exact h
  · rename_i e; unfold kidV; rw [s.at' _ _ e]; exact h
  · cases h
theorem PathV.same {H H' : Hp} (s : Same H H') : ∀ {q : List Nat} {v a : V}, PathV H v q a → PathV H' v q a
  | [], _, _, h => h
  | _ :: _, _, _, ⟨a, y, e, k, h⟩ => ⟨a, y, e, kidV.same s k, PathV.same s h⟩
omit [L2.TabP] in
theorem atP_snoc {n : Nat} {s u : Tr} (e : s.kids[n]? = some u) : ∀ {p : List Nat} {t : Tr}, Tr.atP p t = some s → Tr.atP (p ++ [n]) t = some u
  | [], t, h => by
    obtain rfl : t = s := Option.some.inj h
    show (match t.kids[n]? with | some z => some z | none => none) = some u
    rw [e]
  | m :: p, t, h => by
    unfold Tr.atP at h
    show (match t.kids[m]? with | some z => Tr.atP (p ++ [n]) z | none => none) = some u
    cases ek : t.kids[m]? with
    | none => rw [ek] at h; cases h
    | some z => rw [ek] at h; exact atP_snoc e h
section
variable {K : PySem.W.Frag} {mg : Str → Option Value} {O O' : Ow} {H H' : Hp} {w w' : Own}
theorem TreeAll.len : ∀ {ts : List Tr} {ys : List V} {p : List Nat} {n : Nat}, TreeAll K mg O H w p n ts ys → ys.length = ts.length
  | [], _, _, _, h => by cases h; rfl
  | _ :: _, _, _, _, h => by obtain ⟨y, r, rfl, _, b⟩ := h; rw [List.length_cons, List.length_cons, TreeAll.len b]
theorem TreeAll.get : ∀ {ts : List Tr} {ys : List V} {p : List Nat} {m k : Nat} {s : Tr}, TreeAll K mg O H w p m ts ys → ts[k]? = some s → ∃ y, ys[k]? = some y ∧ TreeR K mg O H w (p ++ [m + k]) s y
  | [], _, _, _, _, _, _, e => by simp at e
  | _ :: _, _, _, _, 0, s, h, e => by obtain ⟨y, r, rfl, a, _⟩ := h; cases (show some _ = some s from e); exact ⟨y, rfl, a⟩
  | _ :: ts, _, p, m, k + 1, s, h, e => by
    obtain ⟨y, r, rfl, _, b⟩ := h
    obtain ⟨z, e1, e2⟩ := TreeAll.get (k := k) b (by simpa using e)
    refine ⟨z, by simpa using e1, ?_⟩
    rw [show m + (k + 1) = m + 1 + k by omega]
    exact e2
mutual
theorem TreeR.allP (f : ∀ d v, Rep K mg O H d v → Rep K mg O' H' d v) : ∀ (t : Tr) {p p' : List Nat} {v : V}, (∀ (a : Addr) (u : HO) (r : List Nat), O a = w.at (p ++ r) → H a = some u → nT u → O' a = w'.at (p' ++ r) ∧ H' a = some u) → TreeR K mg O H w p t v → TreeR K mg O' H' w' p' t v
  | .lf _, _, _, _, _, h => f _ _ h
  | .ls ts, p, p', _, g, h => by
    obtain ⟨a, ys, e, o, l, r⟩ := h
    obtain ⟨o', l'⟩ := g a _ [] (by rw [List.append_nil]; exact o) l trivial
    exact ⟨a, ys, e, by rw [List.append_nil] at o'; exact o', l', TreeAll.allP f ts g r⟩
  | .dc _ ts, p, p', _, g, h => by
    obtain ⟨a, ys, e, o, l, q, r⟩ := h
    obtain ⟨o', l'⟩ := g a _ [] (by rw [List.append_nil]; exact o) l trivial
    exact ⟨a, ys, e, by rw [List.append_nil] at o'; exact o', l', q, TreeAll.allP f ts g r⟩
  | .ob _ _ ts, p, p', _, g, h => by
    obtain ⟨a, C, dx, ys, e, o, l, q, r⟩ := h
    obtain ⟨o', l'⟩ := g a _ [] (by rw [List.append_nil]; exact o) l trivial
    exact ⟨a, C, dx, ys, e, by rw [List.append_nil] at o'; exact o', l', q, TreeAll.allP f ts g r⟩
theorem TreeAll.allP (f : ∀ d v, Rep K mg O H d v → Rep K mg O' H' d v) : ∀ (ts : List Tr) {p p' : List Nat} {n : Nat} {ys : List V}, (∀ (a : Addr) (u : HO) (r : List Nat), O a = w.at (p ++ r) → H a = some u → nT u → O' a = w'.at (p' ++ r) ∧ H' a = some u) → TreeAll K mg O H w p n ts ys → TreeAll K mg O' H' w' p' n ts ys
  | [], _, _, _, _, _, h => h
  | t :: ts, _, _, n, _, g, h => by
    obtain ⟨y, r, e, a, b⟩ := h
    refine ⟨y, r, e, TreeR.allP f t (fun a u q o l z => ?_) a, TreeAll.allP f ts g b⟩
    rw [List.append_assoc] at o ⊢
    exact g a u _ o l z
end
theorem TreeAll.kids (f : ∀ d v, Rep K mg O H d v → Rep K mg O' H' d v) : ∀ {ts : List Tr} {ys : List V} {p : List Nat} {n : Nat},
    (∀ (a : Addr) (u : HO) (j : Nat) (r : List Nat), O a = w.at (p ++ j :: r) → H a = some u → nT u → O' a = w.at (p ++ j :: r) ∧ H' a = some u) → TreeAll K mg O H w p n ts ys → TreeAll K mg O' H' w p n ts ys
  | [], _, _, _, _, h => h
  | t :: ts, _, _, n, g, h => by
    obtain ⟨y, r, e, a, b⟩ := h
    refine ⟨y, r, e, TreeR.allP f t (fun a u q o l z => ?_) a, TreeAll.kids f g b⟩
    rw [List.append_assoc] at o ⊢
    exact g a u n q o l z
/-- one part is another, all else stands -/
theorem TreeAll.set (f : ∀ d v, Rep K mg O H d v → Rep K mg O' H' d v) {s' : Tr} {y' : V} : ∀ {ts : List Tr} {ys : List V} {p : List Nat} {m k : Nat},
    (∀ (a : Addr) (u : HO) (j : Nat) (r : List Nat), j ≠ m + k → O a = w.at (p ++ j :: r) → H a = some u → nT u → O' a = w.at (p ++ j :: r) ∧ H' a = some u) →
    TreeAll K mg O H w p m ts ys → k < ts.length → TreeR K mg O' H' w (p ++ [m + k]) s' y' → TreeAll K mg O' H' w p m (ts.set k s') (ys.set k y')
  | [], _, _, _, k, _, _, hk, _ => absurd hk (Nat.not_lt_zero _)
  | t :: ts, _, p, m, 0, g, h, _, n => by
    obtain ⟨y, r, rfl, a, b⟩ := h
    refine ⟨y', r, rfl, n, ?_⟩
    have : ∀ {ts : List Tr} {ys : List V} {n : Nat}, m < n → TreeAll K mg O H w p n ts ys → TreeAll K mg O' H' w p n ts ys := by
      intro ts
      induction ts with
      | nil => exact fun _ h => h
      | cons t ts ih =>
        rintro ys n hn ⟨y, r, e, a, b⟩
        refine ⟨y, r, e, TreeR.allP f t (fun a u q o l z => ?_) a, ih (Nat.lt_succ_of_lt hn) b⟩
        rw [List.append_assoc] at o ⊢
        exact g a u n q (by omega) o l z
    exact this (Nat.lt_succ_self _) b
  | t :: ts, _, p, m, k + 1, g, h, hk, n => by
    obtain ⟨y, r, rfl, a, b⟩ := h
    refine ⟨y, r.set k y', rfl, TreeR.allP f t (fun a u q o l z => ?_) a, ?_⟩
    · rw [List.append_assoc] at o ⊢
      exact g a u m q (by omega) o l z
    · refine TreeAll.set f (k := k) (fun a u j q hj => g a u j q (by omega)) b (by simpa using hk) ?_
      rw [show m + 1 + k = m + (k + 1) by omega]
      exact n
theorem TreeAll.snoc {s : Tr} {y : V} : ∀ {ts : List Tr} {ys : List V} {p : List Nat} {m : Nat}, TreeAll K mg O H w p m ts ys → TreeR K mg O H w (p ++ [m + ts.length]) s y → TreeAll K mg O H w p m (ts ++ [s]) (ys ++ [y])
  | [], _, _, _, h, n => by cases h; exact ⟨y, [], rfl, n, rfl⟩
  | t :: ts, _, p, m, h, n => by
    obtain ⟨z, r, rfl, a, b⟩ := h
    refine ⟨z, _, rfl, a, TreeAll.snoc b ?_⟩
    rw [show m + 1 + ts.length = m + (t :: ts).length by rw [List.length_cons]; omega]
    exact n
theorem zip_get {α : Type} {ks : List α} {ys : List V} {n : Nat} {y : V} (hl : ks.length = ys.length) (h : ys[n]? = some y) : (ks.zip ys)[n]?.map (·.2) = some y := by
  have hn : n < ys.length := (List.getElem?_eq_some_iff.mp h).1
  rw [List.getElem?_zip_eq_some (z := (ks[n], y)) |>.mpr ⟨List.getElem?_eq_getElem _, h⟩]
  rfl
/-- a part of a tree, and how the tree stands behind a change of that part -/
theorem TreeR.split : ∀ {q : List Nat} {p : List Nat} {t s : Tr} {v : V}, TreeR K mg O H w p t v → Tr.atP q t = some s → ∃ v', PathV H v q v' ∧ TreeR K mg O H w (p ++ q) s v' ∧
    ∀ (O' : Ow) (H' : Hp) (s' : Tr), (∀ d v, Rep K mg O H d v → Rep K mg O' H' d v) → (∀ (a : Addr) (u : HO) (r : List Nat), ¬ (p ++ q) <+: r → O a = w.at r → H a = some u → nT u → O' a = w.at r ∧ H' a = some u) →
      TreeR K mg O' H' w (p ++ q) s' v' → TreeR K mg O' H' w p (Tr.put q t s') v
  | [], p, t, s, v, h, e => by
    cases (show some t = some s from e)
    rw [List.append_nil]
    exact ⟨v, rfl, h, fun O' H' s' _ _ n => n⟩
  | n :: q, p, t, s, v, h, e => by
    have pa : p ++ [n] ++ q = p ++ n :: q := by rw [List.append_assoc]; rfl
    have key : ∀ {ts : List Tr} {ys : List V} {u : Tr} {a : Addr}, TreeAll K mg O H w p 0 ts ys → ts[n]? = some u → Tr.atP q u = some s → (∀ y, ys[n]? = some y → kidV H a n = some y) → v = .ref a →
        ∃ v', PathV H v (n :: q) v' ∧ TreeR K mg O H w (p ++ n :: q) s v' ∧ ∀ (O' : Ow) (H' : Hp) (s' : Tr), (∀ d v, Rep K mg O H d v → Rep K mg O' H' d v) →
          (∀ (a : Addr) (u : HO) (r : List Nat), ¬ (p ++ n :: q) <+: r → O a = w.at r → H a = some u → nT u → O' a = w.at r ∧ H' a = some u) → TreeR K mg O' H' w (p ++ n :: q) s' v' → TreeAll K mg O' H' w p 0 (ts.set n (Tr.put q u s')) ys := fun {ts ys u a} r e1 e2 kv ev => by
      obtain ⟨y, ey, ry⟩ := r.get e1
      rw [Nat.zero_add] at ry
      obtain ⟨v', pv, rs, rb⟩ := TreeR.split ry e2
      rw [pa] at rs
      refine ⟨v', ⟨a, y, ev, kv y ey, pv⟩, rs, fun O' H' s' f g nw => ?_⟩
      have ys' : ys.set n y = ys := by
        apply List.ext_getElem?
        intro i
        by_cases hi : n = i
        · subst hi; rw [List.getElem?_set_self (List.getElem?_eq_some_iff.mp ey).1, ey]
        · rw [List.getElem?_set_ne hi]
      rw [← ys']
      refine TreeAll.set f (fun a u j r' hj o l z => g a u _ ?_ o l z) r (List.getElem?_eq_some_iff.mp e1).1 ?_
      · rw [Nat.zero_add] at hj
        rintro ⟨x, hx⟩
        rw [List.append_assoc] at hx
        have := List.append_cancel_left hx
        rw [List.cons_append] at this
        exact hj (List.cons.inj this).1.symm
      · rw [Nat.zero_add]
        refine rb O' H' s' f (fun a u r' hr o l z => g a u r' ?_ o l z) ?_
        · rw [← pa]; exact hr
        · rw [pa]; exact nw
    have np : ¬ (p ++ n :: q) <+: p := fun z => by
      have := z.length_le
      rw [List.length_append, List.length_cons] at this
      omega
    unfold Tr.atP at e
    cases ek : t.kids[n]? with
    | none => rw [ek] at e; cases e
    | some u =>
      rw [ek] at e
      have ep : ∀ s', Tr.put (n :: q) t s' = t.sub n (Tr.put q u s') := fun s' => by
        show (match t.kids[n]? with | some u => t.sub n (Tr.put q u s') | none => t) = _
        rw [ek]
      cases t with
      | lf d => cases ek
      | ls ts =>
        obtain ⟨a, ys, ev, o, l, r⟩ := h
        obtain ⟨v', pv, rs, rb⟩ := key r ek e (fun y ey => by unfold kidV; rw [l]; exact ey) ev
        refine ⟨v', pv, rs, fun O' H' s' f g nw => ?_⟩
        obtain ⟨o', l'⟩ := g a _ p np o l trivial
        rw [ep]
        exact ⟨a, ys, ev, o', l', rb O' H' s' f g nw⟩
      | dc ks ts =>
        obtain ⟨a, ys, ev, o, l, hq, r⟩ := h
        obtain ⟨v', pv, rs, rb⟩ := key r ek e (fun y ey => by unfold kidV; rw [l]; exact zip_get hq.1 ey) ev
        refine ⟨v', pv, rs, fun O' H' s' f g nw => ?_⟩
        obtain ⟨o', l'⟩ := g a _ p np o l trivial
        rw [ep]
        exact ⟨a, ys, ev, o', l', hq, rb O' H' s' f g nw⟩
      | ob c ns ts =>
        obtain ⟨a, C, dx, ys, ev, o, l, hq, r⟩ := h
        obtain ⟨v', pv, rs, rb⟩ := key r ek e (fun y ey => by unfold kidV; rw [l]; exact zip_get hq.1 ey) ev
        refine ⟨v', pv, rs, fun O' H' s' f g nw => ?_⟩
        obtain ⟨o', l'⟩ := g a _ p np o l trivial
        rw [ep]
        exact ⟨a, C, dx, ys, ev, o', l', hq, rb O' H' s' f g nw⟩
end
/-! ### a way on which only the things of some trees change -/
noncomputable def WOw (W : Nat → List Nat → Prop) (o : Own) : Prop := ∃ i p, o = .tr i p ∧ W i p
structure GoT (W : Nat → List Nat → Prop) (O O' : Ow) (H H' : Hp) : Prop where
  cells : ∀ b o, H b = some o → (¬ WOw W (O b) ∨ Fix o) → (h : nT o := by exact trivial) → H' b = some o
  own : ∀ b, H b ≠ none → ¬ WOw W (O b) → O' b = O b
  has : ∀ b, H b ≠ none → H' b ≠ none
  tb : ∀ b ps, H b = some (.tbl ps) → ∃ ps', H' b = some (.tbl ps')
  gd : TabsOk H → TabsOk H'
theorem wo_not {W : Nat → List Nat → Prop} {o : Own} (h : ∀ i p, o ≠ .tr i p) : ¬ WOw W o := fun ⟨i, p, e, _⟩ => h i p e
theorem GoT.gs {W : Nat → List Nat → Prop} {O O' : Ow} {H H' : Hp} (g : GoT W O O' H H') : Gs O O' H H' := by
  refine ⟨fun b o e h n => g.cells b o e ?_ n, fun b h f => g.own b h ?_, g.has, g.tb, g.gd⟩
  · rcases h with h | h | h
    · exact .inl (wo_not fun i p z => by rw [h] at z; cases z)
    · exact .inl (wo_not fun i p z => by rw [h] at z; cases z)
    · exact .inr h
  · rcases f with f | f
    · exact wo_not fun i p z => by rw [f] at z; cases z
    · exact wo_not fun i p z => by rw [f] at z; cases z
section
variable {K : PySem.W.Frag} {mg : Str → Option Value} {O O' : Ow} {H H' : Hp} {W : Nat → List Nat → Prop}
theorem Rep.gs (g : Gs O O' H H') {d : D} {v : V} (h : Rep K mg O H d v) : Rep K mg O' H' d v := by
  obtain ⟨y, r, e, a, _⟩ := RepAll.gs g (RepAll.one h)
  cases e
  exact a
theorem SlotR.goT (g : GoT W O O' H H') {j : Nat} (hj : ∀ r, ¬ W j r) : ∀ {s : Slot} {u : Option V}, SlotR K mg O H (.loc j) s u → SlotR K mg O' H' (.loc j) s u := by
  have nl : ∀ {b : Addr}, O b = .loc j → ¬ WOw W (O b) := fun o => wo_not fun i p z => by rw [o] at z; cases z
  have nt : ∀ {b : Addr} {r : List Nat}, O b = .tr j r → ¬ WOw W (O b) := fun {b r} o ⟨i, p, e, w⟩ => by rw [o] at e; cases e; exact hj _ w
  have no : ∀ {b : Addr}, O b = .out → ¬ WOw W (O b) := fun o => wo_not fun i p z => by rw [o] at z; cases z
  have nf : ∀ {b : Addr}, O b = .free ∨ O b = .out → ¬ WOw W (O b) := fun o => wo_not fun i p z => by rcases o with o | o <;> rw [o] at z <;> cases z
  intro s u h
  cases s with
  | emp => trivial
  | val _ => obtain ⟨v, q, r⟩ := h; exact ⟨v, q, r.gs g.gs⟩
  | ow _ _ => obtain ⟨a, ys, q, o, l, r⟩ := h; exact ⟨a, ys, q, (g.own a (by rw [l]; intro z; cases z) (nl o)).trans o, g.cells _ _ l (.inl (nl o)), RepAll.gs g.gs r⟩
  | vw _ => obtain ⟨a, ys, q, l, r⟩ := h; exact ⟨a, ys, q, g.gs.lsV l, RepAll.gs g.gs r⟩
  | dct _ => obtain ⟨a, ys, q, o, l, r⟩ := h; exact ⟨a, ys, q, (g.own a (by rw [l]; intro z; cases z) (nl o)).trans o, g.cells _ _ l (.inl (nl o)), r.1, RepAll.gs g.gs r.2⟩
  | vd _ =>
    obtain ⟨a, ys, q, ⟨l, f⟩, r⟩ := h
    refine ⟨a, ys, q, ⟨?_, by rw [g.own a (Rd.some l) (nf f)]; exact f⟩, r.1, RepAll.gs g.gs r.2⟩
    rcases l with l | ⟨o, l⟩
    · exact .inl (g.cells _ _ l (.inl (nf f)))
    · exact .inr ⟨o, g.cells _ _ l (.inl (nf f))⟩
  | pd _ => obtain ⟨a, ys, q, o, l, r⟩ := h; exact ⟨a, ys, q, (g.own a (by rw [l]; intro z; cases z) (nl o)).trans o, g.cells _ _ l (.inl (nl o)), r.1, r.2.all fun _ _ z => Rep.gs g.gs z⟩
  | vp _ =>
    obtain ⟨a, ys, q, ⟨l, f⟩, r⟩ := h
    refine ⟨a, ys, q, ⟨?_, by rw [g.own a (Rd.some l) (nf f)]; exact f⟩, r.1, r.2.all fun _ _ z => Rep.gs g.gs z⟩
    rcases l with l | ⟨o, l⟩
    · exact .inl (g.cells _ _ l (.inl (nf f)))
    · exact .inr ⟨o, g.cells _ _ l (.inl (nf f))⟩
  | tr m t =>
    obtain ⟨v, q, r⟩ := h
    refine ⟨v, q, r.all (fun _ _ z => Rep.gs g.gs z) fun a u p o l n => ?_⟩
    have nw : ¬ WOw W (O a) := by
      cases m with
      | view => exact no o
      | own => exact nt o
      | par => exact nt o
    exact ⟨(g.own a (by rw [l]; intro z; cases z) nw).trans o, g.cells _ _ l (.inl nw) n⟩
theorem S3.goT {σ σ' : En} {S : Store} {σV : St} (st : S3 K mg O σ S σV H) (g : GoT W O O' H H') (d : Dom O' H') (hl : σ'.length = σ.length)
    (hs : ∀ j s, σ'[j]? = some s → (σ[j]? = some s ∧ ∀ r, ¬ W j r) ∨ SlotR K mg O' H' (.loc j) s (σV[j]?.join)) : S3 K mg O' σ' S σV H' :=
  ⟨d, hl.trans st.len, fun j s e => (hs j s e).elim (fun z => (st.loc j s z.1).goT g z.2) id, st.emp⟩
end
/-! ### paths: x[k][i].a -/
structure Pt where
  i : Nat
  p : List Nat
  m : TM
  t : Tr
noncomputable abbrev MP := En → M Pt
noncomputable def PthR (H : Hp) (σ : En) (σV : St) (x : Pt) (v : V) : Prop := ∃ t0 v0, σ[x.i]? = some (.tr x.m t0) ∧ Tr.atP x.p t0 = some x.t ∧ σV[x.i]?.join = some v0 ∧ PathV H v0 x.p v
theorem PthR.go {O O' : Ow} {H H' : Hp} {σ : En} {σV : St} {x : Pt} {v : V} (g : Go O O' H H') (h : PthR H σ σV x v) : PthR H' σ σV x v := by
  obtain ⟨t0, v0, a, b, c, d⟩ := h
  exact ⟨t0, v0, a, b, c, d.same g.same⟩
theorem PthR.tree {K : PySem.W.Frag} {mg : Str → Option Value} {O : Ow} {H : Hp} {σ : En} {S : Store} {σV : St} {x : Pt} {v : V} (st : S3 K mg O σ S σV H) (h : PthR H σ σV x v) : TreeR K mg O H (x.m.ow (.loc x.i)) x.p x.t v := by
  obtain ⟨t0, v0, a, b, c, d⟩ := h
  obtain ⟨v1, e1, r⟩ := st.loc _ _ a
  rw [c] at e1
  cases e1
  obtain ⟨v', pv, rs, _⟩ := r.split b
  rw [d.det pv]
  exact rs
noncomputable def tpOf (K : PySem.W.Frag) (mg : Str → Option Value) (m : MP) : TE := fun σV H Q => ∃ O σ S x S', S3 K mg O σ S σV H ∧ (m σ).run S = .ok x S' ∧ ∀ O' v H', Go O O' H H' → S3 K mg O' σ S' σV H' → PthR H' σ σV x v → Q v H'
noncomputable abbrev CP (X : Cx) (e : Expr) (m : MP) : Prop := PE X e (tpOf X.K X.mg m)
noncomputable def pVar (i : Nat) : MP := fun σ => match σ[i]? with
  | some (.tr m t) => pure ⟨i, [], m, t⟩
  | _ => bad
noncomputable def kidM (ts : List Tr) (n : Nat) (f : Tr → Pt) : M Pt := match ts[n]? with
  | some s => pure (f s)
  | none => bad
noncomputable def pIx (m : MP) (mk : ME) : MP := fun σ => do
  let x ← m σ
  let k ← mk σ
  match x.t, k with
  | .ls ts, .v (.int j) => if 0 ≤ j then kidM ts j.toNat (Pt.mk x.i (x.p ++ [j.toNat]) x.m) else bad
  | _, _ => bad
noncomputable def pDk (m : MP) (n : Nat) (key : Str) : MP := fun σ => do
  let x ← m σ
  match x.t with
  | .dc ks ts => if ks[n]? = some (.inr key) then kidM ts n (Pt.mk x.i (x.p ++ [n]) x.m) else bad
  | _ => bad
noncomputable def pAt (m : MP) (c : Str) (n : Nat) (f : Str) : MP := fun σ => do
  let x ← m σ
  match x.t with
  | .ob c' ns ts => if c' = c ∧ ns[n]? = some f then kidM ts n (Pt.mk x.i (x.p ++ [n]) x.m) else bad
  | _ => bad
/-- the class is the name's, and no class of it has these names -/
structure ClsT (K : PySem.W.Frag) (mg : Str → Option Value) (c : Str) (fs : List Str) : Prop where
  ex : ∃ C, mg c = some (.ref C) ∧ Cls K C ∧ (PySem.W.makesIn K C = true ∧ PySem.W.keepIn K (.ref C) = true) ∧ ∀ f ∈ fs, NoAttr K C f
theorem zip_lookup {α β : Type} [BEq α] [LawfulBEq α] : ∀ {ks : List α} {ys : List β} {n : Nat} {f : α} {y : β}, ks.Nodup → ks[n]? = some f → ys[n]? = some y → (ks.zip ys).lookup f = some y
  | [], _, _, _, _, _, e, _ => by simp at e
  | _ :: _, [], _, _, _, _, _, e => by simp at e
  | k :: ks, z :: ys, 0, f, y, _, e1, e2 => by
    cases (show some k = some f from e1)
    cases (show some z = some y from e2)
    simp [List.lookup]
  | k :: ks, z :: ys, n + 1, f, y, nd, e1, e2 => by
    have e1' : ks[n]? = some f := by simpa using e1
    have e2' : ys[n]? = some y := by simpa using e2
    have ne : ¬ f = k := by
      rintro rfl
      exact (List.nodup_cons.mp nd).1 (List.mem_iff_getElem?.mpr ⟨n, e1'⟩)
    have : (f == k) = false := by simpa using ne
    show List.lookup f ((k, z) :: ks.zip ys) = some y
    rw [List.lookup_cons, this]
    exact zip_lookup (List.nodup_cons.mp nd).2 e1' e2'
theorem zip_find {β : Type} : ∀ {ks : List Key} {ys : List β} {n : Nat} {f : Key} {y : β}, ks.Nodup → ks[n]? = some f → ys[n]? = some y → ((ks.zip ys).find? fun kv => decide (kv.1 = f)).map (·.2) = some y
  | [], _, _, _, _, _, e, _ => by simp at e
  | _ :: _, [], _, _, _, _, _, e => by simp at e
  | k :: ks, z :: ys, 0, f, y, _, e1, e2 => by
    cases (show some k = some f from e1)
    cases (show some z = some y from e2)
    simp [List.find?]
  | k :: ks, z :: ys, n + 1, f, y, nd, e1, e2 => by
    have e1' : ks[n]? = some f := by simpa using e1
    have e2' : ys[n]? = some y := by simpa using e2
    have ne : ¬ k = f := by
      rintro rfl
      exact (List.nodup_cons.mp nd).1 (List.mem_iff_getElem?.mpr ⟨n, e1'⟩)
    rw [List.zip_cons_cons, List.find?_cons_of_neg (by simpa using ne)]
    exact zip_find (List.nodup_cons.mp nd).2 e1' e2'
section
variable {X : Cx} {e k : Expr} {m : MP} {mk : ME} {pos p : Pos}
theorem cp_var (i : Nat) {x : Str} {pos : Pos} (hN : X.N[i]? = some x := by rfl) (hv : Vis X.env.scope x := by first | exact Or.inl rfl | exact Or.inr (Or.inl rfl) | exact Or.inr (Or.inr rfl)) (hd : (x == ("__debug__" : Str)) = false := by decide)
    (hcd : (x == ("__classdict__" : Str)) = false := by decide) : CP X (.Name x pos) (pVar i) := pe_imp (pe_var hN hv hd hcd) <| by
  rintro σV H Q ⟨O, σ, S, r, S', st, h, q⟩
  unfold pVar at h
  split at h
  · rename_i m t e
    cases h
    obtain ⟨v, e1, _⟩ := st.loc i _ e
    refine ⟨v, ?_, q O v H (Go.refl _ _) st ⟨t, v, e, rfl, e1, rfl⟩⟩
    cases w : σV[i]? with
    | none => rw [w] at e1; cases e1
    | some y => rw [w] at e1; exact congrArg some e1
  · cases h
theorem PthR.kid {H : Hp} {σ : En} {σV : St} {x : Pt} {a : Addr} {n : Nat} {s : Tr} {y : V} (h : PthR H σ σV x (.ref a)) (e : x.t.kids[n]? = some s) (k : kidV H a n = some y) : PthR H σ σV ⟨x.i, x.p ++ [n], x.m, s⟩ y := by
  obtain ⟨t0, v0, h1, h2, h3, h4⟩ := h
  exact ⟨t0, v0, h1, atP_snoc e h2, h3, h4.snoc k⟩
theorem cp_ix (he : CP X e m) (hk : CE X k mk) (hs : PlainIx k) : CP X (.Subscript e k pos) (pIx m mk) := pe_imp (pe_ix ix_seq he hk hs) <| by
  rintro σV H Q ⟨O, σ, S, r, S', st, h, q⟩
  obtain ⟨x, S1, h1, h⟩ := M.inv h
  obtain ⟨kr, S2, h2, h⟩ := M.inv h
  split at h
  · rename_i ts j et
    by_cases c : 0 ≤ j
    · rw [if_pos c] at h
      unfold kidM at h
      split at h
      · rename_i s es
        cases h
        refine ⟨O, σ, S, x, S1, st, h1, fun O1 v H1 g1 st1 pr => ?_⟩
        refine ⟨O1, σ, S1, _, _, st1, h2, fun O2 vk H2 g2 st2 rk nk => ?_⟩
        have pr2 := pr.go g2
        have tr := pr2.tree st2
        rw [et] at tr
        obtain ⟨a, ys, ev, o, l, r⟩ := tr
        subst ev
        obtain ⟨y, ey, _⟩ := r.get es
        cases (show vk = .int j from rk)
        have ej : ((j.toNat : Nat) : Int) = j := Int.toNat_of_nonneg c
        refine .inl ⟨a, ys, j, y, rfl, rfl, SqL.of l, by rw [← ej]; exact atI_nat ey, q O2 y H2 (g1.trans g2) st2 (pr2.kid (by rw [et]; exact es) (by unfold kidV; rw [l]; exact ey))⟩
      · cases h
    · rw [if_neg c] at h; cases h
  · cases h
theorem cp_dk {key : Str} {j pos'} (n : Nat) (hu : X.A.units + 64 < cLine) (he : CP X e m) : CP X (.Subscript e (.Constant (.str key) j pos') pos) (pDk m n key) := pe_imp (pe_dget (by omega) he pe_str (fun _ _ => rfl)) <| by
  rintro σV H Q ⟨O, σ, S, r, S', st, h, q⟩
  obtain ⟨x, S1, h1, h⟩ := M.inv h
  split at h
  · rename_i ks ts et
    by_cases c : ks[n]? = some (.inr key)
    · rw [if_pos c] at h
      unfold kidM at h
      split at h
      · rename_i s es
        cases h
        refine ⟨O, σ, S, x, _, st, h1, fun O1 v H1 g1 st1 pr => ?_⟩
        have tr := pr.tree st1
        rw [et] at tr
        obtain ⟨a, ys, ev, o, l, hq, r⟩ := tr
        subst ev
        obtain ⟨y, ey, _⟩ := r.get es
        refine ⟨a, y, rfl, ?_, q O1 y H1 g1 st1 (pr.kid (by rw [et]; exact es) (by unfold kidV; rw [l]; exact zip_get hq.1 ey))⟩
        have := DGet.k (k := Sum.inr key) l
        rw [show valV (ks.zip ys) (Sum.inr key) = some y from zip_find hq.2 c ey] at this
        exact this
      · cases h
    · rw [if_neg c] at h; cases h
  · cases h
theorem cp_at {c f : Str} {fs : List Str} (n : Nat) (T : ClsT X.K X.mg c fs) (he : CP X e m) (hf : f ∈ fs := by decide +kernel) (hb : attributeBase e f X.env (eval e X.env) = eval e X.env := by rfl) : CP X (.Attribute e f pos) (pAt m c n f) := pe_imp (pe_fld he hb) <| by
  rintro σV H Q ⟨O, σ, S, r, S', st, h, q⟩
  obtain ⟨x, S1, h1, h⟩ := M.inv h
  split at h
  · rename_i c' ns ts et
    by_cases cc : c' = c ∧ ns[n]? = some f
    · rw [if_pos cc] at h
      unfold kidM at h
      split at h
      · rename_i s es
        cases h
        refine ⟨O, σ, S, x, _, st, h1, fun O1 v H1 g1 st1 pr => ?_⟩
        have tr := pr.tree st1
        rw [et] at tr
        obtain ⟨a, C, dx, ys, ev, o, l, hq, r⟩ := tr
        subst ev
        obtain ⟨y, ey, _⟩ := r.get es
        obtain ⟨C', hC, cl, _, na⟩ := T.ex
        have eC : C' = C := by
          have := hq.2.2.1
          rw [cc.1, hC] at this
          cases this
          rfl
        subst eC
        exact ⟨a, C', dx, _, y, rfl, l, cl, na f hf, zip_lookup hq.2.1 cc.2 ey, q O1 y H1 g1 st1 (pr.kid (by rw [et]; exact es) (by unfold kidV; rw [l]; exact zip_get hq.1 ey))⟩
      · cases h
    · rw [if_neg cc] at h; cases h
  · cases h
/-- a leaf -/
noncomputable def cLeaf (m : MP) : ME := fun σ => do
  let x ← m σ
  match x.t with
  | .lf d => pure (.v d)
  | _ => bad
theorem ce_leaf (he : CP X e m) : CE X e (cLeaf m) := pe_imp he <| by
  rintro σV H Q ⟨O, σ, S, r, S', st, h, q⟩
  obtain ⟨x, S1, h1, h⟩ := M.inv h
  split at h
  · rename_i d et
    cases h
    refine ⟨O, σ, S, x, _, st, h1, fun O1 v H1 g1 st1 pr => q O1 v H1 g1 st1 ?_ trivial⟩
    have tr := pr.tree st1
    rw [et] at tr
    exact tr
  · cases h
end
end L3

set_option Elab.async false
set_option linter.all false
set_option maxRecDepth 100000
set_option maxHeartbeats 1000000
namespace L3
open PySem PySem.Spec L2
variable [L2.TabP]
/-! ### puts into a tree -/
theorem Dom.upd {O : Ow} {H : Hp} {a : Addr} {u u' : HO} (d : Dom O H) (hH : H a = some u) (h1 : ∀ ps, u ≠ .tbl ps) (h2 : ∀ q, u ≠ .ext (cdP a q)) : Dom O (upd H a u') := ⟨fun b hb => by
  by_cases e : b = a
  · rw [e, upd_same]; intro z; cases z
  · rw [upd_ne e]; exact d.has b hb, d.tabs.put u' (fun ps z => h1 ps (Option.some.inj (hH.symm.trans z))) (fun q z => h2 q (Option.some.inj (hH.symm.trans z)))⟩
theorem S3.putT {K : PySem.W.Frag} {mg : Str → Option Value} {O : Ow} {H : Hp} {σ : En} {S : Store} {σV : St} {x : Pt} {a : Addr} {u u' : HO} {s' t0 : Tr} (st : S3 K mg O σ S σV H) (pr : PthR H σ σV x (.ref a)) (hm : x.m ≠ .view) (e0 : σ[x.i]? = some (.tr x.m t0))
    (ho : O a = .tr x.i x.p) (hH : H a = some u) (nf : ¬ Fix u) (h1 : ∀ ps, u ≠ .tbl ps) (h2 : ∀ q, u ≠ .ext (cdP a q))
    (new : (∀ d v, Rep K mg O H d v → Rep K mg O (upd H a u') d v) → (∀ b o r, r ≠ [] → O b = .tr x.i (x.p ++ r) → H b = some o → upd H a u' b = some o) → TreeR K mg O (upd H a u') (.loc x.i) x.p s' (.ref a)) :
    S3 K mg O (σ.set x.i (.tr x.m (Tr.put x.p t0 s'))) S σV (upd H a u') ∧ Gs O O H (upd H a u') ∧ Kp σ (σ.set x.i (.tr x.m (Tr.put x.p t0 s'))) σV σV := by
  have wa : WOw (fun i p => i = x.i ∧ p = x.p) (O a) := ⟨_, _, ho, rfl, rfl⟩
  have g : GoT (fun i p => i = x.i ∧ p = x.p) O O H (upd H a u') := by
    refine ⟨fun b o e h _ => ?_, fun _ _ _ => rfl, fun b hb => ?_, fun b ps e => ⟨ps, ?_⟩, fun z => z.put u' (fun ps z => h1 ps (Option.some.inj (hH.symm.trans z))) (fun q z => h2 q (Option.some.inj (hH.symm.trans z)))⟩
    · rw [upd_ne]
      · exact e
      · rintro rfl
        rcases h with h | h
        · exact h wa
        · rw [hH] at e; cases e; exact nf h
    · by_cases e : b = a
      · rw [e, upd_same]; intro z; cases z
      · rw [upd_ne e]; exact hb
    · rw [upd_ne]
      · exact e
      · rintro rfl; rw [hH] at e; cases e; exact h1 _ rfl
  have hlt : x.i < σ.length := (List.getElem?_eq_some_iff.mp e0).1
  have f : ∀ d v, Rep K mg O H d v → Rep K mg O (upd H a u') d v := fun _ _ z => Rep.gs g.gs z
  have mo : x.m.ow (.loc x.i) = .loc x.i := by
    cases em : x.m with
    | view => exact absurd em hm
    | own => rfl
    | par => rfl
  refine ⟨st.goT g (st.dom.upd hH h1 h2) (List.length_set ..) fun j s e => ?_, g.gs, Kp.put e0 (fun xs z => by cases z) (fun xs z => by cases z) fun m t z hn => by cases z; exact ⟨hm, _, rfl⟩⟩
  by_cases hj : x.i = j
  · subst hj
    rw [List.getElem?_set_self hlt] at e
    cases e
    refine .inr ?_
    obtain ⟨t1, v0, e1, e2, e3, e4⟩ := pr
    rw [e0] at e1
    cases e1
    obtain ⟨v1, ev, r⟩ := st.loc _ _ e0
    rw [e3] at ev
    cases ev
    refine ⟨v0, e3, ?_⟩
    rw [mo] at r ⊢
    obtain ⟨v', pv, rs, rb⟩ := r.split e2
    cases e4.det pv
    refine rb O _ s' f (fun b o r hr ob hb _ => ⟨ob, ?_⟩) (new f fun b o r hr ob hb => ?_)
    · rw [upd_ne]
      · exact hb
      · rintro rfl
        rw [show O b = .tr x.i x.p from ho] at ob
        cases ob
        exact hr (List.prefix_refl _)
    · rw [upd_ne]
      · exact hb
      · rintro rfl
        rw [ho] at ob
        have : x.p = x.p ++ r := by injection ob
        have := congrArg List.length this
        rw [List.length_append] at this
        exact hr (List.eq_nil_of_length_eq_zero (by omega))
  · rw [List.getElem?_set_ne hj] at e
    exact .inl ⟨e, fun r z => hj z.1.symm⟩
theorem zip_putF : ∀ {ks : List Str} {ys : List V} {n : Nat} {f : Str} {v : V}, ks.Nodup → ks[n]? = some f → n < ys.length → putF f v (ks.zip ys) = ks.zip (ys.set n v)
  | [], _, _, _, _, _, e, _ => by simp at e
  | _ :: _, [], _, _, _, _, _, h => absurd h (Nat.not_lt_zero _)
  | k :: ks, z :: ys, 0, f, v, _, e, _ => by
    cases (show some k = some f from e)
    show (if k = k then _ else _) = _
    rw [if_pos rfl]
    rfl
  | k :: ks, z :: ys, n + 1, f, v, nd, e, h => by
    have e' : ks[n]? = some f := by simpa using e
    have ne : ¬ k = f := by
      rintro rfl
      exact (List.nodup_cons.mp nd).1 (List.mem_iff_getElem?.mpr ⟨n, e'⟩)
    show (if k = f then _ else (k, z) :: putF f v (ks.zip ys)) = _
    rw [if_neg ne, zip_putF (List.nodup_cons.mp nd).2 e' (by simpa using h)]
    rfl
theorem zip_putN : ∀ {ks : List Str} {ys : List V} {f : Str} {v : V}, ks.length = ys.length → f ∉ ks → putF f v (ks.zip ys) = (ks ++ [f]).zip (ys ++ [v])
  | [], [], _, _, _, _ => rfl
  | _ :: _, [], _, _, h, _ => by simp at h
  | [], _ :: _, _, _, h, _ => by simp at h
  | k :: ks, z :: ys, f, v, hl, nf => by
    show (if k = f then _ else (k, z) :: putF f v (ks.zip ys)) = _
    rw [if_neg (fun e => nf (by rw [e]; exact List.mem_cons_self ..)), zip_putN (by simpa using hl) (fun e => nf (List.mem_cons_of_mem _ e))]
    rfl
theorem zip_putK : ∀ {ks : List Key} {ys : List V} {n : Nat} {f : Key} {v : V}, ks.Nodup → ks[n]? = some f → n < ys.length → (ks.zip ys).map (fun kv => if kv.1 = f then (kv.1, v) else kv) = ks.zip (ys.set n v)
  | [], _, _, _, _, _, e, _ => by simp at e
  | _ :: _, [], _, _, _, _, _, h => absurd h (Nat.not_lt_zero _)
  | k :: ks, z :: ys, 0, f, v, nd, e, _ => by
    cases (show some k = some f from e)
    have : ∀ (l : List (Key × V)), (∀ p ∈ l, p.1 ≠ k) → l.map (fun kv => if kv.1 = k then (kv.1, v) else kv) = l := by
      intro l
      induction l with
      | nil => exact fun _ => rfl
      | cons p l ih => intro h; rw [List.map_cons, if_neg (h p (List.mem_cons_self ..)), ih fun q hq => h q (List.mem_cons_of_mem _ hq)]
    rw [List.zip_cons_cons, List.map_cons, if_pos rfl, this _ fun p hp => ?_]
    · rfl
    · rintro rfl
      exact (List.nodup_cons.mp nd).1 (List.of_mem_zip hp).1
  | k :: ks, z :: ys, n + 1, f, v, nd, e, h => by
    have e' : ks[n]? = some f := by simpa using e
    have ne : ¬ k = f := by
      rintro rfl
      exact (List.nodup_cons.mp nd).1 (List.mem_iff_getElem?.mpr ⟨n, e'⟩)
    rw [List.zip_cons_cons, List.map_cons, if_neg ne, zip_putK (List.nodup_cons.mp nd).2 e' (by simpa using h)]
    rfl
theorem zip_any {ks : List Key} {ys : List V} {n : Nat} {f : Key} (hl : ks.length = ys.length) (e : ks[n]? = some f) : ((ks.zip ys).any fun kv => decide (kv.1 = f)) = true := by
  have hn : n < ks.length := (List.getElem?_eq_some_iff.mp e).1
  have hz : (ks.zip ys)[n]? = some (f, ys[n]'(by omega)) := (List.getElem?_zip_eq_some (z := (f, ys[n]'(by omega)))).mpr ⟨e, List.getElem?_eq_getElem _⟩
  rw [List.any_eq_true]
  exact ⟨_, List.mem_iff_getElem?.mpr ⟨n, hz⟩, by simp⟩
theorem zip_none {ks : List Key} {ys : List V} {f : Key} (h : f ∉ ks) : ¬ ((ks.zip ys).any fun kv => decide (kv.1 = f)) = true := by
  rw [List.any_eq_true]
  rintro ⟨p, hp, e⟩
  have e : p.1 = f := by simpa using e
  exact h (e ▸ (List.of_mem_zip (show (p.1, p.2) ∈ ks.zip ys from hp)).1)
section
variable {X : Cx} {e k value : Expr} {mp : MP} {mk mv : ME} {pos pos' : Pos}
/-- e[k] = v -/
noncomputable def cTIx (mp : MP) (mk mv : ME) : MS := fun σ => do
  let r ← mv σ
  let d ← r.dat
  let x ← mp σ
  let k ← mk σ
  match x.t, k, σ[x.i]? with
  | .ls ts, .v (.int j), some (.tr m t0) => if (0 ≤ j ∧ j < ts.length) ∧ m ≠ .view then pure (.nx (σ.set x.i (.tr m (Tr.put x.p t0 (.ls (ts.set j.toNat (.lf d))))))) else bad
  | _, _, _ => bad
theorem cs_tix (he : CP X e mp) (hk : CE X k mk) (hval : CE X value mv) (hs : swapsWithSole [.Subscript e k pos'] value pos.line X.env = pure false := by rfl) (hw : swappedStores [.Subscript e k pos'] value X.env = pure none := by rfl)
    (h1 : (assignEach [.Subscript e k pos'] X.env).map (·.2) = [assign (.Subscript e k pos') X.env] := by rfl)
    (ha : ∀ v, assign (.Subscript e k pos') X.env v = (do
      let ov ← holding [v] (eval e X.env)
      let iv ← holding [v, ov] (eval k X.env)
      standAt pos'
      holding [v, ov, iv] (setItem ov iv v)
      release [v, ov, iv] []) := by intro _; rfl) :
    CS X (.Assign [.Subscript e k pos'] value pos) (cTIx mp mk mv) := ps_imp (ps_asg hval (pg_sub he hk set_list ha) hs hw h1) <| by
  rintro D σV H ⟨O, σ, S, fl, S', st, h, q⟩
  obtain ⟨r, S1, h1, h⟩ := M.inv h
  obtain ⟨d, S2, h2, h⟩ := M.inv h
  obtain ⟨x, S3', h3, h⟩ := M.inv h
  obtain ⟨kr, S4, h4, h⟩ := M.inv h
  split at h
  · rename_i ts j m t0 et e0
    by_cases c : (0 ≤ j ∧ j < ts.length) ∧ m ≠ .view
    · rw [if_pos c] at h
      cases h
      refine ⟨O, σ, S, r, S1, st, h1, fun O1 v H1 g1 st1 rr nn => ?_⟩
      obtain ⟨rd, rfl⟩ := dat_rep (H₀ := H) rr nn h2
      refine ⟨frz H O1, σ, S1, x, S3', st1.frz H, h3, fun O2 va H2 g2 st2 pr => ?_⟩
      refine ⟨O2, σ, S3', _, _, st2, h4, fun O3 vk H3 g3 st3 rk nk => ?_⟩
      cases (show vk = .int j from rk)
      have pr3 := pr.go g3
      have em : m = x.m := by obtain ⟨t1, _, e1, _⟩ := pr3; rw [e0] at e1; cases e1; rfl
      subst em
      have tr := pr3.tree st3
      have mo : x.m.ow (.loc x.i) = .loc x.i := by
        cases em : x.m with
        | view => exact absurd em c.2
        | own => rfl
        | par => rfl
      rw [et, mo] at tr
      obtain ⟨a, ys, ev, o, l, ra⟩ := tr
      subst ev
      have hln := ra.len
      have hlt : j.toNat < ts.length := by omega
      refine ⟨a, ys, j, j.toNat, rfl, rfl, l, by unfold ixN; rw [if_pos c.1.1, if_pos (by rw [hln]; exact c.1.2)], ?_⟩
      have rd3 := Rep.go g3 (Rep.go g2 rd)
      obtain ⟨s1, s2, s3⟩ := st3.putT (u' := .lst (ys.set j.toNat v)) (s' := .ls (ts.set j.toNat (.lf d))) pr3 c.2 e0 o l (by rintro (⟨_, z⟩ | ⟨_, _, z⟩) <;> cases z) (by intro ps z; cases z) (by intro q z; cases z) fun f g =>
        ⟨a, _, rfl, o, upd_same, TreeAll.set f (fun b u i r _ ob hb _ => ⟨ob, g b u _ (by intro z; cases z) ob hb⟩) ra hlt (f _ _ rd3)⟩
      exact q O3 σV _ (((g1.frz.trans g2).trans g3).gs.trans s2) s1 s3
    · rw [if_neg c] at h; cases h
  · cases h
/-- e['k'] = v, the key is there -/
noncomputable def cTDk (mp : MP) (n : Nat) (key : Str) (mv : ME) : MS := fun σ => do
  let r ← mv σ
  let d ← r.dat
  let x ← mp σ
  match x.t, σ[x.i]? with
  | .dc ks ts, some (.tr m t0) => if (ks[n]? = some (.inr key) ∧ ts.length < 1000) ∧ m ≠ .view then pure (.nx (σ.set x.i (.tr m (Tr.put x.p t0 (.dc ks (ts.set n (.lf d))))))) else bad
  | _, _ => bad
theorem cs_tdk {key : Str} {j p0} (n : Nat) (hu : X.A.units + 64 < cLine) (he : CP X e mp) (hval : CE X value mv) (hs : swapsWith value (some (.Subscript e (.Constant (.str key) j p0) pos')) pos.line X.env = pure false := by rfl) :
    CS X (.Assign [.Subscript e (.Constant (.str key) j p0) pos'] value pos) (cTDk mp n key mv) := ps_imp (ps_dput (by omega) he pe_str hval hs) <| by
  rintro D σV H ⟨O, σ, S, fl, S', st, h, q⟩
  obtain ⟨r, S1, h1, h⟩ := M.inv h
  obtain ⟨d, S2, h2, h⟩ := M.inv h
  obtain ⟨x, S3', h3, h⟩ := M.inv h
  split at h
  · rename_i ks ts m t0 et e0
    by_cases c : (ks[n]? = some (.inr key) ∧ ts.length < 1000) ∧ m ≠ .view
    · rw [if_pos c] at h
      cases h
      refine ⟨O, σ, S, r, S1, st, h1, fun O1 v H1 g1 st1 rr nn => ?_⟩
      obtain ⟨rd, rfl⟩ := dat_rep (H₀ := H) rr nn h2
      refine ⟨frz H O1, σ, S1, x, _, st1.frz H, h3, fun O2 va H2 g2 st2 pr => ?_⟩
      have em : m = x.m := by obtain ⟨t1, _, e1, _⟩ := pr; rw [e0] at e1; cases e1; rfl
      subst em
      have tr := pr.tree st2
      have mo : x.m.ow (.loc x.i) = .loc x.i := by
        cases em : x.m with
        | view => exact absurd em c.2
        | own => rfl
        | par => rfl
      rw [et, mo] at tr
      obtain ⟨a, ys, ev, o, l, hq, ra⟩ := tr
      subst ev
      have hln := ra.len
      have hlt : n < ks.length := (List.getElem?_eq_some_iff.mp c.1.1).1
      have hlz : (ks.zip ys).length = ts.length := by rw [List.length_zip]; omega
      refine ⟨a, _, rfl, DPut.k (k := Sum.inr key) l (by rw [hlz]; exact small1000 (Nat.le_of_lt c.1.2)), ?_⟩
      have ek : putK (ks.zip ys) (Sum.inr key) v = ks.zip (ys.set n v) := by
        unfold putK
        rw [if_pos (zip_any hq.1 c.1.1)]
        exact zip_putK hq.2 c.1.1 (by omega)
      rw [ek]
      have rd3 := Rep.go g2 rd
      obtain ⟨s1, s2, s3⟩ := st2.putT (u' := .dK (ks.zip (ys.set n v))) (s' := .dc ks (ts.set n (.lf d))) pr c.2 e0 o l (by rintro (⟨_, z⟩ | ⟨_, _, z⟩) <;> cases z) (by intro ps z; cases z) (by intro q z; cases z) fun f g =>
        ⟨a, _, rfl, o, upd_same, ⟨by rw [List.length_set]; exact hq.1, hq.2⟩, TreeAll.set f (fun b u i r _ ob hb _ => ⟨ob, g b u _ (by intro z; cases z) ob hb⟩) ra (by omega) (f _ _ rd3)⟩
      exact q O2 σV _ ((g1.frz.trans g2).gs.trans s2) s1 s3
    · rw [if_neg c] at h; cases h
  · cases h
/-- e.f = v, f is there; f is new -/
noncomputable def cTAt (mp : MP) (c : Str) (n : Nat) (f : Str) (mv : ME) : MS := fun σ => do
  let r ← mv σ
  let d ← r.dat
  let x ← mp σ
  match x.t, σ[x.i]? with
  | .ob c' ns ts, some (.tr m t0) => if (c' = c ∧ ns[n]? = some f ∧ ts.length < 1000) ∧ m ≠ .view then pure (.nx (σ.set x.i (.tr m (Tr.put x.p t0 (.ob c ns (ts.set n (.lf d))))))) else bad
  | _, _ => bad
noncomputable def cTAn (mp : MP) (c : Str) (A : List Str) (f : Str) (mv : ME) : MS := fun σ => do
  let r ← mv σ
  let d ← r.dat
  let x ← mp σ
  match x.t, σ[x.i]? with
  | .ob c' ns ts, some (.tr m t0) => if (c' = c ∧ ns = A ∧ ts.length < 900) ∧ m ≠ .view then pure (.nx (σ.set x.i (.tr m (Tr.put x.p t0 (.ob c (A ++ [f]) (ts ++ [.lf d])))))) else bad
  | _, _ => bad
theorem cs_tat {c f : Str} {fs : List Str} (n : Nat) (T : ClsT X.K X.mg c fs) (he : CP X e mp) (hval : CE X value mv) (hf : f ∈ fs := by decide +kernel) (hs : swapsWith value (some (.Attribute e f pos')) pos.line X.env = pure false := by rfl) :
    CS X (.Assign [.Attribute e f pos'] value pos) (cTAt mp c n f mv) := ps_imp (ps_fld he hval hs) <| by
  rintro D σV H ⟨O, σ, S, fl, S', st, h, q⟩
  obtain ⟨r, S1, h1, h⟩ := M.inv h
  obtain ⟨d, S2, h2, h⟩ := M.inv h
  obtain ⟨x, S3', h3, h⟩ := M.inv h
  split at h
  · rename_i c' ns ts m t0 et e0
    by_cases cc : (c' = c ∧ ns[n]? = some f ∧ ts.length < 1000) ∧ m ≠ .view
    · rw [if_pos cc] at h
      cases h
      obtain ⟨⟨rfl, cn, cl⟩, cm⟩ := cc
      refine ⟨O, σ, S, r, S1, st, h1, fun O1 v H1 g1 st1 rr nn => ?_⟩
      obtain ⟨rd, rfl⟩ := dat_rep (H₀ := H) rr nn h2
      refine ⟨frz H O1, σ, S1, x, _, st1.frz H, h3, fun O2 va H2 g2 st2 pr => ?_⟩
      have em : m = x.m := by obtain ⟨t1, _, e1, _⟩ := pr; rw [e0] at e1; cases e1; rfl
      subst em
      have tr := pr.tree st2
      have mo : x.m.ow (.loc x.i) = .loc x.i := by
        cases em : x.m with
        | view => exact absurd em cm
        | own => rfl
        | par => rfl
      rw [et, mo] at tr
      obtain ⟨a, C, dx, ys, ev, o, l, hq, ra⟩ := tr
      subst ev
      have hln := ra.len
      have hlt : n < ns.length := (List.getElem?_eq_some_iff.mp cn).1
      have hlz : (ns.zip ys).length = ts.length := by rw [List.length_zip]; omega
      obtain ⟨C', hC, clC, _, na⟩ := T.ex
      have eC : C' = C := by
        have := hq.2.2.1
        rw [hC] at this
        cases this
        rfl
      subst eC
      refine ⟨a, C', dx, _, rfl, l, clC, na f hf, by rw [hlz]; exact cl, ?_⟩
      rw [zip_putF hq.2.1 cn (by omega)]
      have rd3 := Rep.go g2 rd
      obtain ⟨s1, s2, s3⟩ := st2.putT (u' := .ins C' dx (ns.zip (ys.set n v))) (s' := .ob c' ns (ts.set n (.lf d))) pr cm e0 o l (by rintro (⟨_, z⟩ | ⟨_, _, z⟩) <;> cases z) (by intro ps z; cases z) (by intro q z; cases z) fun f g =>
        ⟨a, C', dx, _, rfl, o, upd_same, ⟨by rw [List.length_set]; exact hq.1, hq.2⟩, TreeAll.set f (fun b u i r _ ob hb _ => ⟨ob, g b u _ (by intro z; cases z) ob hb⟩) ra (by omega) (f _ _ rd3)⟩
      exact q O2 σV _ ((g1.frz.trans g2).gs.trans s2) s1 s3
    · rw [if_neg cc] at h; cases h
  · cases h
theorem cs_tan {c f : Str} {fs : List Str} (A : List Str) (T : ClsT X.K X.mg c fs) (he : CP X e mp) (hval : CE X value mv) (hf : f ∈ fs := by decide +kernel) (hA : f ∉ A := by decide +kernel) (hs : swapsWith value (some (.Attribute e f pos')) pos.line X.env = pure false := by rfl) :
    CS X (.Assign [.Attribute e f pos'] value pos) (cTAn mp c A f mv) := ps_imp (ps_fld he hval hs) <| by
  rintro D σV H ⟨O, σ, S, fl, S', st, h, q⟩
  obtain ⟨r, S1, h1, h⟩ := M.inv h
  obtain ⟨d, S2, h2, h⟩ := M.inv h
  obtain ⟨x, S3', h3, h⟩ := M.inv h
  split at h
  · rename_i c' ns ts m t0 et e0
    by_cases cc : (c' = c ∧ ns = A ∧ ts.length < 900) ∧ m ≠ .view
    · rw [if_pos cc] at h
      cases h
      obtain ⟨⟨rfl, rfl, cl⟩, cm⟩ := cc
      refine ⟨O, σ, S, r, S1, st, h1, fun O1 v H1 g1 st1 rr nn => ?_⟩
      obtain ⟨rd, rfl⟩ := dat_rep (H₀ := H) rr nn h2
      refine ⟨frz H O1, σ, S1, x, _, st1.frz H, h3, fun O2 va H2 g2 st2 pr => ?_⟩
      have em : m = x.m := by obtain ⟨t1, _, e1, _⟩ := pr; rw [e0] at e1; cases e1; rfl
      subst em
      have tr := pr.tree st2
      have mo : x.m.ow (.loc x.i) = .loc x.i := by
        cases em : x.m with
        | view => exact absurd em cm
        | own => rfl
        | par => rfl
      rw [et, mo] at tr
      obtain ⟨a, C, dx, ys, ev, o, l, hq, ra⟩ := tr
      subst ev
      have hln := ra.len
      have hlz : (ns.zip ys).length = ts.length := by rw [List.length_zip]; omega
      obtain ⟨C', hC, clC, _, na⟩ := T.ex
      have eC : C' = C := by
        have := hq.2.2.1
        rw [hC] at this
        cases this
        rfl
      subst eC
      refine ⟨a, C', dx, _, rfl, l, clC, na f hf, by rw [hlz]; omega, ?_⟩
      rw [zip_putN hq.1 hA]
      have rd3 := Rep.go g2 rd
      have nd : (ns ++ [f]).Nodup := List.nodup_append.mpr ⟨hq.2.1, List.nodup_cons.mpr ⟨by simp, List.nodup_nil⟩, fun b hb d hd => by
        rw [List.mem_singleton] at hd
        subst hd
        rintro rfl
        exact hA hb⟩
      obtain ⟨s1, s2, s3⟩ := st2.putT (u' := .ins C' dx ((ns ++ [f]).zip (ys ++ [v]))) (s' := .ob c' (ns ++ [f]) (ts ++ [.lf d])) pr cm e0 o l (by rintro (⟨_, z⟩ | ⟨_, _, z⟩) <;> cases z) (by intro ps z; cases z) (by intro q z; cases z) fun f g => by
        have tk : TreeAll X.K X.mg O2 _ (.loc x.i) x.p 0 ts ys := TreeAll.kids f (fun b u i r ob hb _ => ⟨ob, g b u (i :: r) (by intro z; cases z) ob hb⟩) ra
        exact ⟨a, C', dx, _, rfl, o, upd_same, ⟨by rw [List.length_append, List.length_append, hq.1]; rfl, nd, hq.2.2⟩, TreeAll.snoc (s := .lf d) tk (f _ _ rd3)⟩
      exact q O2 σV _ ((g1.frz.trans g2).gs.trans s2) s1 s3
    · rw [if_neg cc] at h; cases h
  · cases h
end
end L3

set_option Elab.async false
set_option linter.all false
set_option maxRecDepth 100000
set_option maxHeartbeats 1000000
namespace L3
open PySem PySem.Spec L2
variable [L2.TabP]
/-! ### values that are trees, made for a place -/
noncomputable abbrev MT := En → M Tr
noncomputable abbrev MTs := En → M (List Tr)
noncomputable def tvOf (K : PySem.W.Frag) (mg : Str → Option Value) (j : Nat) (p : List Nat) (m : MT) : TE := fun σV H Q => ∃ O σ S t S', S3 K mg O σ S σV H ∧ (m σ).run S = .ok t S' ∧ ∀ O' v H', Go O O' H H' → S3 K mg O' σ S' σV H' → TreeR K mg O' H' (.loc j) p t v → Q v H'
noncomputable def tvsOf (K : PySem.W.Frag) (mg : Str → Option Value) (j : Nat) (p : List Nat) (n : Nat) (m : MTs) : TA := fun σV H Q => ∃ O σ S ts S', S3 K mg O σ S σV H ∧ (m σ).run S = .ok ts S' ∧ ∀ O' vs H', Go O O' H H' → S3 K mg O' σ S' σV H' → TreeAll K mg O' H' (.loc j) p n ts vs → Q vs H'
noncomputable abbrev CV (X : Cx) (j : Nat) (p : List Nat) (e : Expr) (m : MT) : Prop := PE X e (tvOf X.K X.mg j p m)
noncomputable abbrev CVs (X : Cx) (j : Nat) (p : List Nat) (n : Nat) (es : List Expr) (m : MTs) : Prop := PA X es (tvsOf X.K X.mg j p n m)
noncomputable def vLeaf (m : ME) : MT := fun σ => do
  let r ← m σ
  let d ← r.dat
  pure (.lf d)
noncomputable def vOwn (m : ME) : MT := fun σ => do
  let r ← m σ
  match r with
  | .fr xs => pure (.ls (xs.map .lf))
  | _ => bad
noncomputable def vNil : MTs := fun _ => pure []
noncomputable def vCons (m : MT) (ms : MTs) : MTs := fun σ => do
  let t ← m σ
  let ts ← ms σ
  pure (t :: ts)
noncomputable def vLst (ms : MTs) : MT := fun σ => do
  let ts ← ms σ
  chk (ts.length ≤ 1000)
  pure (.ls ts)
section
variable {K : PySem.W.Frag} {mg : Str → Option Value} {O O' : Ow} {H H' : Hp}
theorem S3.adopt {σ : En} {S : Store} {σV : St} {a : Addr} {w : Own} (st : S3 K mg O σ S σV H) (ht : O a = .tmp) (hl : H a ≠ none) : S3 K mg (updO O a w) σ S σV H ∧ Fre O (updO O a w) := by
  have ne : ∀ {b : Addr} {w' : Own}, O b = w' → w' ≠ .tmp → updO O a w b = w' := fun {b w'} h hw => by
    rw [updO_ne]; exact h
    rintro rfl; exact hw (h.symm.trans ht)
  have fre : Fre O (updO O a w) := ⟨fun b h => ne h (by intro z; cases z)⟩
  refine ⟨⟨⟨fun b hb => ?_, st.dom.tabs⟩, st.len, fun j s e => (st.loc j s e).fre fre (fun b h => ne h (by intro z; cases z)) (fun b h => ne h (by intro z; cases z)) (fun b p h => ne h (by intro z; cases z)), st.emp⟩, fre⟩
  by_cases e : b = a
  · rw [e]; exact hl
  · rw [updO_ne e] at hb; exact st.dom.has b hb
theorem treeAll_lf {w : Own} {p : List Nat} : ∀ {xs : List D} {ys : List V} {n : Nat}, RepAll K mg O H xs ys → TreeAll K mg O H w p n (xs.map .lf) ys
  | [], _, _, h => h
  | _ :: _, _, _, h => by obtain ⟨y, r, e, a, b⟩ := h; exact ⟨y, r, e, a, treeAll_lf b⟩
theorem TreeAll.go {w : Own} {p : List Nat} {n : Nat} {ts : List Tr} {ys : List V} (g : Go O O' H H') (h : TreeAll K mg O H w p n ts ys) : TreeAll K mg O' H' w p n ts ys :=
  TreeAll.kids (fun _ _ z => Rep.go g z) (fun a u _ _ o l n => ⟨(g.own a (by rw [l]; intro z; cases z)).trans o, g.same.at' _ _ l n⟩) h
theorem same_over {H1 H : Hp} {a : Addr} {u : HO} (ha : H1 a = none) (s : Same H1 H) (hu : H a = some u) (h1 : ∀ ps, u ≠ .tbl ps) (h2 : ∀ q, u ≠ .ext (cdP a q)) (o : HO) : Same H1 (upd H a o) :=
  ⟨fun b v e n => by rw [upd_ne (ne_of_none e ha)]; exact s.at' b v e n, fun b ps e => by rw [upd_ne (ne_of_none e ha)]; exact s.tb b ps e, fun g => (s.gd g).put o (fun ps z => h1 ps (Option.some.inj (hu.symm.trans z))) (fun q z => h2 q (Option.some.inj (hu.symm.trans z)))⟩
end
section
variable {X : Cx} {e : Expr} {es : List Expr} {m : ME} {mt : MT} {ms : MTs} {pos : Pos} {j : Nat} {p : List Nat} {n : Nat}
theorem cv_leaf (h : CE X e m) : CV X j p e (vLeaf m) := pe_imp h <| by
  rintro σV H Q ⟨O, σ, S, t, S', st, h, q⟩
  obtain ⟨r, S1, h1, h⟩ := M.inv h
  obtain ⟨d, S2, h2, h⟩ := M.inv h
  cases h
  refine ⟨O, σ, S, r, S1, st, h1, fun O1 v H1 g1 st1 rr nn => ?_⟩
  obtain ⟨rd, rfl⟩ := dat_rep (H₀ := H) rr nn h2
  exact q (frz H O1) v H1 g1.frz (st1.frz H) rd
theorem cv_own (h : CE X e m) : CV X j p e (vOwn m) := pe_imp h <| by
  rintro σV H Q ⟨O, σ, S, t, S', st, h, q⟩
  obtain ⟨r, S1, h1, h⟩ := M.inv h
  split at h
  · rename_i xs
    cases h
    refine ⟨O, σ, S, _, _, st, h1, fun O1 v H1 g1 st1 rr nn => ?_⟩
    obtain ⟨a, ys, rfl, l, t, ra⟩ := rr
    obtain ⟨s1, fre⟩ := st1.adopt (w := .tr j p) t (by rw [l]; intro z; cases z)
    have ha := nn a rfl
    exact q (updO O1 a (.tr j p)) _ H1 ⟨g1.same, fun b hb => by rw [updO_ne (by rintro rfl; exact hb ha)]; exact g1.own b hb⟩ s1 ⟨a, ys, rfl, updO_same, l, treeAll_lf (ra.fre fre)⟩
  · cases h
theorem cvs_nil : CVs X j p n [] vNil := pa_imp pa_nil <| by
  rintro σV H Q ⟨O, σ, S, r, S', st, h, q⟩
  cases h
  exact q O [] H (Go.refl _ _) st rfl
theorem cvs_cons (ha : CV X j (p ++ [n]) e mt) (hr : CVs X j p (n + 1) es ms) (hs : starEach (e :: es) X.env = (false, eval e X.env) :: starEach es X.env := by rfl) : CVs X j p n (e :: es) (vCons mt ms) := pa_imp (pa_cons ha hr hs) <| by
  rintro σV H Q ⟨O, σ, S, r, S', st, h, q⟩
  obtain ⟨t, S1, h1, h⟩ := M.inv h
  obtain ⟨ts, S2, h2, h⟩ := M.inv h
  cases h
  refine ⟨O, σ, S, t, S1, st, h1, fun O1 v H1 g1 st1 tr => ?_⟩
  exact ⟨O1, σ, S1, ts, _, st1, h2, fun O2 vs H2 g2 st2 ta => q O2 (v :: vs) H2 (g1.trans g2) st2 ⟨v, vs, rfl, tr.go g2, ta⟩⟩
theorem cv_lst (h : CVs X j p 0 es ms) : CV X j p (.List es pos) (vLst ms) := pe_imp (pe_lst h) <| by
  rintro σV H Q ⟨O, σ, S, t, S', st, h, q⟩
  obtain ⟨ts, S1, h1, h⟩ := M.inv h
  obtain ⟨_, S2, h2, h⟩ := M.inv h
  obtain ⟨hl, rfl⟩ := chk_inv h2
  cases h
  refine ⟨O, σ, S, ts, _, st, h1, fun O1 vs H1 g1 st1 ta => ⟨Nat.le_of_lt (small1000 (by rw [ta.len]; exact hl)), fun a ha => ?_⟩⟩
  exact q (updO O1 a (.tr j p)) _ _ (g1.trans (Go.new ha)) (st1.new ha) ⟨a, vs, rfl, updO_same, upd_same, ta.go (Go.new ha)⟩
/-! {'k': v, ..} -/
structure CD (X : Cx) (pos : Pos) (j : Nat) (p : List Nat) (n : Nat) (keys : List (Option Expr)) (values : List Expr) (ks : List Key) (ms : MTs) : Prop where
  ex : ∃ trs, PPs X pos keys values trs ∧ ∀ σV H (Q : List (V × V) → Hp → Prop), tvsOf X.K X.mg j p n ms σV H (fun vs H' => Q ((ks.zip vs).map fun kv => (kV kv.1, kv.2)) H') → tPairs trs σV H Q
theorem cd_nil : CD X pos j p n [] [] [] vNil := ⟨[], pps_nil, fun σV H Q ⟨O, σ, S, r, S', st, h, q⟩ => by
  cases h
  exact q O [] H (Go.refl _ _) st rfl⟩
theorem cd_cons {key : Str} {i : Nat} {p0 : Pos} {v : Expr} {keys : List (Option Expr)} {values : List Expr} {ks : List Key} (hv : CV X j (p ++ [n]) v mt) (hr : CD X pos j p (n + 1) keys values ks ms) :
    CD X pos j p n (some (.Constant (.str key) i p0) :: keys) (v :: values) (.inr key :: ks) (vCons mt ms) := by
  obtain ⟨trs, h1, h2⟩ := hr.ex
  refine ⟨_, pps_cons pe_str hv h1, fun σV H Q ⟨O, σ, S, r, S', st, h, q⟩ => ?_⟩
  obtain ⟨t, S1, e1, h⟩ := M.inv h
  obtain ⟨ts, S2, e2, h⟩ := M.inv h
  cases h
  show tvOf _ _ _ _ _ σV H fun y H2 => tPairs trs σV H2 fun ps H3 => Q ((V.str key, y) :: ps) H3
  refine ⟨O, σ, S, t, S1, st, e1, fun O1 y H1 g1 st1 tr => h2 _ _ _ ?_⟩
  exact ⟨O1, σ, S1, ts, _, st1, e2, fun O2 vs H2 g2 st2 ta => q O2 (y :: vs) H2 (g1.trans g2) st2 ⟨y, vs, rfl, tr.go g2, ta⟩⟩
noncomputable def vDict (ks : List Key) (ms : MTs) : MT := fun σ => do
  let ts ← ms σ
  chk (ts.length = ks.length)
  pure (.dc ks ts)
theorem merge_zip : ∀ {ks : List Key} {vs : List V} {kvs : List (Key × V)}, ks.Nodup → ks.length = vs.length → (∀ k ∈ ks, ∀ p ∈ kvs, p.1 ≠ k) → mergeK kvs (ks.zip vs) = kvs ++ ks.zip vs
  | [], vs, kvs, _, _, _ => by
    show kvs = kvs ++ _
    rw [List.zip_nil_left, List.append_nil]
  | _ :: _, [], _, _, h, _ => by simp at h
  | k :: ks, v :: vs, kvs, nd, hl, hn => by
    have e1 : putK kvs k v = kvs ++ [(k, v)] := by
      unfold putK
      rw [if_neg]
      rw [List.any_eq_true]
      rintro ⟨p, hp, e⟩
      exact hn k (List.mem_cons_self ..) p hp (by simpa using e)
    show mergeK (putK kvs k v) (ks.zip vs) = _
    rw [e1, merge_zip (List.nodup_cons.mp nd).2 (by simpa using hl), List.append_assoc]
    · rfl
    · intro k' hk' p hp
      rcases List.mem_append.mp hp with hp | hp
      · exact hn k' (List.mem_cons_of_mem _ hk') p hp
      · rw [List.mem_singleton] at hp
        subst hp
        rintro rfl
        exact (List.nodup_cons.mp nd).1 hk'
theorem cv_dict {keys : List (Option Expr)} {values : List Expr} {ks : List Key} (h : CD X pos j p 0 keys values ks ms) (hall : keys.all (·.isSome) = true := by rfl) (hl : keys.length = values.length := by rfl) (h0 : keys ≠ [] := by simp) (h15 : keys.length ≤ 15 := by decide)
    (hk : ks.Nodup ∧ ks.length ≤ 15 := by decide +kernel) : CV X j p (.Dict keys values pos) (vDict ks ms) := by
  obtain ⟨trs, h1, h2⟩ := h.ex
  refine pe_imp (pe_disp h1 hall hl h0 h15) fun σV H Q ⟨O, σ, S, t, S', st, h, q⟩ a ha => h2 _ _ _ ?_
  obtain ⟨ts, S1, e1, h⟩ := M.inv h
  obtain ⟨_, S2, e2, h⟩ := M.inv h
  obtain ⟨hlen, rfl⟩ := chk_inv e2
  cases h
  refine ⟨updO O a (.tr j p), σ, S, ts, _, st.new ha, e1, fun O2 vs H2 g2 st2 ta => ?_⟩
  have ha2 : H2 a = some (.dK []) := g2.same.at' _ _ upd_same
  have hl2 : ks.length = vs.length := by rw [ta.len, hlen]
  have hm : mergeK [] (ks.zip vs) = ks.zip vs := merge_zip hk.1 hl2 (fun _ _ p hp => by cases hp)
  refine ⟨ha2, ks.zip vs, rfl, by rw [List.length_zip]; omega, ?_⟩
  rw [hm]
  have o2 : O2 a = .tr j p := (g2.own a (by rw [upd_same]; intro z; cases z)).trans updO_same
  have sm : Same H (upd H2 a (.dK (ks.zip vs))) := same_over ha ((same_new ha _).trans g2.same) ha2 (by intro ps z; cases z) (by intro q z; cases z) _
  have go : Go O O2 H (upd H2 a (.dK (ks.zip vs))) := ⟨sm, fun b hb => by
    have nb : b ≠ a := by rintro rfl; exact hb ha
    rw [g2.own b (by rw [upd_ne nb]; exact hb), updO_ne nb]⟩
  have dm : Dom O2 (upd H2 a (.dK (ks.zip vs))) := st2.dom.upd ha2 (by intro ps z; cases z) (by intro q z; cases z)
  have st3 := st.go go dm
  rw [st.emp, ← st2.emp] at st3
  refine q O2 _ _ go st3 ⟨a, vs, rfl, o2, upd_same, ⟨hl2, hk.1⟩, TreeAll.kids (fun _ _ z => Rep.updK ha2 z) (fun b u i r ob hb _ => ⟨ob, ?_⟩) ta⟩
  rw [upd_ne]
  · exact hb
  · rintro rfl
    rw [o2] at ob
    have := congrArg List.length (show p = p ++ i :: r by injection ob)
    rw [List.length_append, List.length_cons] at this
    omega
/-- x = a tree -/
noncomputable def cTSet (j : Nat) (m : MT) : MS := fun σ => do
  let t ← m σ
  pure (.nx (σ.set j (.tr .own t)))
theorem cs_tset {x : Str} {pos' : Pos} (hN : X.N.Nodup) (hi : X.N[j]? = some x) (hx : Loc X.env.scope x) (he : CV X j [] e mt) (hs : swapsWith e (some (.Name x pos')) pos.line X.env = pure false := by rfl) (hf : X.fn x = true ∨ X.env.scope.names.lookup x = some .local := by first | exact .inl rfl | exact .inr rfl | assumption) :
    CS X (.Assign [.Name x pos'] e pos) (cTSet j mt) := ps_imp (ps_set hN hi hx he hs hf) <| by
  rintro D σV H ⟨O, σ, S, fl, S', st, h, q⟩
  obtain ⟨t, S1, h1, h⟩ := M.inv h
  cases h
  exact ⟨O, σ, S, t, _, st, h1, fun O1 v H1 g1 st1 tr => q O1 _ H1 g1.gs (st1.set ⟨v, rfl, tr⟩) (Kp.set (fun xs z => by cases z) (fun xs z => by cases z) fun m t z => by cases z; rfl)⟩
/-- x['k'] = a tree, the key is new -/
noncomputable def cTDn (j : Nat) (A : List Key) (key : Str) (mt : MT) : MS := fun σ => do
  let t ← mt σ
  match σ[j]? with
  | some (.tr md (.dc ks ts)) => if (ks = A ∧ ts.length = A.length ∧ ts.length < 1000) ∧ md ≠ .view then pure (.nx (σ.set j (.tr md (.dc (A ++ [.inr key]) (ts ++ [t]))))) else bad
  | _ => bad
theorem cs_tdn {x key : Str} {i : Nat} {p0 p1 pos' : Pos} (A : List Key) (hu : X.A.units + 64 < cLine) (hN : X.N[j]? = some x) (hv : Vis X.env.scope x) (he : CV X j [A.length] e mt) (hA' : A.all (fun k => decide (k ≠ .inr key)) = true := by decide +kernel)
    (hs : swapsWith e (some (.Subscript (.Name x p1) (.Constant (.str key) i p0) pos')) pos.line X.env = pure false := by rfl) (hd : (x == ("__debug__" : Str)) = false := by decide) (hcd : (x == ("__classdict__" : Str)) = false := by decide) :
    CS X (.Assign [.Subscript (.Name x p1) (.Constant (.str key) i p0) pos'] e pos) (cTDn j A key mt) := ps_imp (ps_dput (by omega) (pe_var hN hv hd hcd) pe_str he hs) <| by
  rintro D σV H ⟨O, σ, S, fl, S', st, h, q⟩
  have hA : (.inr key : Key) ∉ A := fun z => by
    have := List.all_eq_true.mp hA' _ z
    simp at this
  obtain ⟨t, S1, h1, h⟩ := M.inv h
  split at h
  · rename_i md ks ts e0
    by_cases c : (ks = A ∧ ts.length = A.length ∧ ts.length < 1000) ∧ md ≠ .view
    · rw [if_pos c] at h
      cases h
      obtain ⟨⟨rfl, c1, c2⟩, cm⟩ := c
      refine ⟨O, σ, S, t, _, st, h1, fun O1 v H1 g1 st1 tr => ?_⟩
      obtain ⟨v0, e1, r⟩ := st1.loc j _ e0
      have mo : md.ow (.loc j) = .loc j := by
        cases md with
        | view => exact absurd rfl cm
        | own => rfl
        | par => rfl
      rw [mo] at r
      obtain ⟨a, ys, ev, o, l, hq, ra⟩ := r
      subst ev
      have hln := ra.len
      have pr : PthR H1 σ σV ⟨j, [], md, .dc ks ts⟩ (.ref a) := ⟨_, _, e0, rfl, e1, rfl⟩
      refine ⟨.ref a, ?_, a, _, rfl, DPut.k (k := Sum.inr key) l (by rw [List.length_zip]; exact small1000 (by omega)), ?_⟩
      · cases w : σV[j]? with
        | none => rw [w] at e1; cases e1
        | some y => rw [w] at e1; exact congrArg some e1
      have ek : putK (ks.zip ys) (Sum.inr key) v = (ks ++ [Sum.inr key]).zip (ys ++ [v]) := by
        unfold putK
        rw [if_neg (zip_none hA), List.zip_append hq.1]
        rfl
      rw [ek]
      have nd : (ks ++ [(Sum.inr key : Key)]).Nodup := List.nodup_append.mpr ⟨hq.2, List.nodup_cons.mpr ⟨by simp, List.nodup_nil⟩, fun b hb d hd => by
        rw [List.mem_singleton] at hd
        subst hd
        rintro rfl
        exact hA hb⟩
      obtain ⟨s1, s2, s3⟩ := st1.putT (x := ⟨j, [], md, .dc ks ts⟩) (u' := .dK ((ks ++ [Sum.inr key]).zip (ys ++ [v]))) (s' := .dc (ks ++ [Sum.inr key]) (ts ++ [t])) pr cm e0 o l (by rintro (⟨_, z⟩ | ⟨_, _, z⟩) <;> cases z) (by intro ps z; cases z) (by intro q z; cases z) fun f g =>
        ⟨a, _, rfl, o, upd_same, ⟨by rw [List.length_append, List.length_append, hq.1]; rfl, nd⟩, TreeAll.snoc (TreeAll.kids f (fun b u i r ob hb _ => ⟨ob, g b u _ (by intro z; cases z) ob hb⟩) ra) (by
          rw [Nat.zero_add, c1]
          exact TreeR.allP f t (fun b u r ob hb _ => ⟨ob, g b u (ks.length :: r) (by intro z; cases z) ob hb⟩) tr)⟩
      exact q O1 σV _ (g1.gs.trans s2) s1 s3
    · rw [if_neg c] at h; cases h
  · cases h
end
end L3

set_option Elab.async false
set_option linter.all false
set_option maxRecDepth 100000
set_option maxHeartbeats 1000000
namespace L3
open PySem PySem.Spec L2
variable [L2.TabP]
/-! ### the bodies of defs that change trees: an early return is a break -/
noncomputable def Pr (D : Ends) : Ends := { D with bk := fun _ H' => D.rt .non H' }
noncomputable abbrev CR (X : Cx) (st : Stmt) (m : MS) : Prop := PS X st fun D => tsOf X.K X.mg m (Pr D)
noncomputable abbrev CRs (X : Cx) (sts : List Stmt) (m : MS) : Prop := PSs X sts fun D => tsOf X.K X.mg m (Pr D)
noncomputable def cNoB (m : MS) : MS := fun σ => do
  let fl ← m σ
  match fl with
  | .bk _ => bad
  | fl => pure fl
section
variable {X : Cx} {st : Stmt} {rest : List Stmt} {pos : Pos} {a b : MS}
theorem cr_of (h : CS X st a) : CR X st (cNoB a) := ps_imp h <| by
  rintro D σV H ⟨O, σ, S, fl, S', s3, h, q⟩
  obtain ⟨f, S1, h1, h⟩ := M.inv h
  refine ⟨O, σ, S, f, S1, s3, h1, ?_⟩
  cases f with
  | bk _ => cases h
  | nx σ' => cases h; exact q
  | ct σ' => cases h; exact q
  | rt r => cases h; exact q
theorem cr_retN : CR X (.Return none pos) cBrk := ps_imp ps_retN <| by
  rintro D σV H ⟨O, σ, S, fl, S', st, h, q⟩
  cases h
  exact q O σV H (Gs.refl _ _) st (Kp.refl _ _)
theorem cr_if {c : Expr} {A B : List Stmt} {t : En → M Bool} (hc : CT X c t) (ha : CRs X A a) (hb : CRs X B b) : CR X (.If c A B pos) (cIfS t a b) := ps_imp (ps_if hc ha hb) <| by
  rintro D σV H ⟨O, σ, S, fl, S', st, h, q⟩
  obtain ⟨t, S1, h1, h⟩ := M.inv h
  refine ⟨O, σ, S, t, S1, st, h1, fun O1 H1 g1 st1 => ?_⟩
  cases t with
  | false =>
    rw [if_neg Bool.false_ne_true] at h
    exact iteF ⟨O1, σ, S1, fl, S', st1, h, q.gs g1.gs (Kp.refl _ _)⟩
  | true =>
    rw [if_pos rfl] at h
    exact iteT ⟨O1, σ, S1, fl, S', st1, h, q.gs g1.gs (Kp.refl _ _)⟩
theorem crs_nil : CRs X [] cPass := pss_imp pss_nil fun D σV H ⟨O, σ, S, fl, S', st, h, q⟩ => by cases h; exact q O σV H (Gs.refl _ _) st (Kp.refl _ _)
theorem crs_one (h : CR X st a) : CRs X [st] a := pss_one h
theorem crs_cons (h1 : CR X st a) (h2 : CRs X rest b) : CRs X (st :: rest) (cSeq a b) := pss_imp (pss_cons h1 h2) <| by
  rintro D σV H ⟨O, σ, S, fl, S', st, h, q⟩
  obtain ⟨f1, S1, h1, h⟩ := M.inv h
  refine ⟨O, σ, S, f1, S1, st, h1, ?_⟩
  cases f1 with
  | nx σ1 => exact fun O1 σV1 H1 g1 st1 k1 => ⟨O1, σ1, S1, fl, S', st1, h, q.gs g1 k1⟩
  | rt r => cases h; exact q
  | bk σ1 => cases h; exact q
  | ct σ1 => cases h; exact q
end
/-! ### defs that change the trees that are their first parameters -/
noncomputable abbrev MTR := List Tr → List D → M (List Tr)
noncomputable def trsOf : List Slot → M (List Tr)
  | [] => pure []
  | .tr .par t :: r => do
    let ts ← trsOf r
    pure (t :: ts)
  | _ => bad
noncomputable def trEnd (nt : Nat) (σ' : En) : M (List Tr) := do
  let ts ← trsOf (σ'.take nt)
  chk (ts.length = nt)
  pure ts
noncomputable def fnTR (nt n N : Nat) (b : MS) : MTR := fun ts ds => if ts.length = nt ∧ nt + ds.length = n then do
    let fl ← b (ts.map (.tr .par) ++ ds.map .val ++ List.replicate (N - n) .emp)
    match fl with
    | .nx σ' => trEnd nt σ'
    | .bk σ' => trEnd nt σ'
    | _ => bad
  else bad
noncomputable abbrev Rt := Nat × List Nat
noncomputable def Roots (K : PySem.W.Frag) (mg : Str → Option Value) (O : Ow) (H : Hp) (ws : List Rt) (ts : List Tr) (us : List V) : Prop := ∀ (k : Nat) (r : Rt), ws[k]? = some r → ∃ t u, ts[k]? = some t ∧ us[k]? = some u ∧ TreeR K mg O H (.loc r.1) r.2 t u
noncomputable def Un (ws : List Rt) (j : Nat) (p : List Nat) : Prop := ∃ P, (j, P) ∈ ws ∧ P <+: p
noncomputable def spTR (K : PySem.W.Frag) (mg : Str → Option Value) (mf : MTR) : Sp := fun vs H Q _ => ∃ O ws ts ds us us' ts' S', vs = us ++ us' ∧ Dom O H ∧ (ts.length = ws.length ∧ us.length = ws.length) ∧ (ws.map (·.1)).Nodup ∧ Roots K mg O H ws ts us ∧ RepAll K mg O H ds us' ∧
  (mf ts ds).run [] = .ok ts' S' ∧ ∀ O' H', GoT (Un ws) O O' H H' → Dom O' H' → S' = [] → ts'.length = ws.length → Roots K mg O' H' ws ts' us → Q .non H'
noncomputable def look : List Rt → Nat → Nat → List Nat → Own
  | [], _, _, _ => .out
  | (j', P) :: ws, k, j, p => if j' = j ∧ P <+: p then .tr k (p.drop P.length) else look ws (k + 1) j p
omit [L2.TabP] in
theorem look_un : ∀ {ws : List Rt} {k j : Nat} {p : List Nat}, ¬ Un ws j p → look ws k j p = .out
  | [], _, _, _, _ => rfl
  | (j', P) :: ws, k, j, p, h => by
    unfold look
    rw [if_neg, look_un fun ⟨Q, a, b⟩ => h ⟨Q, List.mem_cons_of_mem _ a, b⟩]
    rintro ⟨rfl, z⟩
    exact h ⟨P, List.mem_cons_self .., z⟩
omit [L2.TabP] in
theorem look_at : ∀ {ws : List Rt} {k i j : Nat} {P r : List Nat}, (ws.map (·.1)).Nodup → ws[i]? = some (j, P) → look ws k j (P ++ r) = .tr (k + i) r
  | [], _, _, _, _, _, _, e => by simp at e
  | (j', P') :: ws, k, 0, j, P, r, nd, e => by
    cases (show some (j', P') = some (j, P) from e)
    unfold look
    rw [if_pos ⟨rfl, List.prefix_append _ _⟩, List.drop_left]
    rfl
  | (j', P') :: ws, k, i + 1, j, P, r, nd, e => by
    have e' : ws[i]? = some (j, P) := by simpa using e
    unfold look
    rw [List.map_cons] at nd
    rw [if_neg, look_at (List.nodup_cons.mp nd).2 e']
    · congr 1; omega
    · rintro ⟨rfl, _⟩
      exact (List.nodup_cons.mp nd).1 (List.mem_map.mpr ⟨(_, P), List.mem_iff_getElem?.mpr ⟨i, e'⟩, rfl⟩)
/-- the callee's owners -/
noncomputable def inO (ws : List Rt) (O : Ow) : Ow := fun b => match O b with
  | .tr j p => look ws 0 j p
  | o => o.blk
omit [L2.TabP] in
theorem look_ne : ∀ {ws : List Rt} {k j : Nat} {p : List Nat}, look ws k j p ≠ .free
  | [], _, _, _ => by intro z; cases z
  | (j', P) :: ws, k, j, p => by
    unfold look
    split
    · intro z; cases z
    · exact look_ne
omit [L2.TabP] in
theorem inO_free {ws : List Rt} {O : Ow} {b : Addr} : inO ws O b = .free ↔ O b = .free := by
  unfold inO
  cases e : O b with
  | tr j p => exact ⟨fun z => absurd z look_ne, fun z => by cases z⟩
  | _ => simp [Own.blk]
omit [L2.TabP] in
theorem inO_un {ws : List Rt} {O : Ow} {b : Addr} (h : ¬ WOw (Un ws) (O b)) : inO ws O b = .free ∨ inO ws O b = .out := by
  unfold inO
  cases e : O b with
  | tr j p => exact .inr (look_un fun z => h ⟨j, p, e, z⟩)
  | free => exact .inl rfl
  | _ => exact .inr rfl
theorem inO_fre {ws : List Rt} {O : Ow} : Fre O (inO ws O) := ⟨fun _ h => inO_free.mpr h⟩
/-- the caller's owners behind the call -/
noncomputable def outO (ws : List Rt) (H : Hp) (O O' : Ow) (b : Addr) : Own :=
  match (generalizing := false) O' b with
  | .tr k q => (match ws[k]? with
    | some r => .tr r.1 (r.2 ++ q)
    | none => .tmp)
  | .free => .free
  | _ => .tmp
open Classical in
noncomputable def bkO (ws : List Rt) (H : Hp) (O O' : Ow) : Ow := fun b => if H b ≠ none ∧ ¬ WOw (Un ws) (O b) then O b else outO ws H O O' b
theorem trs_len : ∀ {ss : List Slot} {ts : List Tr} {S S' : Store}, (trsOf ss).run S = .ok ts S' → ts.length = ss.length ∧ ∀ (k : Nat) (t : Tr), ts[k]? = some t → ss[k]? = some (.tr .par t)
  | [], ts, S, S', h => by cases h; exact ⟨rfl, fun k t e => by simp at e⟩
  | .tr .par t :: r, ts, S, S', h => by
    obtain ⟨ts', S1, h1, h⟩ := M.inv h
    cases h
    obtain ⟨a, b⟩ := trs_len h1
    refine ⟨by rw [List.length_cons, List.length_cons, a], fun k t e => ?_⟩
    cases k with
    | zero => cases e; rfl
    | succ k => exact b k t (by simpa using e)
  | .tr .own t :: r, ts, S, S', h => by cases h
  | .tr .view t :: r, ts, S, S', h => by cases h
  | .emp :: _, _, _, _, h => by cases h
  | .val _ :: _, _, _, _, h => by cases h
  | .ow _ _ :: _, _, _, _, h => by cases h
  | .vw _ :: _, _, _, _, h => by cases h
  | .dct _ :: _, _, _, _, h => by cases h
  | .vd _ :: _, _, _, _, h => by cases h
  | .pd _ :: _, _, _, _, h => by cases h
  | .vp _ :: _, _, _, _, h => by cases h
theorem tr_ok {P : Program} {w : World} {K : PySem.W.Frag} {mg : Str → Option Value} {base : Heap} {x qual : Str} {st : Stmt} {ps N : List Str} {k : Nat} {mb : MS} {f : Addr} {fd : FuncData} {nt n nl : Nat} (F : Fun K x qual st f fd) (Sc : FnScope N ps (defScope st)) (hn : ps.length = n) (hl : N.length = nl)
    (hb : ∀ (cdv : Value) (A : Around) (outer : List Env) (s : Shared) (H : Hp) (E : XK), Room k (A.deeper (PyProof.Rows.envOfC qual (defScope st) s.heap.objs.size f cdv)) →
      CRs (cxOf CX0 P w K mg base N qual (defScope st) f cdv A outer s H E).nox (defBody st) mb) : FnOk P w K mg base CX0 (k + 1) f fd ps (spTR K mg (fnTR nt n nl mb)) := by
  subst hn hl
  have flen : ∀ {ts : List Tr} {ds : List D} {ts' : List Tr} {S S' : Store}, (fnTR nt ps.length N.length mb ts ds).run S = .ok ts' S' → ts.length = nt ∧ nt + ds.length = ps.length := fun {ts ds ts' S S'} h => by
    unfold fnTR at h
    by_cases c : ts.length = nt ∧ nt + ds.length = ps.length
    · exact c
    · rw [if_neg c] at h; cases h
  refine F.ok Sc ?_ ?_
  · rintro vs H Q E ⟨O, ws, ts, ds, us, us', ts', S', rfl, dm, hl, nd, rt, ra, h, q⟩
    have := flen h
    rw [List.length_append, ra.len]; omega
  rintro cdv A outer s H vs Q E hr ⟨O, ws, ts, ds, us, us', ts', S', rfl, dm, ⟨hl1, hl2⟩, nd, rt, ra, h, q⟩
  refine ⟨_, hb cdv A outer s H E hr, ?_⟩
  obtain ⟨c1, c2⟩ := flen h
  have hlu := ra.len
  unfold fnTR at h
  rw [if_pos ⟨c1, c2⟩] at h
  obtain ⟨fl, S1, h1, h⟩ := M.inv h
  have st0 : S3 K mg (inO ws O) (ts.map (.tr .par) ++ ds.map .val ++ List.replicate (N.length - ps.length) .emp) [] (L2.start N (us ++ us')) H := by
    refine ⟨⟨fun b hb => dm.has b fun z => hb (inO_free.mpr z), dm.tabs⟩, ?_, fun j s e => ?_, rfl⟩
    · unfold L2.start
      simp only [List.length_append, List.length_map, List.length_replicate]
      omega
    · unfold L2.start
      rw [List.append_assoc] at e
      by_cases hj : j < ts.length
      · rw [List.getElem?_append_left (by rw [List.length_map]; exact hj), List.getElem?_map] at e
        have hw : ws[j]? = some ws[j] := List.getElem?_eq_getElem _
        obtain ⟨t, u, et, eu, tr⟩ := rt j _ hw
        rw [et] at e
        cases e
        have ev : ((us ++ us').map some ++ List.replicate (N.length - (us ++ us').length) none)[j]? = some (some u) := by
          rw [List.getElem?_append_left (by simp only [List.length_map, List.length_append]; omega), List.getElem?_map, List.getElem?_append_left (by omega), eu]
          rfl
        refine ⟨u, by rw [ev]; rfl, TreeR.allP (fun _ _ z => Rep.fre inO_fre z) t (fun b u r ob hb _ => ⟨?_, hb⟩) tr⟩
        show inO ws O b = .tr j ([] ++ r)
        unfold inO
        have ob : O b = .tr ws[j].1 (ws[j].2 ++ r) := ob
        rw [ob]
        have := look_at (k := 0) (r := r) nd hw
        rw [Nat.zero_add] at this
        exact this
      · rw [List.getElem?_append_right (by rw [List.length_map]; omega), List.length_map] at e
        by_cases hj2 : j - ts.length < ds.length
        · rw [List.getElem?_append_left (by rw [List.length_map]; exact hj2), List.getElem?_map] at e
          cases ed : ds[j - ts.length]? with
          | none => rw [ed] at e; cases e
          | some d =>
            rw [ed] at e
            cases e
            obtain ⟨v, ev, rv⟩ := ra.get ed
            have ev' : ((us ++ us').map some ++ List.replicate (N.length - (us ++ us').length) none)[j]? = some (some v) := by
              rw [List.getElem?_append_left (by simp only [List.length_map, List.length_append]; omega), List.getElem?_map, List.getElem?_append_right (by omega), show us.length = ts.length by omega, ev]
              rfl
            exact ⟨v, by rw [ev']; rfl, rv.fre inO_fre⟩
        · rw [List.getElem?_append_right (by rw [List.length_map]; omega), List.getElem?_replicate] at e
          split at e
          · cases e; exact trivial
          · cases e
  have fin : ∀ {σ' : En}, (trEnd nt σ').run S1 = .ok ts' S' → ∀ O' σV' H', Gs (inO ws O) O' H H' → S3 K mg O' σ' S1 σV' H' → Kp (ts.map (.tr .par) ++ ds.map .val ++ List.replicate (N.length - ps.length) .emp) σ' (L2.start N (us ++ us')) σV' → Q .non H' := fun {σ'} h O' σV' H' g st' kp => by
    obtain ⟨ts2, S2, h2, h⟩ := M.inv h
    obtain ⟨_, S3', h3, h⟩ := M.inv h
    obtain ⟨hnt, rfl⟩ := chk_inv h3
    cases h
    obtain ⟨tl, tk⟩ := trs_len h2
    have eS : S1 = S' := by
      have : ∀ {ss : List Slot} {ts : List Tr} {S S' : Store}, (trsOf ss).run S = .ok ts S' → S = S' := by
        intro ss
        induction ss with
        | nil => intro ts S S' h; cases h; rfl
        | cons s r ih =>
          intro ts S S' h
          cases s with
          | tr m t =>
            cases m with
            | par => obtain ⟨ts', S1, h1, h⟩ := M.inv h; cases h; exact ih h1
            | own => cases h
            | view => cases h
          | _ => cases h
      exact this h2
    subst eS
    have o2o : ∀ {b : Addr}, H b ≠ none → ¬ WOw (Un ws) (O b) → bkO ws H O O' b = O b := fun a b => if_pos ⟨a, b⟩
    have o2n : ∀ {b : Addr}, ¬ (H b ≠ none ∧ ¬ WOw (Un ws) (O b)) → bkO ws H O O' b = outO ws H O O' b := fun a => if_neg a
    have old : ∀ {b : Addr}, H b ≠ none → ¬ WOw (Un ws) (O b) → O' b = inO ws O b := fun {b} hb hw => g.own b hb (inO_un hw)
    have fre : Fre O' (bkO ws H O O') := ⟨fun b hb => by
      by_cases c : H b ≠ none ∧ ¬ WOw (Un ws) (O b)
      · rw [o2o c.1 c.2]; exact inO_free.mp ((old c.1 c.2).symm.trans hb)
      · rw [o2n c]; unfold outO; rw [hb]⟩
    refine q (bkO ws H O O') H' ⟨fun b o e h n => ?_, fun b hb hw => o2o hb hw, g.has, g.tb, g.gd⟩ ⟨fun b hb => ?_, st'.dom.tabs⟩ st'.emp ?_ fun k r hw => ?_
    · rcases h with h | h
      · exact g.cells b o e ((inO_un h).elim .inl fun z => .inr (.inl z)) n
      · exact g.cells b o e (.inr (.inr h)) n
    · by_cases c : H b ≠ none ∧ ¬ WOw (Un ws) (O b)
      · exact g.has b c.1
      · rw [o2n c] at hb
        refine st'.dom.has b fun z => hb ?_
        unfold outO
        rw [z]
    · omega
    · have hk : k < ws.length := (List.getElem?_eq_some_iff.mp hw).1
      have hkt : k < ts'.length := by omega
      obtain ⟨t0, u, et0, eu, _⟩ := rt k r hw
      have et : ts'[k]? = some ts'[k] := List.getElem?_eq_getElem _
      have es := tk k _ et
      have es' : σ'[k]? = some (.tr .par ts'[k]) := by
        rw [List.getElem?_take_of_lt (by omega)] at es
        exact es
      obtain ⟨_, ev⟩ := kp.2.2 k .par _ es' (by intro z; cases z)
      have ev0 : (L2.start N (us ++ us'))[k]? = some (some u) := by
        unfold L2.start
        rw [List.getElem?_append_left (by simp only [List.length_map, List.length_append]; omega), List.getElem?_map, List.getElem?_append_left (by omega), eu]
        rfl
      obtain ⟨v, e1, tr⟩ := st'.loc k _ es'
      rw [ev, ev0] at e1
      cases e1
      refine ⟨_, u, et, eu, TreeR.allP (fun _ _ z => Rep.fre fre z) _ (fun b o q ob hb _ => ⟨?_, hb⟩) tr⟩
      have ob : O' b = .tr k q := ob
      have c : ¬ (H b ≠ none ∧ ¬ WOw (Un ws) (O b)) := fun c => by
        have := old c.1 c.2
        rw [ob] at this
        rcases inO_un c.2 with z | z <;> rw [z] at this <;> cases this
      rw [o2n c]
      unfold outO
      rw [ob]
      dsimp only
      rw [hw]
      rfl
  refine ⟨inO ws O, _, [], fl, S1, st0, h1, ?_⟩
  cases fl with
  | ct σ' => cases h
  | rt r' => cases h
  | nx σ' => exact fin h
  | bk σ' => exact fin h
end L3

set_option Elab.async false
set_option linter.all false
set_option maxRecDepth 100000
set_option maxHeartbeats 1000000
namespace L3
open PySem PySem.Spec L2
variable [L2.TabP]
/-! ### methods by name -/
structure DfM (K : PySem.W.Frag) (mg : Str → Option Value) (c m qual : Str) (st : Stmt) (ps : List Str) : Prop where
  ex : ∃ C f fd, mg c = some (.ref C) ∧ Cls K C ∧ Meth K C m f ∧ Fun K m qual st f fd ∧ Binds K fd ps []
structure HasM (P : Program) (w : World) (K : PySem.W.Frag) (mg : Str → Option Value) (base : Heap) (c m : Str) (ps : List Str) (k : Nat) (sp : Sp) : Prop where
  ex : ∃ C f fd, mg c = some (.ref C) ∧ Cls K C ∧ Meth K C m f ∧ FnOk P w K mg base CX0 k f fd ps sp ∧ Binds K fd ps []
section
variable {P : Program} {w : World} {K : PySem.W.Frag} {mg : Str → Option Value} {base : Heap} {x c m qual : Str} {st : Stmt} {ps N : List Str} {k : Nat} {mb : MS} {nt n nl : Nat}
theorem has_tr (Df : Df K mg x st ps) (Sc : FnScope N ps (defScope st)) (hn : ps.length = n) (hl : N.length = nl)
    (hb : ∀ (f : Addr) (cdv : Value) (A : Around) (outer : List Env) (s : Shared) (H : Hp) (E : XK), Room k (A.deeper (PyProof.Rows.envOfC x (defScope st) s.heap.objs.size f cdv)) →
      CRs (cxOf CX0 P w K mg base N x (defScope st) f cdv A outer s H E).nox (defBody st) mb) : Has P w K mg base x ps (k + 1) (spTR K mg (fnTR nt n nl mb)) := by
  obtain ⟨f, fd, F, b, m⟩ := Df.ex
  exact ⟨f, fd, tr_ok F Sc hn hl (fun cdv => hb f cdv), b, F.kp, m⟩
theorem hasM_tr (Df : DfM K mg c m qual st ps) (Sc : FnScope N ps (defScope st)) (hn : ps.length = n) (hl : N.length = nl)
    (hb : ∀ (f : Addr) (cdv : Value) (A : Around) (outer : List Env) (s : Shared) (H : Hp) (E : XK), Room k (A.deeper (PyProof.Rows.envOfC qual (defScope st) s.heap.objs.size f cdv)) →
      CRs (cxOf CX0 P w K mg base N qual (defScope st) f cdv A outer s H E).nox (defBody st) mb) : HasM P w K mg base c m ps (k + 1) (spTR K mg (fnTR nt n nl mb)) := by
  obtain ⟨C, f, fd, mc, cl, me, F, b⟩ := Df.ex
  exact ⟨C, f, fd, mc, cl, me, tr_ok F Sc hn hl (fun cdv => hb f cdv), b⟩
end
/-! ### methods that look only -/
noncomputable abbrev MTV := Tr → List D → M R
noncomputable def fnTV (n N : Nat) (b : MS) : MTV := fun t ds => if 1 + ds.length = n then do
    let fl ← b (.tr .view t :: ds.map .val ++ List.replicate (N - n) .emp)
    match fl with
    | .rt (.v d) => pure (.v d)
    | .rt (.fr xs) => pure (.fr xs)
    | .nx _ => pure (.v .non)
    | _ => bad
  else bad
noncomputable def spTV (K : PySem.W.Frag) (mg : Str → Option Value) (mf : MTV) : Sp := fun vs H Q _ => ∃ O w p t u ds us r S', vs = u :: us ∧ Dom O H ∧ (w = .out ∨ ∃ i, w = .loc i) ∧ TreeR K mg O H w p t u ∧ RepAll K mg O H ds us ∧ (mf t ds).run [] = .ok r S' ∧
  ∀ O' v H', Go O O' H H' → Dom O' H' → S' = [] → RepR K mg O' H' r v → NewR H r v → Q v H'
theorem tv_ok {P : Program} {w : World} {K : PySem.W.Frag} {mg : Str → Option Value} {base : Heap} {x qual : Str} {st : Stmt} {ps N : List Str} {k : Nat} {mb : MS} {f : Addr} {fd : FuncData} {n nl : Nat} (F : Fun K x qual st f fd) (Sc : FnScope N ps (defScope st)) (hn : ps.length = n) (hl : N.length = nl)
    (hb : ∀ (cdv : Value) (A : Around) (outer : List Env) (s : Shared) (H : Hp) (E : XK), Room k (A.deeper (PyProof.Rows.envOfC qual (defScope st) s.heap.objs.size f cdv)) →
      CSs (cxOf CX0 P w K mg base N qual (defScope st) f cdv A outer s H E).nox (defBody st) mb) : FnOk P w K mg base CX0 (k + 1) f fd ps (spTV K mg (fnTV n nl mb)) := by
  subst hn hl
  have flen : ∀ {t : Tr} {ds : List D} {r : R} {S S' : Store}, (fnTV ps.length N.length mb t ds).run S = .ok r S' → 1 + ds.length = ps.length := fun {t ds r S S'} h => by
    unfold fnTV at h
    by_cases c : 1 + ds.length = ps.length
    · exact c
    · rw [if_neg c] at h; cases h
  refine F.ok Sc ?_ ?_
  · rintro vs H Q E ⟨O, w', p, t, u, ds, us, r, S', rfl, dm, hw, tr, ra, h, q⟩
    have := flen h
    rw [List.length_cons, ra.len]; omega
  rintro cdv A outer s H vs Q E hr ⟨O, w', p, t, u, ds, us, r, S', rfl, dm, hw, tr, ra, h, q⟩
  refine ⟨_, hb cdv A outer s H E hr, ?_⟩
  have hlen := flen h
  have hlv := ra.len
  unfold fnTV at h
  rw [if_pos hlen] at h
  obtain ⟨fl, S1, h1, h⟩ := M.inv h
  have st0 : S3 K mg (blk O) (.tr .view t :: ds.map .val ++ List.replicate (N.length - ps.length) .emp) [] (L2.start N (u :: us)) H := by
    refine ⟨⟨fun a ha => dm.has a fun z => ha (blk_free.mpr z), dm.tabs⟩, ?_, fun i s e => ?_, rfl⟩
    · unfold L2.start
      simp only [List.length_append, List.length_cons, List.length_map, List.length_replicate, hlv]
      omega
    · unfold L2.start
      cases i with
      | zero =>
        cases e
        refine ⟨u, rfl, TreeR.allP (w' := .out) (p' := []) (fun _ _ z => Rep.fre (blk_fre O) z) t (fun b u r ob hb _ => ⟨?_, hb⟩) tr⟩
        show blk O b = .out
        unfold blk
        rcases hw with rfl | ⟨i, rfl⟩ <;> rw [ob] <;> rfl
      | succ j =>
        have e : (ds.map Slot.val ++ List.replicate (N.length - ps.length) Slot.emp)[j]? = some s := e
        show SlotR K mg (blk O) H _ s ((us.map some ++ List.replicate (N.length - (u :: us).length) none)[j]?.join)
        by_cases hj : j < ds.length
        · rw [List.getElem?_append_left (by rw [List.length_map]; exact hj), List.getElem?_map] at e
          cases ed : ds[j]? with
          | none => rw [ed] at e; cases e
          | some d =>
            rw [ed] at e
            cases e
            obtain ⟨v, ev, rv⟩ := ra.get ed
            rw [List.getElem?_append_left (by rw [List.length_map, hlv]; exact hj), List.getElem?_map, ev]
            exact ⟨v, rfl, rv.fre (blk_fre O)⟩
        · rw [List.getElem?_append_right (by rw [List.length_map]; omega), List.getElem?_replicate] at e
          split at e
          · cases e; exact trivial
          · cases e
  have old : ∀ b, H b ≠ none → blk O b = .free ∨ blk O b = .out := fun b _ => blk_cases O b
  have back : ∀ {O' : Ow} {H' : Hp}, Gs (blk O) O' H H' → Dom O' H' → ∃ O2 : Ow, Go O O2 H H' ∧ Dom O2 H' ∧ Fre O' O2 ∧ ∀ b, (O' b = .tmp ∨ ∃ i, O' b = .loc i) → H b = none ∧ O2 b = .tmp := fun {O' H'} g d => by
    refine ⟨fun b => match H b with | some _ => O b | none => (match O' b with | .loc _ => .tmp | o => o), ⟨⟨fun b o e n => g.cells b o e ((old b (by rw [e]; intro z; cases z)).elim .inl fun z => .inr (.inl z)) n, g.tb, g.gd⟩, fun b hb => ?_⟩, ⟨fun b hb => ?_, d.tabs⟩, ⟨fun b hb => ?_⟩, fun b hb => ?_⟩
    · cases e : H b with
      | none => exact absurd e hb
      | some o => rfl
    · cases e : H b with
      | some o => exact g.has b (by rw [e]; intro z; cases z)
      | none =>
        rw [e] at hb
        refine d.has b fun z => hb ?_
        dsimp only
        rw [z]
    · cases e : H b with
      | some o =>
        dsimp only
        have := (g.own b (by rw [e]; intro z; cases z) (blk_cases O b)).symm.trans hb
        exact blk_free.mp this
      | none =>
        dsimp only
        rw [hb]
    · have hn : H b = none := by
        cases e : H b with
        | none => rfl
        | some o =>
          exfalso
          have q1 := g.own b (by rw [e]; intro z; cases z) (blk_cases O b)
          rcases blk_cases O b with z | z <;> rw [z] at q1 <;> rcases hb with w | ⟨i, w⟩ <;> rw [q1] at w <;> cases w
      refine ⟨hn, ?_⟩
      dsimp only
      rw [hn]
      rcases hb with w | ⟨i, w⟩ <;> rw [w]
  refine ⟨blk O, _, [], fl, S1, st0, h1, ?_⟩
  cases fl with
  | nx σ' =>
    cases h
    intro O' σV' H' g st' _
    obtain ⟨O2, g2, d2, f2, _⟩ := back g st'.dom
    exact q O2 .non H' g2 d2 st'.emp rfl trivial
  | bk σ' => cases h
  | ct σ' => cases h
  | rt r' =>
    intro O' v H' g d eS rr
    obtain ⟨O2, g2, d2, f2, t2⟩ := back g d
    cases r' with
    | v dd => cases h; exact q O2 v H' g2 d2 eS (Rep.fre f2 rr) trivial
    | fr xs =>
      cases h
      obtain ⟨a, ys, rfl, l, t, ra⟩ := rr
      obtain ⟨hn, ht⟩ := t2 a t
      exact q O2 _ H' g2 d2 eS ⟨a, ys, rfl, l, ht, ra.fre f2⟩ fun b eb => by cases eb; exact hn
    | vw xs => exact False.elim rr
    | mv xs => exact False.elim rr
    | dv _ => exact False.elim rr
theorem hasM_tv {P : Program} {w : World} {K : PySem.W.Frag} {mg : Str → Option Value} {base : Heap} {c m qual : Str} {st : Stmt} {ps N : List Str} {k : Nat} {mb : MS} {n nl : Nat} (Df : DfM K mg c m qual st ps) (Sc : FnScope N ps (defScope st)) (hn : ps.length = n) (hl : N.length = nl)
    (hb : ∀ (f : Addr) (cdv : Value) (A : Around) (outer : List Env) (s : Shared) (H : Hp) (E : XK), Room k (A.deeper (PyProof.Rows.envOfC qual (defScope st) s.heap.objs.size f cdv)) →
      CSs (cxOf CX0 P w K mg base N qual (defScope st) f cdv A outer s H E).nox (defBody st) mb) : HasM P w K mg base c m ps (k + 1) (spTV K mg (fnTV n nl mb)) := by
  obtain ⟨C, f, fd, mc, cl, me, F, b⟩ := Df.ex
  exact ⟨C, f, fd, mc, cl, me, tv_ok F Sc hn hl (fun cdv => hb f cdv), b⟩
/-! ### defs that return a new tree -/
noncomputable abbrev MTM := List D → M Tr
noncomputable def tsTr (K : PySem.W.Frag) (mg : Str → Option Value) (j : Nat) (m : MS) : TS := fun Dn σV H => ∃ O σ S σ' S' t, S3 K mg O σ S σV H ∧ (m σ).run S = .ok (.nx σ') S' ∧ σ'[j]? = some (.tr .own t) ∧ ∀ O' v H', Gs O O' H H' → Dom O' H' → S' = [] → TreeR K mg O' H' (.loc j) [] t v → Dn.rt v H'
noncomputable abbrev CSt (X : Cx) (j : Nat) (sts : List Stmt) (m : MS) : Prop := PSs X sts (tsTr X.K X.mg j m)
theorem cst_ret {X : Cx} {pos p : Pos} (i : Nat) {x : Str} (hN : X.N[i]? = some x := by rfl) (hv : Vis X.env.scope x := by first | exact Or.inl rfl | exact Or.inr (Or.inl rfl) | exact Or.inr (Or.inr rfl)) (hd : (x == ("__debug__" : Str)) = false := by decide)
    (hcd : (x == ("__classdict__" : Str)) = false := by decide) : CSt X i [.Return (some (.Name x p)) pos] cPass := pss_imp (pss_one (ps_ret (pe_var hN hv hd hcd))) <| by
  rintro D σV H ⟨O, σ, S, σ', S', t, st, h, e, q⟩
  cases h
  obtain ⟨v, e1, r⟩ := st.loc i _ e
  refine ⟨v, ?_, q O v H (Gs.refl _ _) st.dom st.emp r⟩
  cases w : σV[i]? with
  | none => rw [w] at e1; cases e1
  | some y => rw [w] at e1; exact congrArg some e1
theorem cst_cons {X : Cx} {st : Stmt} {rest : List Stmt} {a b : MS} {j : Nat} (h1 : CS X st a) (h2 : CSt X j rest b) : CSt X j (st :: rest) (cSeq a b) := pss_imp (pss_cons h1 h2) <| by
  rintro D σV H ⟨O, σ, S, σ', S', t, st, h, e, q⟩
  obtain ⟨f1, S1, h1, h⟩ := M.inv h
  refine ⟨O, σ, S, f1, S1, st, h1, ?_⟩
  cases f1 with
  | nx σ1 => exact fun O1 σV1 H1 g1 st1 k1 => ⟨O1, σ1, S1, σ', S', t, st1, h, e, fun O' v H' g d eS r => q O' v H' (g1.trans g) d eS r⟩
  | rt r => cases h
  | bk σ1 => cases h
  | ct σ1 => cases h
noncomputable def fnTM (n N j : Nat) (b : MS) : MTM := fun ds => if ds.length = n then do
    let fl ← b (ds.map .val ++ List.replicate (N - n) .emp)
    match fl with
    | .nx σ' => (match σ'[j]? with
      | some (.tr .own t) => pure t
      | _ => bad)
    | _ => bad
  else bad
noncomputable def spTM (K : PySem.W.Frag) (mg : Str → Option Value) (mf : MTM) : Sp := fun vs H Q _ => ∃ O j p ds t S', Dom O H ∧ RepAll K mg O H ds vs ∧ (mf ds).run [] = .ok t S' ∧ ∀ O' v H', Go O O' H H' → Dom O' H' → S' = [] → TreeR K mg O' H' (.loc j) p t v → Q v H'
theorem has_tm {P : Program} {w : World} {K : PySem.W.Frag} {mg : Str → Option Value} {base : Heap} {x : Str} {st : Stmt} {ps N : List Str} {k : Nat} {mb : MS} {n nl jr : Nat} (Df : Df K mg x st ps) (Sc : FnScope N ps (defScope st)) (hn : ps.length = n) (hl : N.length = nl)
    (hb : ∀ (f : Addr) (cdv : Value) (A : Around) (outer : List Env) (s : Shared) (H : Hp) (E : XK), Room k (A.deeper (PyProof.Rows.envOfC x (defScope st) s.heap.objs.size f cdv)) →
      CSt (cxOf CX0 P w K mg base N x (defScope st) f cdv A outer s H E).nox jr (defBody st) mb) : Has P w K mg base x ps (k + 1) (spTM K mg (fnTM n nl jr mb)) := by
  subst hn hl
  obtain ⟨f, fd, F, bd, m⟩ := Df.ex
  have flen : ∀ {ds : List D} {t : Tr} {S S' : Store}, (fnTM ps.length N.length jr mb ds).run S = .ok t S' → ds.length = ps.length := fun {ds t S S'} h => by
    unfold fnTM at h
    by_cases c : ds.length = ps.length
    · exact c
    · rw [if_neg c] at h; cases h
  refine ⟨f, fd, F.ok Sc ?_ ?_, bd, F.kp, m⟩
  · rintro vs H Q E ⟨O, j, p, ds, t, S', dm, ra, h, q⟩
    rw [ra.len]; exact flen h
  rintro cdv A outer s H vs Q E hr ⟨O, j, p, ds, t, S', dm, ra, h, q⟩
  refine ⟨_, hb f cdv A outer s H E hr, ?_⟩
  have hlen := flen h
  have hlv := ra.len
  unfold fnTM at h
  rw [if_pos hlen] at h
  obtain ⟨fl, S1, h1, h⟩ := M.inv h
  have st0 : S3 K mg (blk O) (ds.map .val ++ List.replicate (N.length - ps.length) .emp) [] (L2.start N vs) H := by
    refine ⟨⟨fun a ha => dm.has a fun z => ha (blk_free.mpr z), dm.tabs⟩, ?_, fun j s e => ?_, rfl⟩
    · unfold L2.start
      simp only [List.length_append, List.length_map, List.length_replicate]
      omega
    · unfold L2.start
      by_cases hj : j < ds.length
      · rw [List.getElem?_append_left (by rw [List.length_map]; exact hj), List.getElem?_map] at e
        cases ed : ds[j]? with
        | none => rw [ed] at e; cases e
        | some d =>
          rw [ed] at e
          cases e
          obtain ⟨v, ev, rv⟩ := ra.get ed
          rw [List.getElem?_append_left (by rw [List.length_map, hlv]; exact hj), List.getElem?_map, ev]
          exact ⟨v, rfl, rv.fre (blk_fre O)⟩
      · rw [List.getElem?_append_right (by rw [List.length_map]; omega), List.getElem?_replicate] at e
        split at e
        · cases e; exact trivial
        · cases e
  cases fl with
  | bk σ' => cases h
  | ct σ' => cases h
  | rt r' => cases h
  | nx σ' =>
    dsimp only at h
    split at h
    · rename_i t' et
      cases h
      refine ⟨blk O, _, [], σ', _, t, st0, h1, et, fun O' v H' g d eS tr => ?_⟩
      let O2 : Ow := fun b => match H b with | some _ => O b | none => (match O' b with | .tr i r => (if i = jr then .tr j (p ++ r) else .tmp) | .free => .free | _ => .tmp)
      have o2o : ∀ {b : Addr}, H b ≠ none → O2 b = O b := fun {b} hb => by
        show (match H b with | some _ => O b | none => _) = O b
        cases e : H b with
        | none => exact absurd e hb
        | some o => rfl
      have o2n : ∀ {b : Addr}, H b = none → O2 b = (match O' b with | .tr i r => (if i = jr then .tr j (p ++ r) else .tmp) | .free => .free | _ => .tmp) := fun {b} hb => by
        show (match H b with | some _ => O b | none => _) = _
        rw [hb]
      have old : ∀ {b : Addr}, H b ≠ none → O' b = blk O b := fun {b} hb => g.own b hb (blk_cases O b)
      have fre : Fre O' O2 := ⟨fun b hb => by
        by_cases hn : H b = none
        · rw [o2n hn, hb]
        · rw [o2o hn]; exact blk_free.mp ((old hn).symm.trans hb)⟩
      refine q O2 v H' ⟨⟨fun b o e n => g.cells b o e ((blk_cases O b).elim .inl fun z => .inr (.inl z)) n, g.tb, g.gd⟩, fun b hb => o2o hb⟩ ⟨fun b hb => ?_, d.tabs⟩ eS (TreeR.allP (fun _ _ z => Rep.fre fre z) t (fun b o r ob hb _ => ⟨?_, hb⟩) tr)
      · by_cases hn : H b = none
        · rw [o2n hn] at hb
          exact d.has b fun z => hb (by rw [z])
        · exact g.has b hn
      · have ob : O' b = .tr jr r := ob
        have hn : H b = none := by
          cases e : H b with
          | none => rfl
          | some o =>
            exfalso
            have := old (b := b) (by rw [e]; intro z; cases z)
            rw [ob] at this
            rcases blk_cases O b with z | z <;> rw [z] at this <;> cases this
        rw [o2n hn, ob]
        exact if_pos rfl
    · cases h
end L3

set_option Elab.async false
set_option linter.all false
set_option maxRecDepth 100000
set_option maxHeartbeats 1000000
namespace L3
open PySem PySem.Spec L2
variable [L2.TabP]
/-! ### calls of methods by name -/
noncomputable def tMethN (mg : Str → Option Value) (c m : Str) (sp : Sp) (ta : TE) (t : TA) : TE := fun σ H Q => ta σ H fun x H1 => ∃ a C dx fs, x = .ref a ∧ mg c = some (.ref C) ∧ H1 a = some (.ins C dx fs) ∧ fs.lookup m = none ∧ t σ H1 fun vs H2 => sp (x :: vs) H2 Q E0
/-- what a TE asks is asked of less -/
noncomputable def UpE (t : TE) : Prop := ∀ σ H Q Q', (∀ v H', Q v H' → Q' v H') → t σ H Q → t σ H Q'
theorem upE_tp {K : PySem.W.Frag} {mg : Str → Option Value} {m : MP} : UpE (tpOf K mg m) := fun σV H Q Q' i ⟨O, σ, S, x, S', st, h, q⟩ => ⟨O, σ, S, x, S', st, h, fun O' v H' g s p => i _ _ (q O' v H' g s p)⟩
section
variable {X : Cx} {c m : Str} {ps : List Str} {k : Nat} {sp : Sp} {o e : Expr} {es : List Expr} {ta : TE} {t : TA} {apos pos : Pos}
theorem pe_methN {pl : Sem Bool} (h : HasM X.prog X.w X.K X.mg X.base c m ps k sp) (hr : Room k X.A) (up : UpE ta) (he : PE X o ta) (ha : PA X (e :: es) t)
    (hst : starEach (e :: es) X.env = (false, eval e X.env) :: starEach es X.env := by rfl) (hpl : (backTo pos (starEach es X.env)).any (·.1) = false := by rfl)
    (ht : eval (.Call (.Attribute o m apos) (e :: es) [] pos) X.env = (do
      let ov ← eval o X.env
      standAt apos.atName
      let (f, first) ← holding [ov] (getMethod ov m pl)
      callWith pos f first (backTo pos (starEach (e :: es) X.env)) (backToKw pos (keywordEach [] X.env))) := by rfl) :
    PE X (.Call (.Attribute o m apos) (e :: es) [] pos) (tMethN X.mg c m sp ta t) := by
  obtain ⟨C, f, fd, mc, cl, me, F, b⟩ := h.ex
  refine pe_imp (pe_meth (dvs := []) (ds := []) he cl me F hr b .nil pass0 ha hst hpl ht) fun σ H Q hq => up _ _ _ _ (fun v H1 z => ?_) hq
  obtain ⟨a, C', dx, fs, ev, mc', hH, hl, z⟩ := z
  rw [mc] at mc'
  cases mc'
  refine ⟨a, dx, fs, ev, hH, hl, ?_⟩
  simpa only [List.append_nil] using z
theorem pe_methN0 {pl : Sem Bool} (h : HasM X.prog X.w X.K X.mg X.base c m ps k sp) (hr : Room k X.A) (up : UpE ta) (he : PE X o ta)
    (ht : eval (.Call (.Attribute o m apos) [] [] pos) X.env = (do
      let ov ← eval o X.env
      standAt apos.atName
      let (f, first) ← holding [ov] (getMethod ov m pl)
      callWith pos f first (backTo pos (starEach [] X.env)) (backToKw pos (keywordEach [] X.env))) := by rfl) :
    PE X (.Call (.Attribute o m apos) [] [] pos) (tMethN X.mg c m sp ta tNil) := by
  obtain ⟨C, f, fd, mc, cl, me, F, b⟩ := h.ex
  refine pe_imp (pe_meth0 (dvs := []) (ds := []) he cl me F hr b .nil pass0 ht) fun σ H Q hq => up _ _ _ _ (fun v H1 z => ?_) hq
  obtain ⟨a, C', dx, fs, ev, mc', hH, hl, z⟩ := z
  rw [mc] at mc'
  cases mc'
  exact ⟨a, dx, fs, ev, hH, hl, z⟩
end
omit [L2.TabP] in
theorem zip_look_none {α β : Type} [BEq α] [LawfulBEq α] {f : α} : ∀ {ks : List α} {ys : List β}, f ∉ ks → (ks.zip ys).lookup f = none
  | [], _, _ => by simp
  | _ :: _, [], _ => by simp
  | k :: ks, y :: ys, h => by
    have ne : (f == k) = false := by
      have : ¬ f = k := fun e => h (by rw [e]; exact List.mem_cons_self ..)
      simpa using this
    rw [List.zip_cons_cons, List.lookup_cons, ne]
    exact zip_look_none fun z => h (List.mem_cons_of_mem _ z)
theorem ow_of {m : TM} {w : Own} (h : m ≠ .view) : m.ow w = w := by
  cases m with
  | view => exact absurd rfl h
  | own => rfl
  | par => rfl
/-! ### o.m(..) in an expression, where m only looks -/
noncomputable def cTV (mp : MP) (c : Str) (A : List Str) (mf : MTV) (ms : MA) : ME := fun σ => do
  let x ← mp σ
  let rs ← ms σ
  let ds ← dats rs
  match x.t with
  | .ob c' ns ts => if c' = c ∧ ns = A then mf (.ob c ns ts) ds else bad
  | _ => bad
section
variable {X : Cx} {c m : Str} {ps : List Str} {k : Nat} {o e : Expr} {es : List Expr} {apos pos pos' : Pos} {mp : MP} {mf : MTV} {mr : MTR} {ms : MA} {A : List Str}
theorem tv_read (hA : m ∉ A) : ∀ σV H Q, teOf X.K X.mg (cTV mp c A mf ms) σV H Q → tMethN X.mg c m (spTV X.K X.mg mf) (tpOf X.K X.mg mp) (taOf X.K X.mg ms) σV H Q := by
  rintro σV H Q ⟨O, σ, S, r, S', st, h, q⟩
  obtain ⟨x, S1, h1, h⟩ := M.inv h
  obtain ⟨rs, S2, h2, h⟩ := M.inv h
  obtain ⟨ds, S3', h3, h⟩ := M.inv h
  split at h
  · rename_i c' ns ts et
    by_cases cc : c' = c ∧ ns = A
    · rw [if_pos cc] at h
      obtain ⟨rfl, rfl⟩ := cc
      refine ⟨O, σ, S, x, S1, st, h1, fun O1 v H1 g1 st1 pr => ?_⟩
      have tr := pr.tree st1
      rw [et] at tr
      obtain ⟨a, C, dx, ys, ev, o, l, hq, ra⟩ := id tr
      subst ev
      refine ⟨a, C, dx, _, rfl, hq.2.2.1, l, zip_look_none hA, O1, σ, S1, rs, S2, st1, h2, fun O2 vs H2 g2 st2 rr nn => ?_⟩
      obtain ⟨rd, rfl⟩ := dats_rep (H₀ := H1) rr nn h3
      have st2' := st2.frz H1
      have eS := st2'.emp
      subst eS
      have g12 : Go O1 (frz H1 O2) H1 H2 := g2.frz
      refine ⟨frz H1 O2, _, x.p, _, .ref a, ds, vs, r, S', rfl, st2'.dom, ?_, tr.go g12, rd, h, fun O' v H' g d eS r' n' => ?_⟩
      · cases x.m with
        | view => exact .inl rfl
        | own => exact .inr ⟨_, rfl⟩
        | par => exact .inr ⟨_, rfl⟩
      · subst eS
        exact q O' v H' ((g1.trans g12).trans g) (st2'.go g d) r' (n'.back (g1.trans g12).same)
    · rw [if_neg cc] at h; cases h
  · cases h
theorem ce_tv {pl : Sem Bool} (h : HasM X.prog X.w X.K X.mg X.base c m ps k (spTV X.K X.mg mf)) (A : List Str) (hr : Room k X.A) (he : CP X o mp) (ha : CA X (e :: es) ms) (hA : m ∉ A := by decide +kernel)
    (hst : starEach (e :: es) X.env = (false, eval e X.env) :: starEach es X.env := by rfl) (hpl : (backTo pos (starEach es X.env)).any (·.1) = false := by rfl)
    (ht : eval (.Call (.Attribute o m apos) (e :: es) [] pos) X.env = (do
      let ov ← eval o X.env
      standAt apos.atName
      let (f, first) ← holding [ov] (getMethod ov m pl)
      callWith pos f first (backTo pos (starEach (e :: es) X.env)) (backToKw pos (keywordEach [] X.env))) := by rfl) :
    CE X (.Call (.Attribute o m apos) (e :: es) [] pos) (cTV mp c A mf ms) := pe_imp (pe_methN h hr upE_tp he ha hst hpl ht) (tv_read hA)
theorem ce_tv0 {pl : Sem Bool} (h : HasM X.prog X.w X.K X.mg X.base c m ps k (spTV X.K X.mg mf)) (A : List Str) (hr : Room k X.A) (he : CP X o mp) (hA : m ∉ A := by decide +kernel)
    (ht : eval (.Call (.Attribute o m apos) [] [] pos) X.env = (do
      let ov ← eval o X.env
      standAt apos.atName
      let (f, first) ← holding [ov] (getMethod ov m pl)
      callWith pos f first (backTo pos (starEach [] X.env)) (backToKw pos (keywordEach [] X.env))) := by rfl) :
    CE X (.Call (.Attribute o m apos) [] [] pos) (cTV mp c A mf cNil) := pe_imp (pe_methN0 h hr upE_tp he ht) fun σV H Q hq => upE_tp _ _ _ _ (fun v H1 ⟨a, C, dx, fs, e1, e2, e3, e4, O, σ, S, rs, S', st, h, q⟩ => by
      cases h
      exact ⟨a, C, dx, fs, e1, e2, e3, e4, q O [] H1 (Go.refl _ _) st rfl trivial⟩) (tv_read (X := X) (m := m) hA σV H Q hq)
/-! ### o.m(..) as a statement, where m changes o -/
noncomputable def put1 (f : Tr → Fl) : List Tr → M Fl
  | [t] => pure (f t)
  | _ => bad
noncomputable def put2 (f : Tr → Tr → Fl) : List Tr → M Fl
  | [t, s] => pure (f t s)
  | _ => bad
noncomputable def cTM (mp : MP) (c : Str) (A : List Str) (mf : MTR) (ms : MA) : MS := fun σ => do
  let x ← mp σ
  let rs ← ms σ
  let ds ← dats rs
  match x.t, σ[x.i]? with
  | .ob c' ns ts, some (.tr md t0) => if (c' = c ∧ ns = A) ∧ md ≠ .view then mf [.ob c ns ts] ds >>= put1 (fun s' => .nx (σ.set x.i (.tr md (Tr.put x.p t0 s')))) else bad
  | _, _ => bad
theorem tm_read (hA : m ∉ A) : ∀ D σV H, tsOf X.K X.mg (cTM mp c A mr ms) D σV H → tDrop (tMethN X.mg c m (spTR X.K X.mg mr) (tpOf X.K X.mg mp) (taOf X.K X.mg ms)) D σV H := by
  rintro D σV H ⟨O, σ, S, fl, S', st, h, q⟩
  obtain ⟨x, S1, h1, h⟩ := M.inv h
  obtain ⟨rs, S2, h2, h⟩ := M.inv h
  obtain ⟨ds, S3', h3, h⟩ := M.inv h
  split at h
  · rename_i c' ns ts md t0 et e0
    by_cases cc : (c' = c ∧ ns = A) ∧ md ≠ .view
    · rw [if_pos cc] at h
      obtain ⟨ts', S4, h4, h⟩ := M.inv h
      unfold put1 at h
      split at h
      · rename_i s'
        cases h
        obtain ⟨⟨rfl, rfl⟩, cm⟩ := cc
        refine ⟨O, σ, S, x, S1, st, h1, fun O1 v H1 g1 st1 pr => ?_⟩
        have em : md = x.m := by obtain ⟨t1, _, e1, _⟩ := pr; rw [e0] at e1; cases e1; rfl
        subst em
        have tr := pr.tree st1
        rw [et, ow_of cm] at tr
        obtain ⟨a, C, dx, ys, ev, o, l, hq, ra⟩ := id tr
        subst ev
        refine ⟨a, C, dx, _, rfl, hq.2.2.1, l, zip_look_none hA, O1, σ, S1, rs, S2, st1, h2, fun O2 vs H2 g2 st2 rr nn => ?_⟩
        obtain ⟨rd, rfl⟩ := dats_rep (H₀ := H1) rr nn h3
        have st2' := st2.frz H1
        have eS := st2'.emp
        subst eS
        have g12 : Go O1 (frz H1 O2) H1 H2 := g2.frz
        have tr2 := tr.go g12
        have pr2 := pr.go g12
        refine ⟨frz H1 O2, [(x.i, x.p)], [_], ds, [.ref a], vs, [s'], _, rfl, st2'.dom, ⟨rfl, rfl⟩, List.nodup_cons.mpr ⟨by simp, List.nodup_nil⟩, ?_, rd, h4, fun O' H' gT d eS hl rts => ?_⟩
        · intro k r hk
          cases k with
          | zero => cases hk; exact ⟨_, _, rfl, rfl, tr2⟩
          | succ k => simp at hk
        · subst eS
          obtain ⟨t1, u1, e1, e2, tr'⟩ := rts 0 (x.i, x.p) rfl
          cases e1
          cases e2
          have hlt : x.i < σ.length := (List.getElem?_eq_some_iff.mp e0).1
          refine q O' σV H' ((g1.trans g12).gs.trans gT.gs) (st2'.goT gT d (List.length_set ..) fun j s e => ?_) (Kp.put e0 (fun xs z => by cases z) (fun xs z => by cases z) fun m t z hn => by cases z; exact ⟨cm, _, rfl⟩)
          by_cases hj : x.i = j
          · subst hj
            rw [List.getElem?_set_self hlt] at e
            cases e
            refine .inr ?_
            obtain ⟨t1, v0, e1, e2, e3, e4⟩ := pr2
            rw [e0] at e1
            cases e1
            obtain ⟨v1, ev, r⟩ := st2'.loc _ _ e0
            rw [e3] at ev
            cases ev
            refine ⟨v0, e3, ?_⟩
            rw [ow_of cm] at r ⊢
            obtain ⟨v', pv, rs, rb⟩ := r.split e2
            cases e4.det pv
            refine rb O' H' s' (fun _ _ z => Rep.gs gT.gs z) (fun b o r hr ob hb n => ?_) tr'
            have nw : ¬ WOw (Un [(x.i, x.p)]) (frz H1 O2 b) := by
              rintro ⟨i, p', e, P, hP, hp⟩
              rw [show frz H1 O2 b = .tr x.i r from ob] at e
              cases e
              rw [List.mem_singleton] at hP
              cases hP
              exact hr hp
            exact ⟨(gT.own b (by rw [hb]; intro z; cases z) nw).trans ob, gT.cells b o hb (.inl nw) n⟩
          · rw [List.getElem?_set_ne hj] at e
            refine .inl ⟨e, fun r ⟨P, hP, _⟩ => ?_⟩
            rw [List.mem_singleton] at hP
            cases hP
            exact hj rfl
      · cases h
    · rw [if_neg cc] at h; cases h
  · cases h
theorem cs_tm {pl : Sem Bool} (h : HasM X.prog X.w X.K X.mg X.base c m ps k (spTR X.K X.mg mr)) (A : List Str) (hr : Room k X.A) (he : CP X o mp) (ha : CA X (e :: es) ms) (hA : m ∉ A := by decide +kernel)
    (hst : starEach (e :: es) X.env = (false, eval e X.env) :: starEach es X.env := by rfl) (hpl : (backTo pos (starEach es X.env)).any (·.1) = false := by rfl)
    (ht : eval (.Call (.Attribute o m apos) (e :: es) [] pos) X.env = (do
      let ov ← eval o X.env
      standAt apos.atName
      let (f, first) ← holding [ov] (getMethod ov m pl)
      callWith pos f first (backTo pos (starEach (e :: es) X.env)) (backToKw pos (keywordEach [] X.env))) := by rfl)
    (hsw : swapsWith (.Call (.Attribute o m apos) (e :: es) [] pos) none pos'.line X.env = pure false := by rfl) :
    CS X (.Expr (.Call (.Attribute o m apos) (e :: es) [] pos) pos') (cTM mp c A mr ms) := ps_imp (ps_expr (pe_methN h hr upE_tp he ha hst hpl ht) hsw) (tm_read hA)
end
/-! ### f(x, ..), f(x, y, ..) as statements, where f changes the trees x, y -/
noncomputable def cTR1 (i : Nat) (mf : MTR) (ms : MA) : MS := fun σ => do
  let rs ← ms σ
  let ds ← dats rs
  match σ[i]? with
  | some (.tr m t) => if m ≠ .view then mf [t] ds >>= put1 (fun t' => .nx (σ.set i (.tr m t'))) else bad
  | _ => bad
noncomputable def cTR2 (i j : Nat) (mf : MTR) (ms : MA) : MS := fun σ => do
  let rs ← ms σ
  let ds ← dats rs
  match σ[i]?, σ[j]? with
  | some (.tr m t), some (.tr n s) => if m ≠ .view ∧ n ≠ .view then mf [t, s] ds >>= put2 (fun t' s' => .nx ((σ.set i (.tr m t')).set j (.tr n s'))) else bad
  | _, _ => bad
section
variable {X : Cx} {x y z : Str} {ps : List Str} {k i j : Nat} {mr : MTR} {p p1 p2 pos pos' : Pos} {es : List Expr} {ms : MA}
theorem var_at {σV : St} {i : Nat} {v : V} (e1 : σV[i]?.join = some v) : σV[i]? = some (some v) := by
  cases w : σV[i]? with
  | none => rw [w] at e1; cases e1
  | some y => rw [w] at e1; exact congrArg some e1
theorem cs_tr1 (h : Has X.prog X.w X.K X.mg X.base x ps k (spTR X.K X.mg mr)) (hr : Room k X.A) (hg : Gl X x) (ha : CA X es ms) (hN : X.N[i]? = some y) (hv : Vis X.env.scope y)
    (hd : (y == ("__debug__" : Str)) = false := by decide) (hcd : (y == ("__classdict__" : Str)) = false := by decide) (hdb : (x == ("__debug__" : Str)) = false := by decide)
    (he : starEach (.Name y p1 :: es) X.env = (false, eval (.Name y p1) X.env) :: starEach es X.env := by rfl) (hpl : (backTo pos (starEach es X.env)).any (·.1) = false := by rfl)
    (hs : swapsWith (.Call (.Name x p) (.Name y p1 :: es) [] pos) none pos'.line X.env = pure false := by rfl) : CS X (.Expr (.Call (.Name x p) (.Name y p1 :: es) [] pos) pos') (cTR1 i mr ms) :=
  ps_imp (ps_expr (pe_fn h hr hg (pa_cons (pe_var hN hv hd hcd) ha he) hdb he hpl) hs) fun D σV H ⟨O, σ, S, fl, S', st, h, q⟩ => by
    obtain ⟨rs, S1, h1, h⟩ := M.inv h
    obtain ⟨ds, S2, h2, h⟩ := M.inv h
    split at h
    · rename_i m t e0
      by_cases cm : m ≠ .view
      · rw [if_pos cm] at h
        obtain ⟨ts', S4, h4, h⟩ := M.inv h
        unfold put1 at h
        split at h
        · rename_i s'
          cases h
          obtain ⟨v0, e1, tr⟩ := st.loc i _ e0
          rw [ow_of cm] at tr
          refine ⟨v0, var_at e1, O, σ, S, rs, S1, st, h1, fun O1 vs H1 g1 st1 rr nn => ?_⟩
          obtain ⟨rd, rfl⟩ := dats_rep (H₀ := H) rr nn h2
          have st1' := st1.frz H
          have eS := st1'.emp
          subst eS
          refine ⟨frz H O1, [(i, [])], [t], ds, [v0], vs, [s'], _, rfl, st1'.dom, ⟨rfl, rfl⟩, List.nodup_cons.mpr ⟨by simp, List.nodup_nil⟩, ?_, rd, h4, fun O' H' gT d eS hl rts => ?_⟩
          · intro k r hk
            cases k with
            | zero => cases hk; exact ⟨_, _, rfl, rfl, tr.go g1.frz⟩
            | succ k => simp at hk
          · subst eS
            obtain ⟨t1, u1, e1', e2, tr'⟩ := rts 0 (i, []) rfl
            cases e1'
            cases e2
            have hlt : i < σ.length := (List.getElem?_eq_some_iff.mp e0).1
            refine q O' σV H' (g1.frz.gs.trans gT.gs) (st1'.goT gT d (List.length_set ..) fun j s e => ?_) (Kp.put e0 (fun xs z => by cases z) (fun xs z => by cases z) fun m t z hn => by cases z; exact ⟨cm, _, rfl⟩)
            by_cases hj : i = j
            · subst hj
              rw [List.getElem?_set_self hlt] at e
              cases e
              exact .inr ⟨v0, e1, by rw [ow_of cm]; exact tr'⟩
            · rw [List.getElem?_set_ne hj] at e
              refine .inl ⟨e, fun r ⟨P, hP, _⟩ => ?_⟩
              rw [List.mem_singleton] at hP
              cases hP
              exact hj rfl
        · cases h
      · rw [if_neg cm] at h; cases h
    · cases h
theorem cs_tr2 (h : Has X.prog X.w X.K X.mg X.base x ps k (spTR X.K X.mg mr)) (hr : Room k X.A) (hg : Gl X x) (ha : CA X es ms) (hN : X.N[i]? = some y) (hv : Vis X.env.scope y) (hN2 : X.N[j]? = some z) (hv2 : Vis X.env.scope z) (hij : i ≠ j := by decide)
    (hd : (y == ("__debug__" : Str)) = false := by decide) (hcd : (y == ("__classdict__" : Str)) = false := by decide) (hd2 : (z == ("__debug__" : Str)) = false := by decide) (hcd2 : (z == ("__classdict__" : Str)) = false := by decide) (hdb : (x == ("__debug__" : Str)) = false := by decide)
    (he : starEach (.Name y p1 :: .Name z p2 :: es) X.env = (false, eval (.Name y p1) X.env) :: starEach (.Name z p2 :: es) X.env := by rfl) (he2 : starEach (.Name z p2 :: es) X.env = (false, eval (.Name z p2) X.env) :: starEach es X.env := by rfl)
    (hpl : (backTo pos (starEach (.Name z p2 :: es) X.env)).any (·.1) = false := by rfl)
    (hs : swapsWith (.Call (.Name x p) (.Name y p1 :: .Name z p2 :: es) [] pos) none pos'.line X.env = pure false := by rfl) : CS X (.Expr (.Call (.Name x p) (.Name y p1 :: .Name z p2 :: es) [] pos) pos') (cTR2 i j mr ms) :=
  ps_imp (ps_expr (pe_fn h hr hg (pa_cons (pe_var hN hv hd hcd) (pa_cons (pe_var hN2 hv2 hd2 hcd2) ha he2) he) hdb he hpl) hs) fun D σV H ⟨O, σ, S, fl, S', st, h, q⟩ => by
    obtain ⟨rs, S1, h1, h⟩ := M.inv h
    obtain ⟨ds, S2, h2, h⟩ := M.inv h
    split at h
    · rename_i m t n s e0 f0
      by_cases cm : m ≠ .view ∧ n ≠ .view
      · rw [if_pos cm] at h
        obtain ⟨ts', S4, h4, h⟩ := M.inv h
        unfold put2 at h
        split at h
        · rename_i t' s'
          cases h
          obtain ⟨v0, e1, tr⟩ := st.loc i _ e0
          rw [ow_of cm.1] at tr
          obtain ⟨u0, f1, sr⟩ := st.loc j _ f0
          rw [ow_of cm.2] at sr
          refine ⟨v0, var_at e1, u0, var_at f1, O, σ, S, rs, S1, st, h1, fun O1 vs H1 g1 st1 rr nn => ?_⟩
          obtain ⟨rd, rfl⟩ := dats_rep (H₀ := H) rr nn h2
          have st1' := st1.frz H
          have eS := st1'.emp
          subst eS
          refine ⟨frz H O1, [(i, []), (j, [])], [t, s], ds, [v0, u0], vs, [t', s'], _, rfl, st1'.dom, ⟨rfl, rfl⟩, List.nodup_cons.mpr ⟨by simpa using hij, List.nodup_cons.mpr ⟨by simp, List.nodup_nil⟩⟩, ?_, rd, h4, fun O' H' gT d eS hl rts => ?_⟩
          · intro k r hk
            match k, hk with
            | 0, hk => cases hk; exact ⟨_, _, rfl, rfl, tr.go g1.frz⟩
            | 1, hk => cases hk; exact ⟨_, _, rfl, rfl, sr.go g1.frz⟩
            | k + 2, hk => simp at hk
          · subst eS
            obtain ⟨t1, u1, a1, a2, tr'⟩ := rts 0 (i, []) rfl
            cases a1
            cases a2
            obtain ⟨t1, u1, a1, a2, sr'⟩ := rts 1 (j, []) rfl
            cases a1
            cases a2
            have hlt : i < σ.length := (List.getElem?_eq_some_iff.mp e0).1
            have hlt2 : j < (σ.set i (.tr m t')).length := by rw [List.length_set]; exact (List.getElem?_eq_some_iff.mp f0).1
            have f0' : (σ.set i (.tr m t'))[j]? = some (.tr n s) := by rw [List.getElem?_set_ne hij]; exact f0
            refine q O' σV H' (g1.frz.gs.trans gT.gs) (st1'.goT gT d (by rw [List.length_set, List.length_set]) fun l s e => ?_) ((Kp.put e0 (fun xs z => by cases z) (fun xs z => by cases z) fun m t z hn => by cases z; exact ⟨cm.1, _, rfl⟩).trans (Kp.put f0' (fun xs z => by cases z) (fun xs z => by cases z) fun m t z hn => by cases z; exact ⟨cm.2, _, rfl⟩))
            by_cases hj : j = l
            · subst hj
              rw [List.getElem?_set_self hlt2] at e
              cases e
              exact .inr ⟨u0, f1, by rw [ow_of cm.2]; exact sr'⟩
            · rw [List.getElem?_set_ne hj] at e
              by_cases hi : i = l
              · subst hi
                rw [List.getElem?_set_self hlt] at e
                cases e
                exact .inr ⟨v0, e1, by rw [ow_of cm.1]; exact tr'⟩
              · rw [List.getElem?_set_ne hi] at e
                refine .inl ⟨e, fun r ⟨P, hP, _⟩ => ?_⟩
                rcases List.mem_cons.mp hP with z | z
                · cases z; exact hi rfl
                · rw [List.mem_singleton] at z; cases z; exact hj rfl
        · cases h
      · rw [if_neg cm] at h; cases h
    · cases h
end
/-! ### new trees by calls: a def's, a class's -/
noncomputable def vCall (mf : MTM) (ms : MA) : MT := fun σ => do
  let rs ← ms σ
  let ds ← dats rs
  mf ds
noncomputable def vMake (c : Str) (mf : MTR) (ms : MA) : MT := fun σ => do
  let rs ← ms σ
  let ds ← dats rs
  let ts ← mf [.ob c [] []] ds
  match ts with
  | [t] => pure t
  | _ => bad
section
variable {X : Cx} {x : Str} {ps : List Str} {k j : Nat} {q : List Nat} {mf : MTM} {mr : MTR} {p pos : Pos} {e : Expr} {es : List Expr} {ms : MA}
theorem cv_call (h : Has X.prog X.w X.K X.mg X.base x ps k (spTM X.K X.mg mf)) (hr : Room k X.A) (hg : Gl X x) (ha : CA X (e :: es) ms) (hdb : (x == ("__debug__" : Str)) = false := by decide)
    (he : starEach (e :: es) X.env = (false, eval e X.env) :: starEach es X.env := by rfl) (hpl : (backTo pos (starEach es X.env)).any (·.1) = false := by rfl) : CV X j q (.Call (.Name x p) (e :: es) [] pos) (vCall mf ms) :=
  pe_imp (pe_fn h hr hg ha hdb he hpl) fun σV H Q ⟨O, σ, S, t, S', st, h, qq⟩ => by
    obtain ⟨rs, S1, h1, h⟩ := M.inv h
    obtain ⟨ds, S2, h2, h⟩ := M.inv h
    refine ⟨O, σ, S, rs, S1, st, h1, fun O1 vs H1 g1 st1 rr nn => ?_⟩
    obtain ⟨rd, rfl⟩ := dats_rep (H₀ := H) rr nn h2
    have st1' := st1.frz H
    have eS := st1'.emp
    subst eS
    refine ⟨frz H O1, j, q, ds, t, S', st1'.dom, rd, h, fun O' v H' g d eS tr => ?_⟩
    subst eS
    exact qq O' v H' (g1.frz.trans g) (st1'.go g d) tr
theorem cv_make {fs : List Str} (T : ClsT X.K X.mg x fs) (h : HasM X.prog X.w X.K X.mg X.base x "__init__" ps k (spTR X.K X.mg mr)) (hr : Room (k + 1) X.A) (hg : Gl X x) (ha : CA X (e :: es) ms) (hdb : (x == ("__debug__" : Str)) = false := by decide)
    (he : starEach (e :: es) X.env = (false, eval e X.env) :: starEach es X.env := by rfl) (hpl : (backTo pos (starEach es X.env)).any (·.1) = false := by rfl) : CV X j q (.Call (.Name x p) (e :: es) [] pos) (vMake x mr ms) := by
  obtain ⟨C, f, fd, mc, cl, me, F, b⟩ := h.ex
  obtain ⟨C', mc', _, ⟨mk, kp⟩, _⟩ := T.ex
  rw [mc] at mc'
  cases mc'
  refine pe_imp (pe_make (dvs := []) (ds := []) ⟨mk, me.at_, me.fn, kp⟩ F hr hg mc b .nil pass0 ha hdb he hpl) fun σV H Q ⟨O, σ, S, t, S', st, h, qq⟩ => ?_
  obtain ⟨rs, S1, h1, h⟩ := M.inv h
  obtain ⟨ds, S2, h2, h⟩ := M.inv h
  obtain ⟨ts, S3', h3, h⟩ := M.inv h
  split at h
  · rename_i t'
    cases h
    refine ⟨O, σ, S, rs, S1, st, h1, fun O1 vs H1 g1 st1 rr nn a dx ha hdx nad => ?_⟩
    obtain ⟨rd, rfl⟩ := dats_rep (H₀ := H) rr nn h2
    have st1' := st1.frz H
    have eS := st1'.emp
    subst eS
    rw [List.append_nil]
    have sm : Same H1 (upd (upd H1 dx (.own a)) a (.ins C dx [])) := (same_new hdx _).trans (same_new (by rw [upd_ne (Ne.symm nad)]; exact ha) _)
    have goB : Go (blk (frz H O1)) (updO (blk (frz H O1)) a (.tr j q)) H1 (upd (upd H1 dx (.own a)) a (.ins C dx [])) := ⟨sm, fun b hb => updO_ne (by rintro rfl; exact hb ha)⟩
    have nw : ∀ {b : Addr}, b ≠ a → ¬ WOw (Un [(j, q)]) (updO (blk (frz H O1)) a (.tr j q) b) := fun {b} nb => wo_not fun i p z => by
      rw [updO_ne nb] at z
      rcases blk_cases (frz H O1) b with w | w <;> rw [w] at z <;> cases z
    have dom2 : Dom (updO (blk (frz H O1)) a (.tr j q)) (upd (upd H1 dx (.own a)) a (.ins C dx [])) := ⟨fun b hb => by
      by_cases e : b = a
      · rw [e, upd_same]; intro z; cases z
      · rw [updO_ne e] at hb
        exact sm.some (st1'.dom.has b fun z => hb (blk_free.mpr z)), sm.gd st1'.dom.tabs⟩
    refine ⟨updO (blk (frz H O1)) a (.tr j q), [(j, q)], [.ob x [] []], ds, [.ref a], vs, [t], _, rfl, dom2, ⟨rfl, rfl⟩, List.nodup_cons.mpr ⟨by simp, List.nodup_nil⟩, ?_, (rd.fre (blk_fre _)).go goB, h3, fun O3 H3 gT d eS hl rts => ⟨rfl, ?_⟩⟩
    · intro k r hk
      cases k with
      | zero => cases hk; exact ⟨_, _, rfl, rfl, a, C, dx, [], rfl, updO_same, upd_same, ⟨rfl, List.nodup_nil, mc, cl⟩, rfl⟩
      | succ k => simp at hk
    · subst eS
      obtain ⟨t1, u1, a1, a2, tr⟩ := rts 0 (j, q) rfl
      cases a1
      cases a2
      have na : ∀ {b : Addr}, H1 b ≠ none → b ≠ a := fun hb => by rintro rfl; exact hb ha
      let O4 : Ow := fun b => match H1 b with | some _ => frz H O1 b | none => O3 b
      have o4o : ∀ {b : Addr}, H1 b ≠ none → O4 b = frz H O1 b := fun {b} hb => by
        show (match H1 b with | some _ => frz H O1 b | none => O3 b) = _
        cases e : H1 b with
        | none => exact absurd e hb
        | some o => rfl
      have o4n : ∀ {b : Addr}, H1 b = none → O4 b = O3 b := fun {b} hb => by
        show (match H1 b with | some _ => frz H O1 b | none => O3 b) = _
        rw [hb]
      have o3o : ∀ {b : Addr}, H1 b ≠ none → O3 b = blk (frz H O1) b := fun {b} hb => (gT.own b (sm.some hb) (nw (na hb))).trans (updO_ne (na hb))
      have fre : Fre O3 O4 := ⟨fun b hb => by
        by_cases hn : H1 b = none
        · rw [o4n hn, hb]
        · rw [o4o hn]; exact blk_free.mp ((o3o hn).symm.trans hb)⟩
      have some' : ∀ {b : Addr} {o : HO}, H1 b = some o → H1 b ≠ none := fun e z => by rw [e] at z; cases z
      have go : Go (frz H O1) O4 H1 H3 := ⟨⟨fun b o e n => gT.cells b o (sm.at' b o e n) (.inl (nw (na (some' e)))) n, fun b ps e => let ⟨p1, e1⟩ := sm.tb b ps e; gT.tb b p1 e1, fun g => gT.gd (sm.gd g)⟩, fun b hb => o4o hb⟩
      have dm : Dom O4 H3 := ⟨fun b hb => by
        by_cases hn : H1 b = none
        · rw [o4n hn] at hb; exact d.has b hb
        · exact gT.has b (sm.some hn), d.tabs⟩
      refine qq O4 _ H3 (g1.frz.trans go) (st1'.go go dm) (TreeR.allP (fun _ _ z => Rep.fre fre z) t (fun b o r ob hb _ => ⟨?_, hb⟩) tr)
      have ob : O3 b = .tr j (q ++ r) := ob
      have hn : H1 b = none := by
        cases e : H1 b with
        | none => rfl
        | some o =>
          exfalso
          have := o3o (some' e)
          rw [ob] at this
          rcases blk_cases (frz H O1) b with z | z <;> rw [z] at this <;> cases this
      rw [o4n hn]
      exact ob
  · cases h
end
/-! ### what of the text a class has -/
omit [L2.TabP] in
theorem clsT_mk {K : PySem.W.Frag} {h : Heap} {mg : Str → Option Value} {c : Str} {C : Addr} {fs : List Str} (X : K.In h) (G : h.Ns mainGlobals mg) (a : PySem.W.nsIn K mainGlobals c = some (some (.ref C)))
    (pg : PySem.W.plainGet K C Str.empty = true) (hd : PySem.W.hasDictIn K C = true) (po : PySem.W.plainOver K C = true) (sa : PySem.W.findIn K (.ref C) "__setattr__" = some (some (.builtin "object.__setattr__"))) (mk : PySem.W.makesIn K C = true) (kc : PySem.W.keepIn K (.ref C) = true)
    (na : ∀ f ∈ fs, PySem.W.findIn K (.ref C) f = some none) : ClsT K mg c fs := ⟨C, PySem.W.mg_of X G a, ⟨pg, hd, po, sa⟩, ⟨mk, kc⟩, na⟩
omit [L2.TabP] in
theorem dfm_mk {K : PySem.W.Frag} {h : Heap} {mg : Str → Option Value} {c m qual : Str} {C f : Addr} {fs ps : List Str} {st : Stmt} {od an : Option Addr} {sl : Array (Option Value)} {oc kV dc pm cd ct : Value} (X : K.In h) (G : h.Ns mainGlobals mg) (T : ClsT K mg c fs) (a : PySem.W.nsIn K mainGlobals c = some (some (.ref C)))
    (e : PySem.W.findIn K (.ref C) m = some (some (.ref f))) (i : PySem.W.isFn K (.ref f) = true) (l : K.lookup f = some ⟨oc, od, .func (PySem.W.fnOf m qual (defArgs st) (defBody st) (defScope st) .none kV dc pm an cd ct), sl⟩) (cd' : PySem.W.codeIn K cd qual = true) (k : PySem.W.keepIn K (.ref f) = true)
    (hb : ∀ (kV doc pm : Value) (an : Option Addr) (cdv ct : Value) (us : List Value), us.length = ps.length → bindArgs (PySem.W.fnOf m qual (defArgs st) (defBody st) (defScope st) .none kV doc pm an cdv ct) ⟨us, []⟩ = pure (ps.zip us)) : DfM K mg c m qual st ps := by
  obtain ⟨C', h1, h2, _⟩ := T.ex
  have h3 := PySem.W.mg_of X G a
  rw [h1] at h3
  cases h3
  exact ⟨_, f, _, h1, h2, ⟨e, i, k⟩, fun_mk (st := st) l cd' k, (fun_mk (st := st) l cd' k).binds hb⟩
end L3

set_option Elab.async false
set_option linter.all false
set_option maxRecDepth 100000
set_option maxHeartbeats 1000000
namespace L3
open PySem PySem.Spec L2
section
variable [L2.TabP] (X : Cx)
structure WP (e : Expr) (m : MP) : Prop where
  un : CP X e m
structure WV (j : Nat) (p : List Nat) (e : Expr) (m : MT) : Prop where
  un : CV X j p e m
structure WVs (j : Nat) (p : List Nat) (n : Nat) (e : List Expr) (m : MTs) : Prop where
  un : CVs X j p n e m
structure WR (e : Stmt) (m : MS) : Prop where
  un : CR X e m
structure WRs (e : List Stmt) (m : MS) : Prop where
  un : CRs X e m
structure WSt (j : Nat) (e : List Stmt) (m : MS) : Prop where
  un : CSt X j e m
end
section
variable [L2.TabP]
variable {X : Cx} {e k : Expr} {m : MP} {mk : ME} {pos p : Pos}
theorem wp_var (i : Nat) {x : Str} {pos : Pos} (hN : X.N[i]? = some x := by rfl) (hv : Vis X.env.scope x := by first | exact Or.inl rfl | exact Or.inr (Or.inl rfl) | exact Or.inr (Or.inr rfl)) (hd : (x == ("__debug__" : Str)) = false := by decide) (hcd : (x == ("__classdict__" : Str)) = false := by decide) : WP X (.Name x pos) (pVar i) := ⟨cp_var i hN hv hd hcd⟩
end
section
variable [L2.TabP]
variable {X : Cx} {e k : Expr} {m : MP} {mk : ME} {pos p : Pos}
theorem wp_ix (he : WP X e m) (hk : WE X k mk) (hs : PlainIx k) : WP X (.Subscript e k pos) (pIx m mk) := ⟨cp_ix he.un hk.un hs⟩
end
section
variable [L2.TabP]
variable {X : Cx} {e k : Expr} {m : MP} {mk : ME} {pos p : Pos}
theorem wp_dk {key : Str} {j pos'} (n : Nat) (hu : X.A.units + 64 < cLine) (he : WP X e m) : WP X (.Subscript e (.Constant (.str key) j pos') pos) (pDk m n key) := ⟨cp_dk n hu he.un⟩
end
section
variable [L2.TabP]
variable {X : Cx} {e k : Expr} {m : MP} {mk : ME} {pos p : Pos}
theorem wp_at {c f : Str} {fs : List Str} (n : Nat) (T : ClsT X.K X.mg c fs) (he : WP X e m) (hf : f ∈ fs := by decide +kernel) (hb : attributeBase e f X.env (eval e X.env) = eval e X.env := by rfl) : WP X (.Attribute e f pos) (pAt m c n f) := ⟨cp_at n T he.un hf hb⟩
end
section
variable [L2.TabP]
variable {X : Cx} {e k : Expr} {m : MP} {mk : ME} {pos p : Pos}
theorem we_leaf (he : WP X e m) : WE X e (cLeaf m) := ⟨ce_leaf he.un⟩
end
section
variable [L2.TabP]
variable {X : Cx} {e k value : Expr} {mp : MP} {mk mv : ME} {pos pos' : Pos}
theorem ws_tix (he : WP X e mp) (hk : WE X k mk) (hval : WE X value mv) (hs : swapsWithSole [.Subscript e k pos'] value pos.line X.env = pure false := by rfl) (hw : swappedStores [.Subscript e k pos'] value X.env = pure none := by rfl) (h1 : (assignEach [.Subscript e k pos'] X.env).map (·.2) = [assign (.Subscript e k pos') X.env] := by rfl) (ha : ∀ v, assign (.Subscript e k pos') X.env v = (do
      let ov ← holding [v] (eval e X.env)
      let iv ← holding [v, ov] (eval k X.env)
      standAt pos'
      holding [v, ov, iv] (setItem ov iv v)
      release [v, ov, iv] []) := by intro _; rfl) : WS X (.Assign [.Subscript e k pos'] value pos) (cTIx mp mk mv) := ⟨cs_tix he.un hk.un hval.un hs hw h1 ha⟩
end
section
variable [L2.TabP]
variable {X : Cx} {e k value : Expr} {mp : MP} {mk mv : ME} {pos pos' : Pos}
theorem ws_tdk {key : Str} {j p0} (n : Nat) (hu : X.A.units + 64 < cLine) (he : WP X e mp) (hval : WE X value mv) (hs : swapsWith value (some (.Subscript e (.Constant (.str key) j p0) pos')) pos.line X.env = pure false := by rfl) : WS X (.Assign [.Subscript e (.Constant (.str key) j p0) pos'] value pos) (cTDk mp n key mv) := ⟨cs_tdk n hu he.un hval.un hs⟩
end
section
variable [L2.TabP]
variable {X : Cx} {e k value : Expr} {mp : MP} {mk mv : ME} {pos pos' : Pos}
theorem ws_tat {c f : Str} {fs : List Str} (n : Nat) (T : ClsT X.K X.mg c fs) (he : WP X e mp) (hval : WE X value mv) (hf : f ∈ fs := by decide +kernel) (hs : swapsWith value (some (.Attribute e f pos')) pos.line X.env = pure false := by rfl) : WS X (.Assign [.Attribute e f pos'] value pos) (cTAt mp c n f mv) := ⟨cs_tat n T he.un hval.un hf hs⟩
end
section
variable [L2.TabP]
variable {X : Cx} {e k value : Expr} {mp : MP} {mk mv : ME} {pos pos' : Pos}
theorem ws_tan {c f : Str} {fs : List Str} (A : List Str) (T : ClsT X.K X.mg c fs) (he : WP X e mp) (hval : WE X value mv) (hf : f ∈ fs := by decide +kernel) (hA : f ∉ A := by decide +kernel) (hs : swapsWith value (some (.Attribute e f pos')) pos.line X.env = pure false := by rfl) : WS X (.Assign [.Attribute e f pos'] value pos) (cTAn mp c A f mv) := ⟨cs_tan A T he.un hval.un hf hA hs⟩
end
section
variable [L2.TabP]
variable {X : Cx} {e : Expr} {es : List Expr} {m : ME} {mt : MT} {ms : MTs} {pos : Pos} {j : Nat} {p : List Nat} {n : Nat}
theorem wv_leaf (h : WE X e m) : WV X j p e (vLeaf m) := ⟨cv_leaf h.un⟩
end
section
variable [L2.TabP]
variable {X : Cx} {e : Expr} {es : List Expr} {m : ME} {mt : MT} {ms : MTs} {pos : Pos} {j : Nat} {p : List Nat} {n : Nat}
theorem wv_own (h : WE X e m) : WV X j p e (vOwn m) := ⟨cv_own h.un⟩
end
section
variable [L2.TabP]
variable {X : Cx} {e : Expr} {es : List Expr} {m : ME} {mt : MT} {ms : MTs} {pos : Pos} {j : Nat} {p : List Nat} {n : Nat}
theorem wvs_nil  : WVs X j p n [] vNil := ⟨cvs_nil⟩
end
section
variable [L2.TabP]
variable {X : Cx} {e : Expr} {es : List Expr} {m : ME} {mt : MT} {ms : MTs} {pos : Pos} {j : Nat} {p : List Nat} {n : Nat}
theorem wvs_cons (ha : WV X j (p ++ [n]) e mt) (hr : WVs X j p (n + 1) es ms) (hs : starEach (e :: es) X.env = (false, eval e X.env) :: starEach es X.env := by rfl) : WVs X j p n (e :: es) (vCons mt ms) := ⟨cvs_cons ha.un hr.un hs⟩
end
section
variable [L2.TabP]
variable {X : Cx} {e : Expr} {es : List Expr} {m : ME} {mt : MT} {ms : MTs} {pos : Pos} {j : Nat} {p : List Nat} {n : Nat}
theorem wv_lst (h : WVs X j p 0 es ms) : WV X j p (.List es pos) (vLst ms) := ⟨cv_lst h.un⟩
end
section
variable [L2.TabP]
variable {X : Cx} {e : Expr} {es : List Expr} {m : ME} {mt : MT} {ms : MTs} {pos : Pos} {j : Nat} {p : List Nat} {n : Nat}
theorem wd_nil  : CD X pos j p n [] [] [] vNil := cd_nil
end
section
variable [L2.TabP]
variable {X : Cx} {e : Expr} {es : List Expr} {m : ME} {mt : MT} {ms : MTs} {pos : Pos} {j : Nat} {p : List Nat} {n : Nat}
theorem wd_cons {key : Str} {i : Nat} {p0 : Pos} {v : Expr} {keys : List (Option Expr)} {values : List Expr} {ks : List Key} (hv : WV X j (p ++ [n]) v mt) (hr : CD X pos j p (n + 1) keys values ks ms) : CD X pos j p n (some (.Constant (.str key) i p0) :: keys) (v :: values) (.inr key :: ks) (vCons mt ms) := cd_cons hv.un hr
end
section
variable [L2.TabP]
variable {X : Cx} {e : Expr} {es : List Expr} {m : ME} {mt : MT} {ms : MTs} {pos : Pos} {j : Nat} {p : List Nat} {n : Nat}
theorem wv_dict {keys : List (Option Expr)} {values : List Expr} {ks : List Key} (h : CD X pos j p 0 keys values ks ms) (hall : keys.all (·.isSome) = true := by rfl) (hl : keys.length = values.length := by rfl) (h0 : keys ≠ [] := by simp) (h15 : keys.length ≤ 15 := by decide) (hk : ks.Nodup ∧ ks.length ≤ 15 := by decide +kernel) : WV X j p (.Dict keys values pos) (vDict ks ms) := ⟨cv_dict h hall hl h0 h15 hk⟩
end
section
variable [L2.TabP]
variable {X : Cx} {e : Expr} {es : List Expr} {m : ME} {mt : MT} {ms : MTs} {pos : Pos} {j : Nat} {p : List Nat} {n : Nat}
theorem ws_tset {x : Str} {pos' : Pos} (hN : X.N.Nodup) (hi : X.N[j]? = some x) (hx : Loc X.env.scope x) (he : WV X j [] e mt) (hs : swapsWith e (some (.Name x pos')) pos.line X.env = pure false := by rfl) (hf : X.fn x = true ∨ X.env.scope.names.lookup x = some .local := by first | exact .inl rfl | exact .inr rfl | assumption) : WS X (.Assign [.Name x pos'] e pos) (cTSet j mt) := ⟨cs_tset hN hi hx he.un hs hf⟩
end
section
variable [L2.TabP]
variable {X : Cx} {e : Expr} {es : List Expr} {m : ME} {mt : MT} {ms : MTs} {pos : Pos} {j : Nat} {p : List Nat} {n : Nat}
theorem ws_tdn {x key : Str} {i : Nat} {p0 p1 pos' : Pos} (A : List Key) (hu : X.A.units + 64 < cLine) (hN : X.N[j]? = some x) (hv : Vis X.env.scope x) (he : WV X j [A.length] e mt) (hA' : A.all (fun k => decide (k ≠ .inr key)) = true := by decide +kernel) (hs : swapsWith e (some (.Subscript (.Name x p1) (.Constant (.str key) i p0) pos')) pos.line X.env = pure false := by rfl) (hd : (x == ("__debug__" : Str)) = false := by decide) (hcd : (x == ("__classdict__" : Str)) = false := by decide) : WS X (.Assign [.Subscript (.Name x p1) (.Constant (.str key) i p0) pos'] e pos) (cTDn j A key mt) := ⟨cs_tdn A hu hN hv he.un hA' hs hd hcd⟩
end
section
variable [L2.TabP]
variable {X : Cx} {st : Stmt} {rest : List Stmt} {pos : Pos} {a b : MS}
theorem wr_of (h : WS X st a) : WR X st (cNoB a) := ⟨cr_of h.un⟩
end
section
variable [L2.TabP]
variable {X : Cx} {st : Stmt} {rest : List Stmt} {pos : Pos} {a b : MS}
theorem wr_retN  : WR X (.Return none pos) cBrk := ⟨cr_retN⟩
end
section
variable [L2.TabP]
variable {X : Cx} {st : Stmt} {rest : List Stmt} {pos : Pos} {a b : MS}
theorem wr_if {c : Expr} {A B : List Stmt} {t : En → M Bool} (hc : WT X c t) (ha : WRs X A a) (hb : WRs X B b) : WR X (.If c A B pos) (cIfS t a b) := ⟨cr_if hc.un ha.un hb.un⟩
end
section
variable [L2.TabP]
variable {X : Cx} {st : Stmt} {rest : List Stmt} {pos : Pos} {a b : MS}
theorem wrs_nil  : WRs X [] cPass := ⟨crs_nil⟩
end
section
variable [L2.TabP]
variable {X : Cx} {st : Stmt} {rest : List Stmt} {pos : Pos} {a b : MS}
theorem wrs_one (h : WR X st a) : WRs X [st] a := ⟨crs_one h.un⟩
end
section
variable [L2.TabP]
variable {X : Cx} {st : Stmt} {rest : List Stmt} {pos : Pos} {a b : MS}
theorem wrs_cons (h1 : WR X st a) (h2 : WRs X rest b) : WRs X (st :: rest) (cSeq a b) := ⟨crs_cons h1.un h2.un⟩
end
section
variable [L2.TabP]
theorem wst_ret {X : Cx} {pos p : Pos} (i : Nat) {x : Str} (hN : X.N[i]? = some x := by rfl) (hv : Vis X.env.scope x := by first | exact Or.inl rfl | exact Or.inr (Or.inl rfl) | exact Or.inr (Or.inr rfl)) (hd : (x == ("__debug__" : Str)) = false := by decide) (hcd : (x == ("__classdict__" : Str)) = false := by decide) : WSt X i [.Return (some (.Name x p)) pos] cPass := ⟨cst_ret i hN hv hd hcd⟩
end
section
variable [L2.TabP]
theorem wst_cons {X : Cx} {st : Stmt} {rest : List Stmt} {a b : MS} {j : Nat} (h1 : WS X st a) (h2 : WSt X j rest b) : WSt X j (st :: rest) (cSeq a b) := ⟨cst_cons h1.un h2.un⟩
end
section
variable [L2.TabP]
variable {X : Cx} {c m : Str} {ps : List Str} {k : Nat} {o e : Expr} {es : List Expr} {apos pos pos' : Pos} {mp : MP} {mf : MTV} {mr : MTR} {ms : MA} {A : List Str}
theorem we_tv {pl : Sem Bool} (h : HasM X.prog X.w X.K X.mg X.base c m ps k (spTV X.K X.mg mf)) (A : List Str) (hr : Room k X.A) (he : WP X o mp) (ha : WA X (e :: es) ms) (hA : m ∉ A := by decide +kernel) (hst : starEach (e :: es) X.env = (false, eval e X.env) :: starEach es X.env := by rfl) (hpl : (backTo pos (starEach es X.env)).any (·.1) = false := by rfl) (ht : eval (.Call (.Attribute o m apos) (e :: es) [] pos) X.env = (do
      let ov ← eval o X.env
      standAt apos.atName
      let (f, first) ← holding [ov] (getMethod ov m pl)
      callWith pos f first (backTo pos (starEach (e :: es) X.env)) (backToKw pos (keywordEach [] X.env))) := by rfl) : WE X (.Call (.Attribute o m apos) (e :: es) [] pos) (cTV mp c A mf ms) := ⟨ce_tv h A hr he.un ha.un hA hst hpl ht⟩
end
section
variable [L2.TabP]
variable {X : Cx} {c m : Str} {ps : List Str} {k : Nat} {o e : Expr} {es : List Expr} {apos pos pos' : Pos} {mp : MP} {mf : MTV} {mr : MTR} {ms : MA} {A : List Str}
theorem we_tv0 {pl : Sem Bool} (h : HasM X.prog X.w X.K X.mg X.base c m ps k (spTV X.K X.mg mf)) (A : List Str) (hr : Room k X.A) (he : WP X o mp) (hA : m ∉ A := by decide +kernel) (ht : eval (.Call (.Attribute o m apos) [] [] pos) X.env = (do
      let ov ← eval o X.env
      standAt apos.atName
      let (f, first) ← holding [ov] (getMethod ov m pl)
      callWith pos f first (backTo pos (starEach [] X.env)) (backToKw pos (keywordEach [] X.env))) := by rfl) : WE X (.Call (.Attribute o m apos) [] [] pos) (cTV mp c A mf cNil) := ⟨ce_tv0 h A hr he.un hA ht⟩
end
section
variable [L2.TabP]
variable {X : Cx} {c m : Str} {ps : List Str} {k : Nat} {o e : Expr} {es : List Expr} {apos pos pos' : Pos} {mp : MP} {mf : MTV} {mr : MTR} {ms : MA} {A : List Str}
theorem ws_tm {pl : Sem Bool} (h : HasM X.prog X.w X.K X.mg X.base c m ps k (spTR X.K X.mg mr)) (A : List Str) (hr : Room k X.A) (he : WP X o mp) (ha : WA X (e :: es) ms) (hA : m ∉ A := by decide +kernel) (hst : starEach (e :: es) X.env = (false, eval e X.env) :: starEach es X.env := by rfl) (hpl : (backTo pos (starEach es X.env)).any (·.1) = false := by rfl) (ht : eval (.Call (.Attribute o m apos) (e :: es) [] pos) X.env = (do
      let ov ← eval o X.env
      standAt apos.atName
      let (f, first) ← holding [ov] (getMethod ov m pl)
      callWith pos f first (backTo pos (starEach (e :: es) X.env)) (backToKw pos (keywordEach [] X.env))) := by rfl) (hsw : swapsWith (.Call (.Attribute o m apos) (e :: es) [] pos) none pos'.line X.env = pure false := by rfl) : WS X (.Expr (.Call (.Attribute o m apos) (e :: es) [] pos) pos') (cTM mp c A mr ms) := ⟨cs_tm h A hr he.un ha.un hA hst hpl ht hsw⟩
end
section
variable [L2.TabP]
variable {X : Cx} {x y z : Str} {ps : List Str} {k i j : Nat} {mr : MTR} {p p1 p2 pos pos' : Pos} {es : List Expr} {ms : MA}
theorem ws_tr1 (h : Has X.prog X.w X.K X.mg X.base x ps k (spTR X.K X.mg mr)) (hr : Room k X.A) (hg : Gl X x) (ha : WA X es ms) (hN : X.N[i]? = some y) (hv : Vis X.env.scope y) (hd : (y == ("__debug__" : Str)) = false := by decide) (hcd : (y == ("__classdict__" : Str)) = false := by decide) (hdb : (x == ("__debug__" : Str)) = false := by decide) (he : starEach (.Name y p1 :: es) X.env = (false, eval (.Name y p1) X.env) :: starEach es X.env := by rfl) (hpl : (backTo pos (starEach es X.env)).any (·.1) = false := by rfl) (hs : swapsWith (.Call (.Name x p) (.Name y p1 :: es) [] pos) none pos'.line X.env = pure false := by rfl) : WS X (.Expr (.Call (.Name x p) (.Name y p1 :: es) [] pos) pos') (cTR1 i mr ms) := ⟨cs_tr1 h hr hg ha.un hN hv hd hcd hdb he hpl hs⟩
end
section
variable [L2.TabP]
variable {X : Cx} {x y z : Str} {ps : List Str} {k i j : Nat} {mr : MTR} {p p1 p2 pos pos' : Pos} {es : List Expr} {ms : MA}
theorem ws_tr2 (h : Has X.prog X.w X.K X.mg X.base x ps k (spTR X.K X.mg mr)) (hr : Room k X.A) (hg : Gl X x) (ha : WA X es ms) (hN : X.N[i]? = some y) (hv : Vis X.env.scope y) (hN2 : X.N[j]? = some z) (hv2 : Vis X.env.scope z) (hij : i ≠ j := by decide) (hd : (y == ("__debug__" : Str)) = false := by decide) (hcd : (y == ("__classdict__" : Str)) = false := by decide) (hd2 : (z == ("__debug__" : Str)) = false := by decide) (hcd2 : (z == ("__classdict__" : Str)) = false := by decide) (hdb : (x == ("__debug__" : Str)) = false := by decide) (he : starEach (.Name y p1 :: .Name z p2 :: es) X.env = (false, eval (.Name y p1) X.env) :: starEach (.Name z p2 :: es) X.env := by rfl) (he2 : starEach (.Name z p2 :: es) X.env = (false, eval (.Name z p2) X.env) :: starEach es X.env := by rfl) (hpl : (backTo pos (starEach (.Name z p2 :: es) X.env)).any (·.1) = false := by rfl) (hs : swapsWith (.Call (.Name x p) (.Name y p1 :: .Name z p2 :: es) [] pos) none pos'.line X.env = pure false := by rfl) : WS X (.Expr (.Call (.Name x p) (.Name y p1 :: .Name z p2 :: es) [] pos) pos') (cTR2 i j mr ms) := ⟨cs_tr2 h hr hg ha.un hN hv hN2 hv2 hij hd hcd hd2 hcd2 hdb he he2 hpl hs⟩
end
section
variable [L2.TabP]
variable {X : Cx} {x : Str} {ps : List Str} {k j : Nat} {q : List Nat} {mf : MTM} {mr : MTR} {p pos : Pos} {e : Expr} {es : List Expr} {ms : MA}
theorem wv_call (h : Has X.prog X.w X.K X.mg X.base x ps k (spTM X.K X.mg mf)) (hr : Room k X.A) (hg : Gl X x) (ha : WA X (e :: es) ms) (hdb : (x == ("__debug__" : Str)) = false := by decide) (he : starEach (e :: es) X.env = (false, eval e X.env) :: starEach es X.env := by rfl) (hpl : (backTo pos (starEach es X.env)).any (·.1) = false := by rfl) : WV X j q (.Call (.Name x p) (e :: es) [] pos) (vCall mf ms) := ⟨cv_call h hr hg ha.un hdb he hpl⟩
end
section
variable [L2.TabP]
variable {X : Cx} {x : Str} {ps : List Str} {k j : Nat} {q : List Nat} {mf : MTM} {mr : MTR} {p pos : Pos} {e : Expr} {es : List Expr} {ms : MA}
theorem wv_make {fs : List Str} (T : ClsT X.K X.mg x fs) (h : HasM X.prog X.w X.K X.mg X.base x "__init__" ps k (spTR X.K X.mg mr)) (hr : Room (k + 1) X.A) (hg : Gl X x) (ha : WA X (e :: es) ms) (hdb : (x == ("__debug__" : Str)) = false := by decide) (he : starEach (e :: es) X.env = (false, eval e X.env) :: starEach es X.env := by rfl) (hpl : (backTo pos (starEach es X.env)).any (·.1) = false := by rfl) : WV X j q (.Call (.Name x p) (e :: es) [] pos) (vMake x mr ms) := ⟨cv_make T h hr hg ha.un hdb he hpl⟩
end
end L3

set_option Elab.async false
set_option linter.all false
set_option maxRecDepth 100000
set_option maxHeartbeats 1000000
namespace L3
open PySem PySem.Spec L2
@[simp] theorem e_pVar {i : Nat} {σ : En} : pVar i σ = (match σ[i]? with
  | some (.tr m t) => pure ⟨i, [], m, t⟩
  | _ => bad) := rfl
@[simp] theorem e_pIx {m : MP} {mk : ME} {σ : En} : pIx m mk σ = (do
  let x ← m σ
  let k ← mk σ
  match x.t, k with
  | .ls ts, .v (.int j) => if 0 ≤ j then kidM ts j.toNat (Pt.mk x.i (x.p ++ [j.toNat]) x.m) else bad
  | _, _ => bad) := rfl
@[simp] theorem e_pDk {m : MP} {n : Nat} {key : Str} {σ : En} : pDk m n key σ = (do
  let x ← m σ
  match x.t with
  | .dc ks ts => if ks[n]? = some (.inr key) then kidM ts n (Pt.mk x.i (x.p ++ [n]) x.m) else bad
  | _ => bad) := rfl
@[simp] theorem e_pAt {m : MP} {c : Str} {n : Nat} {f : Str} {σ : En} : pAt m c n f σ = (do
  let x ← m σ
  match x.t with
  | .ob c' ns ts => if c' = c ∧ ns[n]? = some f then kidM ts n (Pt.mk x.i (x.p ++ [n]) x.m) else bad
  | _ => bad) := rfl
@[simp] theorem e_cLeaf {m : MP} {σ : En} : cLeaf m σ = (do
  let x ← m σ
  match x.t with
  | .lf d => pure (.v d)
  | _ => bad) := rfl
@[simp] theorem e_cTIx {mp : MP} {mk mv : ME} {σ : En} : cTIx mp mk mv σ = (do
  let r ← mv σ
  let d ← r.dat
  let x ← mp σ
  let k ← mk σ
  match x.t, k, σ[x.i]? with
  | .ls ts, .v (.int j), some (.tr m t0) => if (0 ≤ j ∧ j < ts.length) ∧ m ≠ .view then pure (.nx (σ.set x.i (.tr m (Tr.put x.p t0 (.ls (ts.set j.toNat (.lf d))))))) else bad
  | _, _, _ => bad) := rfl
@[simp] theorem e_cTDk {mp : MP} {n : Nat} {key : Str} {mv : ME} {σ : En} : cTDk mp n key mv σ = (do
  let r ← mv σ
  let d ← r.dat
  let x ← mp σ
  match x.t, σ[x.i]? with
  | .dc ks ts, some (.tr m t0) => if (ks[n]? = some (.inr key) ∧ ts.length < 1000) ∧ m ≠ .view then pure (.nx (σ.set x.i (.tr m (Tr.put x.p t0 (.dc ks (ts.set n (.lf d))))))) else bad
  | _, _ => bad) := rfl
@[simp] theorem e_cTAt {mp : MP} {c : Str} {n : Nat} {f : Str} {mv : ME} {σ : En} : cTAt mp c n f mv σ = (do
  let r ← mv σ
  let d ← r.dat
  let x ← mp σ
  match x.t, σ[x.i]? with
  | .ob c' ns ts, some (.tr m t0) => if (c' = c ∧ ns[n]? = some f ∧ ts.length < 1000) ∧ m ≠ .view then pure (.nx (σ.set x.i (.tr m (Tr.put x.p t0 (.ob c ns (ts.set n (.lf d))))))) else bad
  | _, _ => bad) := rfl
@[simp] theorem e_cTAn {mp : MP} {c : Str} {A : List Str} {f : Str} {mv : ME} {σ : En} : cTAn mp c A f mv σ = (do
  let r ← mv σ
  let d ← r.dat
  let x ← mp σ
  match x.t, σ[x.i]? with
  | .ob c' ns ts, some (.tr m t0) => if (c' = c ∧ ns = A ∧ ts.length < 900) ∧ m ≠ .view then pure (.nx (σ.set x.i (.tr m (Tr.put x.p t0 (.ob c (A ++ [f]) (ts ++ [.lf d])))))) else bad
  | _, _ => bad) := rfl
@[simp] theorem e_vLeaf {m : ME} {σ : En} : vLeaf m σ = (do
  let r ← m σ
  let d ← r.dat
  pure (.lf d)) := rfl
@[simp] theorem e_vOwn {m : ME} {σ : En} : vOwn m σ = (do
  let r ← m σ
  match r with
  | .fr xs => pure (.ls (xs.map .lf))
  | _ => bad) := rfl
@[simp] theorem e_vNil  {σ : En} : vNil  σ = (pure []) := rfl
@[simp] theorem e_vCons {m : MT} {ms : MTs} {σ : En} : vCons m ms σ = (do
  let t ← m σ
  let ts ← ms σ
  pure (t :: ts)) := rfl
@[simp] theorem e_vLst {ms : MTs} {σ : En} : vLst ms σ = (do
  let ts ← ms σ
  chk (ts.length ≤ 1000)
  pure (.ls ts)) := rfl
@[simp] theorem e_vDict {ks : List Key} {ms : MTs} {σ : En} : vDict ks ms σ = (do
  let ts ← ms σ
  chk (ts.length = ks.length)
  pure (.dc ks ts)) := rfl
@[simp] theorem e_cTSet {j : Nat} {m : MT} {σ : En} : cTSet j m σ = (do
  let t ← m σ
  pure (.nx (σ.set j (.tr .own t)))) := rfl
@[simp] theorem e_cTDn {j : Nat} {A : List Key} {key : Str} {mt : MT} {σ : En} : cTDn j A key mt σ = (do
  let t ← mt σ
  match σ[j]? with
  | some (.tr md (.dc ks ts)) => if (ks = A ∧ ts.length = A.length ∧ ts.length < 1000) ∧ md ≠ .view then pure (.nx (σ.set j (.tr md (.dc (A ++ [.inr key]) (ts ++ [t]))))) else bad
  | _ => bad) := rfl
@[simp] theorem e_cNoB {m : MS} {σ : En} : cNoB m σ = (do
  let fl ← m σ
  match fl with
  | .bk _ => bad
  | fl => pure fl) := rfl
@[simp] theorem e_trEnd {nt : Nat} {σ' : En} : trEnd nt σ' = (do
  let ts ← trsOf (σ'.take nt)
  chk (ts.length = nt)
  pure ts) := rfl
@[simp] theorem e_cTV {mp : MP} {c : Str} {A : List Str} {mf : MTV} {ms : MA} {σ : En} : cTV mp c A mf ms σ = (do
  let x ← mp σ
  let rs ← ms σ
  let ds ← dats rs
  match x.t with
  | .ob c' ns ts => if c' = c ∧ ns = A then mf (.ob c ns ts) ds else bad
  | _ => bad) := rfl
@[simp] theorem e_cTM {mp : MP} {c : Str} {A : List Str} {mf : MTR} {ms : MA} {σ : En} : cTM mp c A mf ms σ = (do
  let x ← mp σ
  let rs ← ms σ
  let ds ← dats rs
  match x.t, σ[x.i]? with
  | .ob c' ns ts, some (.tr md t0) => if (c' = c ∧ ns = A) ∧ md ≠ .view then mf [.ob c ns ts] ds >>= put1 (fun s' => .nx (σ.set x.i (.tr md (Tr.put x.p t0 s')))) else bad
  | _, _ => bad) := rfl
@[simp] theorem e_cTR1 {i : Nat} {mf : MTR} {ms : MA} {σ : En} : cTR1 i mf ms σ = (do
  let rs ← ms σ
  let ds ← dats rs
  match σ[i]? with
  | some (.tr m t) => if m ≠ .view then mf [t] ds >>= put1 (fun t' => .nx (σ.set i (.tr m t'))) else bad
  | _ => bad) := rfl
@[simp] theorem e_cTR2 {i j : Nat} {mf : MTR} {ms : MA} {σ : En} : cTR2 i j mf ms σ = (do
  let rs ← ms σ
  let ds ← dats rs
  match σ[i]?, σ[j]? with
  | some (.tr m t), some (.tr n s) => if m ≠ .view ∧ n ≠ .view then mf [t, s] ds >>= put2 (fun t' s' => .nx ((σ.set i (.tr m t')).set j (.tr n s'))) else bad
  | _, _ => bad) := rfl
@[simp] theorem e_vCall {mf : MTM} {ms : MA} {σ : En} : vCall mf ms σ = (do
  let rs ← ms σ
  let ds ← dats rs
  mf ds) := rfl
@[simp] theorem e_vMake {c : Str} {mf : MTR} {ms : MA} {σ : En} : vMake c mf ms σ = (do
  let rs ← ms σ
  let ds ← dats rs
  let ts ← mf [.ob c [] []] ds
  match ts with
  | [t] => pure t
  | _ => bad) := rfl
@[simp] theorem e_fnTR {nt n N : Nat} {b : MS} {ts : List Tr} {ds : List D} : fnTR nt n N b ts ds = (if ts.length = nt ∧ nt + ds.length = n then do
    let fl ← b (ts.map (.tr .par) ++ ds.map .val ++ List.replicate (N - n) .emp)
    match fl with
    | .nx σ' => trEnd nt σ'
    | .bk σ' => trEnd nt σ'
    | _ => bad
  else bad) := rfl
@[simp] theorem e_fnTV {n N : Nat} {b : MS} {t : Tr} {ds : List D} : fnTV n N b t ds = (if 1 + ds.length = n then do
    let fl ← b (.tr .view t :: ds.map .val ++ List.replicate (N - n) .emp)
    match fl with
    | .rt (.v d) => pure (.v d)
    | .rt (.fr xs) => pure (.fr xs)
    | .nx _ => pure (.v .non)
    | _ => bad
  else bad) := rfl
@[simp] theorem e_fnTM {n N j : Nat} {b : MS} {ds : List D} : fnTM n N j b ds = (if ds.length = n then do
    let fl ← b (ds.map .val ++ List.replicate (N - n) .emp)
    match fl with
    | .nx σ' => (match σ'[j]? with
      | some (.tr .own t) => pure t
      | _ => bad)
    | _ => bad
  else bad) := rfl
@[simp] theorem e_kidM {ts : List Tr} {n : Nat} {f : Tr → Pt} : kidM ts n f = (match ts[n]? with
  | some s => pure (f s)
  | none => bad) := rfl
@[simp] theorem e_put1 {f : Tr → Fl} {t : Tr} : put1 f [t] = pure (f t) := rfl
@[simp] theorem e_put2 {f : Tr → Tr → Fl} {t s : Tr} : put2 f [t, s] = pure (f t s) := rfl
@[simp] theorem e_trsN : trsOf [] = pure [] := rfl
@[simp] theorem e_trsC {t : Tr} {r : List Slot} : trsOf (.tr .par t :: r) = (do
  let ts ← trsOf r
  pure (t :: ts)) := rfl
@[simp] theorem e_kidsL {ts : List Tr} : Tr.kids (.ls ts) = ts := rfl
@[simp] theorem e_kidsD {ks : List Key} {ts : List Tr} : Tr.kids (.dc ks ts) = ts := rfl
@[simp] theorem e_kidsO {c : Str} {ns : List Str} {ts : List Tr} : Tr.kids (.ob c ns ts) = ts := rfl
@[simp] theorem e_subL {ts : List Tr} {n : Nat} {s : Tr} : Tr.sub (.ls ts) n s = .ls (ts.set n s) := rfl
@[simp] theorem e_subD {ks : List Key} {ts : List Tr} {n : Nat} {s : Tr} : Tr.sub (.dc ks ts) n s = .dc ks (ts.set n s) := rfl
@[simp] theorem e_subO {c : Str} {ns : List Str} {ts : List Tr} {n : Nat} {s : Tr} : Tr.sub (.ob c ns ts) n s = .ob c ns (ts.set n s) := rfl
@[simp] theorem e_putN {t s : Tr} : Tr.put [] t s = s := rfl
@[simp] theorem e_putC {n : Nat} {p : List Nat} {t s : Tr} : Tr.put (n :: p) t s = (match t.kids[n]? with
    | some u => t.sub n (Tr.put p u s)
    | none => t) := rfl
end L3

set_option Elab.async false
set_option linter.all false
set_option maxRecDepth 100000
set_option maxHeartbeats 1000000
namespace K64
open PySem PySem.Spec L2 L3
noncomputable def top (i : Nat) : Stmt := PySem.Challenge.pw_oneslate_k64_a_tenant_believes.main.body.getD i (.Pass ⟨0, 0, 0, 0⟩)
noncomputable abbrev s_wait_for : Stmt := top 1
theorem sc_wait_for : FnScope ["span", "slow", "fast"] ["span", "slow", "fast"] (defScope s_wait_for) := ⟨rfl, rfl, rfl, by decide +kernel, rfl, by decide +kernel, by decide +kernel⟩
noncomputable abbrev s_lease_of : Stmt := top 3
theorem sc_lease_of : FnScope ["slate"] ["slate"] (defScope s_lease_of) := ⟨rfl, rfl, rfl, by decide +kernel, rfl, by decide +kernel, by decide +kernel⟩
noncomputable abbrev s_Tenant___init__ : Stmt := inClass (top 5) 0
theorem sc_Tenant___init__ : FnScope ["self", "me", "span", "slow", "fast"] ["self", "me", "span", "slow", "fast"] (defScope s_Tenant___init__) := ⟨rfl, rfl, rfl, by decide +kernel, rfl, by decide +kernel, by decide +kernel⟩
noncomputable abbrev s_Tenant_began : Stmt := inClass (top 5) 1
theorem sc_Tenant_began : FnScope ["self", "deed", "time"] ["self", "deed", "time"] (defScope s_Tenant_began) := ⟨rfl, rfl, rfl, by decide +kernel, rfl, by decide +kernel, by decide +kernel⟩
noncomputable abbrev s_Tenant_ended : Stmt := inClass (top 5) 2
theorem sc_Tenant_ended : FnScope ["self", "outcome", "time"] ["self", "outcome", "time"] (defScope s_Tenant_ended) := ⟨rfl, rfl, rfl, by decide +kernel, rfl, by decide +kernel, by decide +kernel⟩
noncomputable abbrev s_Tenant_wish : Stmt := inClass (top 5) 3
noncomputable abbrev s_Tenant_believes : Stmt := inClass (top 5) 4
theorem sc_Tenant_believes : FnScope ["self", "time"] ["self", "time"] (defScope s_Tenant_believes) := ⟨rfl, rfl, rfl, by decide +kernel, rfl, by decide +kernel, by decide +kernel⟩
noncomputable abbrev s_Tenant_seen : Stmt := inClass (top 5) 5
theorem sc_Tenant_seen : FnScope ["self"] ["self"] (defScope s_Tenant_seen) := ⟨rfl, rfl, rfl, by decide +kernel, rfl, by decide +kernel, by decide +kernel⟩
noncomputable abbrev s_Tenant_holds : Stmt := inClass (top 5) 6
theorem sc_Tenant_holds : FnScope ["self"] ["self"] (defScope s_Tenant_holds) := ⟨rfl, rfl, rfl, by decide +kernel, rfl, by decide +kernel, by decide +kernel⟩
noncomputable abbrev s_Tenant_begun_word : Stmt := inClass (top 5) 7
theorem sc_Tenant_begun_word : FnScope ["self"] ["self"] (defScope s_Tenant_begun_word) := ⟨rfl, rfl, rfl, by decide +kernel, rfl, by decide +kernel, by decide +kernel⟩
noncomputable abbrev s_Tenant_hear_answer : Stmt := inClass (top 5) 8
theorem sc_Tenant_hear_answer : FnScope ["self", "answer", "time"] ["self", "answer", "time"] (defScope s_Tenant_hear_answer) := ⟨rfl, rfl, rfl, by decide +kernel, rfl, by decide +kernel, by decide +kernel⟩
noncomputable abbrev s_Tenant_see : Stmt := inClass (top 5) 9
theorem sc_Tenant_see : FnScope ["self", "lease", "time"] ["self", "lease", "time"] (defScope s_Tenant_see) := ⟨rfl, rfl, rfl, by decide +kernel, rfl, by decide +kernel, by decide +kernel⟩
noncomputable abbrev s_law_cell_at : Stmt := top 7
theorem sc_law_cell_at : FnScope ["script", "k"] ["script", "k"] (defScope s_law_cell_at) := ⟨rfl, rfl, rfl, by decide +kernel, rfl, by decide +kernel, by decide +kernel⟩
noncomputable abbrev s_law_whole : Stmt := top 8
theorem sc_law_whole : FnScope ["found"] ["found"] (defScope s_law_whole) := ⟨rfl, rfl, rfl, by decide +kernel, rfl, by decide +kernel, by decide +kernel⟩
noncomputable abbrev s_law_triple : Stmt := top 9
theorem sc_law_triple : FnScope ["found", "due", "part"] ["found", "due"] (defScope s_law_triple) := ⟨rfl, rfl, rfl, by decide +kernel, rfl, by decide +kernel, by decide +kernel⟩
noncomputable abbrev s_law_span : Stmt := top 10
theorem sc_law_span : FnScope ["number"] ["number"] (defScope s_law_span) := ⟨rfl, rfl, rfl, by decide +kernel, rfl, by decide +kernel, by decide +kernel⟩
noncomputable abbrev s_law_deed : Stmt := top 11
theorem sc_law_deed : FnScope ["number", "me", "lease", "kind", "fence", "some"] ["number", "me", "lease"] (defScope s_law_deed) := ⟨rfl, rfl, rfl, by decide +kernel, rfl, by decide +kernel, by decide +kernel⟩
noncomputable abbrev s_law_outcome : Stmt := top 12
theorem sc_law_outcome : FnScope ["deed", "lease", "me", "number", "stamp", "slate", "good"] ["deed", "lease", "me", "number"] (defScope s_law_outcome) := ⟨rfl, rfl, rfl, by decide +kernel, rfl, by decide +kernel, by decide +kernel⟩
noncomputable abbrev s_law_lent_on : Stmt := top 13
theorem sc_law_lent_on : FnScope ["lease", "number", "names", "others"] ["lease", "number", "names"] (defScope s_law_lent_on) := ⟨rfl, rfl, rfl, by decide +kernel, rfl, by decide +kernel, by decide +kernel⟩
noncomputable abbrev s_law_ended : Stmt := top 14
theorem sc_law_ended : FnScope ["state", "who", "me", "deed", "outcome", "lease", "old"] ["state", "who", "me", "deed", "outcome"] (defScope s_law_ended) := ⟨rfl, rfl, rfl, by decide +kernel, rfl, by decide +kernel, by decide +kernel⟩
noncomputable abbrev s_law_event : Stmt := top 15
theorem sc_law_event : FnScope ["state", "tenants", "names", "number", "k", "span", "mixed", "who", "me", "j", "step", "time", "deed", "found", "over"] ["state", "tenants", "names", "number", "k", "span"] (defScope s_law_event) := ⟨rfl, rfl, rfl, by decide +kernel, rfl, by decide +kernel, by decide +kernel⟩
noncomputable abbrev s_law_names : Stmt := top 16
theorem sc_law_names : FnScope ["number", "first"] ["number"] (defScope s_law_names) := ⟨rfl, rfl, rfl, by decide +kernel, rfl, by decide +kernel, by decide +kernel⟩
noncomputable abbrev s_law_start : Stmt := top 17
theorem sc_law_start : FnScope ["number", "state"] ["number"] (defScope s_law_start) := ⟨rfl, rfl, rfl, by decide +kernel, rfl, by decide +kernel, by decide +kernel⟩
noncomputable abbrev s_law : Stmt := top 18
theorem sc_law : FnScope ["script", "span", "slow", "fast", "names", "tenants", "state", "k", "who", "now", "holds", "some", "time", "found"] ["script"] (defScope s_law) := ⟨rfl, rfl, rfl, by decide +kernel, rfl, by decide +kernel, by decide +kernel⟩
noncomputable abbrev ns_Tenant : List Str := ["me", "span", "wait", "begun_deed", "begun_time", "last_seen", "held"]
structure Txt (K : PySem.W.Frag) (mg : Str → Option Value) : Prop where
  d_wait_for : Df K mg "wait_for" s_wait_for ["span", "slow", "fast"]
  d_lease_of : Df K mg "lease_of" s_lease_of ["slate"]
  d_Tenant___init__ : DfM K mg "Tenant" "__init__" "Tenant.__init__" s_Tenant___init__ ["self", "me", "span", "slow", "fast"]
  d_Tenant_began : DfM K mg "Tenant" "began" "Tenant.began" s_Tenant_began ["self", "deed", "time"]
  d_Tenant_ended : DfM K mg "Tenant" "ended" "Tenant.ended" s_Tenant_ended ["self", "outcome", "time"]
  d_Tenant_wish : DfM K mg "Tenant" "wish" "Tenant.wish" s_Tenant_wish ["self", "time"]
  d_Tenant_believes : DfM K mg "Tenant" "believes" "Tenant.believes" s_Tenant_believes ["self", "time"]
  d_Tenant_seen : DfM K mg "Tenant" "seen" "Tenant.seen" s_Tenant_seen ["self"]
  d_Tenant_holds : DfM K mg "Tenant" "holds" "Tenant.holds" s_Tenant_holds ["self"]
  d_Tenant_begun_word : DfM K mg "Tenant" "begun_word" "Tenant.begun_word" s_Tenant_begun_word ["self"]
  d_Tenant_hear_answer : DfM K mg "Tenant" "hear_answer" "Tenant.hear_answer" s_Tenant_hear_answer ["self", "answer", "time"]
  d_Tenant_see : DfM K mg "Tenant" "see" "Tenant.see" s_Tenant_see ["self", "lease", "time"]
  d_law_cell_at : Df K mg "_law_cell_at" s_law_cell_at ["script", "k"]
  d_law_whole : Df K mg "_law_whole" s_law_whole ["found"]
  d_law_triple : Df K mg "_law_triple" s_law_triple ["found", "due"]
  d_law_span : Df K mg "_law_span" s_law_span ["number"]
  d_law_deed : Df K mg "_law_deed" s_law_deed ["number", "me", "lease"]
  d_law_outcome : Df K mg "_law_outcome" s_law_outcome ["deed", "lease", "me", "number"]
  d_law_lent_on : Df K mg "_law_lent_on" s_law_lent_on ["lease", "number", "names"]
  d_law_ended : Df K mg "_law_ended" s_law_ended ["state", "who", "me", "deed", "outcome"]
  d_law_event : Df K mg "_law_event" s_law_event ["state", "tenants", "names", "number", "k", "span"]
  d_law_names : Df K mg "_law_names" s_law_names ["number"]
  d_law_start : Df K mg "_law_start" s_law_start ["number"]
  d_law : Df K mg "law" s_law ["script"]
  c_Tenant : ClsT K mg "Tenant" ns_Tenant
  B : Bl3 mg
  kt : Kit K
section
variable [L2.TabP] {P : Program} {w : World} {K : PySem.W.Frag} {mg : Str → Option Value} {base : Heap}
noncomputable def b_wait_for : MS :=
    (cRet (c2 oDivB (c2 oSub (c2 oAdd (c2 oMulB (cVar 0) (cVar 2)) (cVar 1)) (cK (.int 1))) (cVar 1)))
noncomputable def m_wait_for : MF := fnOf 3 3 b_wait_for
theorem has_wait_for (T : Txt K mg) : Has P w K mg base "wait_for" ["span", "slow", "fast"] 1 (spF K mg m_wait_for) := by
  show Has P w K mg base _ _ _ (spF K mg (fnOf 3 3 b_wait_for))
  refine has_of (k := 0) T.d_wait_for sc_wait_for rfl rfl fun f cdv A outer s H E hr => ?_
  have hu := hr.units
  refine @WSs.un _ _ _ _ ?_
  refine @wss_one _ _ _ _ ?_
  · exact (ws_ret (we_op op_fdivB bDivB (we_op op_sub bSub (we_op op_add bAdd (we_op op_mulB bMulB (we_var 0) (we_var 2)) (we_var 1)) we_int) (we_var 1)))
noncomputable def b_lease_of : MS :=
    (cRet (c2 oIx (cVar 0) (cK (.int 2))))
noncomputable def m_lease_of : MF := fnOf 1 1 b_lease_of
theorem has_lease_of (T : Txt K mg) : Has P w K mg base "lease_of" ["slate"] 1 (spF K mg m_lease_of) := by
  show Has P w K mg base _ _ _ (spF K mg (fnOf 1 1 b_lease_of))
  refine has_of (k := 0) T.d_lease_of sc_lease_of rfl rfl fun f cdv A outer s H E hr => ?_
  have hu := hr.units
  refine @WSs.un _ _ _ _ ?_
  refine @wss_one _ _ _ _ ?_
  · exact (ws_ret (we_ix ix_seq bIx (we_var 0) we_int (fun _ _ => rfl)))
noncomputable def b_Tenant___init___6 : MS :=
    (cNoB (cTAn (pVar 0) "Tenant" ["me", "span", "wait", "begun_deed", "begun_time", "last_seen"] "held" (cK (.non))))
noncomputable def b_Tenant___init___5 : MS :=
    cSeq (cNoB (cTAn (pVar 0) "Tenant" ["me", "span", "wait", "begun_deed", "begun_time"] "last_seen" (cK (.non)))) b_Tenant___init___6
noncomputable def b_Tenant___init___4 : MS :=
    cSeq (cNoB (cTAn (pVar 0) "Tenant" ["me", "span", "wait", "begun_deed"] "begun_time" (cK (.int 0)))) b_Tenant___init___5
noncomputable def b_Tenant___init___3 : MS :=
    cSeq (cNoB (cTAn (pVar 0) "Tenant" ["me", "span", "wait"] "begun_deed" (cK (.non)))) b_Tenant___init___4
noncomputable def b_Tenant___init___2 : MS :=
    cSeq (cNoB (cTAn (pVar 0) "Tenant" ["me", "span"] "wait" (cCall m_wait_for (cCons (cVar 2) (cCons (cVar 3) (cCons (cVar 4) cNil)))))) b_Tenant___init___3
noncomputable def b_Tenant___init___1 : MS :=
    cSeq (cNoB (cTAn (pVar 0) "Tenant" ["me"] "span" (cVar 2))) b_Tenant___init___2
noncomputable def b_Tenant___init__ : MS :=
    cSeq (cNoB (cTAn (pVar 0) "Tenant" [] "me" (cVar 1))) b_Tenant___init___1
noncomputable def m_Tenant___init__ : MTR := fnTR 1 5 5 b_Tenant___init__
theorem has_Tenant___init__ (T : Txt K mg) : HasM P w K mg base "Tenant" "__init__" ["self", "me", "span", "slow", "fast"] 2 (spTR K mg m_Tenant___init__) := by
  show HasM P w K mg base _ _ _ _ (spTR K mg (fnTR 1 5 5 b_Tenant___init__))
  refine hasM_tr (k := 1) T.d_Tenant___init__ sc_Tenant___init__ rfl rfl fun f cdv A outer s H E hr => ?_
  have hu := hr.units
  refine @WRs.un _ _ _ _ ?_
  refine @wrs_cons _ _ _ _ _ _ ?_ (@wrs_cons _ _ _ _ _ _ ?_ (@wrs_cons _ _ _ _ _ _ ?_ (@wrs_cons _ _ _ _ _ _ ?_ (@wrs_cons _ _ _ _ _ _ ?_ (@wrs_cons _ _ _ _ _ _ ?_ (@wrs_one _ _ _ _ ?_))))))
  · exact (wr_of (ws_tan [] T.c_Tenant (wp_var 0) (we_var 1)))
  · exact (wr_of (ws_tan ["me"] T.c_Tenant (wp_var 0) (we_var 2)))
  · exact (wr_of (ws_tan ["me", "span"] T.c_Tenant (wp_var 0) (we_call (has_wait_for T) (hr.mono (by omega)) rfl (wa_cons (we_var 2) (wa_cons (we_var 3) (wa_cons (we_var 4) wa_nil))))))
  · exact (wr_of (ws_tan ["me", "span", "wait"] T.c_Tenant (wp_var 0) we_non))
  · exact (wr_of (ws_tan ["me", "span", "wait", "begun_deed"] T.c_Tenant (wp_var 0) we_int))
  · exact (wr_of (ws_tan ["me", "span", "wait", "begun_deed", "begun_time"] T.c_Tenant (wp_var 0) we_non))
  · exact (wr_of (ws_tan ["me", "span", "wait", "begun_deed", "begun_time", "last_seen"] T.c_Tenant (wp_var 0) we_non))
noncomputable def b_Tenant_begun_word_1 : MS :=
    (cRet (c2 oIx (cLeaf (pAt (pVar 0) "Tenant" 3 "begun_deed")) (cK (.int 0))))
noncomputable def b_Tenant_begun_word : MS :=
    cSeq (cIfS (cT (c2 oIsN (cLeaf (pAt (pVar 0) "Tenant" 3 "begun_deed")) (cK (.non)))) (cRet (cK (.non))) cPass) b_Tenant_begun_word_1
noncomputable def m_Tenant_begun_word : MTV := fnTV 1 1 b_Tenant_begun_word
theorem has_Tenant_begun_word (T : Txt K mg) : HasM P w K mg base "Tenant" "begun_word" ["self"] 1 (spTV K mg m_Tenant_begun_word) := by
  show HasM P w K mg base _ _ _ _ (spTV K mg (fnTV 1 1 b_Tenant_begun_word))
  refine hasM_tv (k := 0) T.d_Tenant_begun_word sc_Tenant_begun_word rfl rfl fun f cdv A outer s H E hr => ?_
  have hu := hr.units
  refine @WSs.un _ _ _ _ ?_
  refine @wss_cons _ _ _ _ _ _ ?_ (@wss_one _ _ _ _ ?_)
  · exact (ws_if (wt_cmp op_isN bIsN (we_leaf (wp_at 3 T.c_Tenant (wp_var 0))) we_non (nomark _)) (wss_one (ws_ret we_non)) wss_nil)
  · exact (ws_ret (we_ix ix_seq bIx (we_leaf (wp_at 3 T.c_Tenant (wp_var 0))) we_int (fun _ _ => rfl)))
noncomputable def b_Tenant_began_2 : MS :=
    (cNoB (cIfS (cT (c2 oEq (cTV (pVar 0) "Tenant" ns_Tenant m_Tenant_begun_word cNil) (cK (.str "free")))) (cTAt (pVar 0) "Tenant" 6 "held" (cK (.non))) cPass))
noncomputable def b_Tenant_began_1 : MS :=
    cSeq (cNoB (cTAt (pVar 0) "Tenant" 4 "begun_time" (cVar 2))) b_Tenant_began_2
noncomputable def b_Tenant_began : MS :=
    cSeq (cNoB (cTAt (pVar 0) "Tenant" 3 "begun_deed" (cVar 1))) b_Tenant_began_1
noncomputable def m_Tenant_began : MTR := fnTR 1 3 3 b_Tenant_began
theorem has_Tenant_began (T : Txt K mg) : HasM P w K mg base "Tenant" "began" ["self", "deed", "time"] 2 (spTR K mg m_Tenant_began) := by
  show HasM P w K mg base _ _ _ _ (spTR K mg (fnTR 1 3 3 b_Tenant_began))
  refine hasM_tr (k := 1) T.d_Tenant_began sc_Tenant_began rfl rfl fun f cdv A outer s H E hr => ?_
  have hu := hr.units
  refine @WRs.un _ _ _ _ ?_
  refine @wrs_cons _ _ _ _ _ _ ?_ (@wrs_cons _ _ _ _ _ _ ?_ (@wrs_one _ _ _ _ ?_))
  · exact (wr_of (ws_tat 3 T.c_Tenant (wp_var 0) (we_var 1)))
  · exact (wr_of (ws_tat 4 T.c_Tenant (wp_var 0) (we_var 2)))
  · exact (wr_of (ws_if (wt_cmp (op_eqD hu) bEq (we_tv0 (has_Tenant_begun_word T) ns_Tenant (hr.mono (by omega)) (wp_var 0)) we_str (nomark _)) (wss_one (ws_tat 6 T.c_Tenant (wp_var 0) we_non)) wss_nil))
noncomputable def b_Tenant_see_2 : MS :=
    (cNoB (cIfS (cT (c2 oNe (c2 oIx (cVar 1) (cK (.int 1))) (cLeaf (pAt (pVar 0) "Tenant" 0 "me")))) (cTAt (pVar 0) "Tenant" 6 "held" (cK (.non))) cPass))
noncomputable def b_Tenant_see_1 : MS :=
    cSeq (cNoB (cTAt (pVar 0) "Tenant" 5 "last_seen" (cTup (cCons (c2 oIx (cVar 1) (cK (.int 0))) (cCons (c2 oIx (cVar 1) (cK (.int 1))) (cCons (cVar 2) cNil)))))) b_Tenant_see_2
noncomputable def b_Tenant_see : MS :=
    cSeq (cNoB (cIfS (tAndM (cT (c2 oNotN (cLeaf (pAt (pVar 0) "Tenant" 5 "last_seen")) (cK (.non)))) (cT (c2 oEq (c2 oIx (cLeaf (pAt (pVar 0) "Tenant" 5 "last_seen")) (cK (.int 0))) (c2 oIx (cVar 1) (cK (.int 0)))))) (cSet 2 (c2 oIx (cLeaf (pAt (pVar 0) "Tenant" 5 "last_seen")) (cK (.int 2)))) cPass)) b_Tenant_see_1
noncomputable def m_Tenant_see : MTR := fnTR 1 3 3 b_Tenant_see
theorem has_Tenant_see (T : Txt K mg) : HasM P w K mg base "Tenant" "see" ["self", "lease", "time"] 1 (spTR K mg m_Tenant_see) := by
  show HasM P w K mg base _ _ _ _ (spTR K mg (fnTR 1 3 3 b_Tenant_see))
  refine hasM_tr (k := 0) T.d_Tenant_see sc_Tenant_see rfl rfl fun f cdv A outer s H E hr => ?_
  have hu := hr.units
  refine @WRs.un _ _ _ _ ?_
  refine @wrs_cons _ _ _ _ _ _ ?_ (@wrs_cons _ _ _ _ _ _ ?_ (@wrs_one _ _ _ _ ?_))
  · exact (wr_of (ws_if (WW.ct (ww_and (wt_cmp op_notN bNotN (we_leaf (wp_at 5 T.c_Tenant (wp_var 0))) we_non (nomark _)) (ww_and1 (wt_cmp (op_eqD hu) bEq (we_ix ix_seq bIx (we_leaf (wp_at 5 T.c_Tenant (wp_var 0))) we_int (fun _ _ => rfl)) (we_ix ix_seq bIx (we_var 1) we_int (fun _ _ => rfl)) (nomark _))))) (wss_one (ws_set (i := 2) sc_Tenant_see.nd rfl (Or.inl rfl) (we_ix ix_seq bIx (we_leaf (wp_at 5 T.c_Tenant (wp_var 0))) we_int (fun _ _ => rfl)))) wss_nil))
  · exact (wr_of (ws_tat 5 T.c_Tenant (wp_var 0) (we_tup (wa_cons (we_ix ix_seq bIx (we_var 1) we_int (fun _ _ => rfl)) (wa_cons (we_ix ix_seq bIx (we_var 1) we_int (fun _ _ => rfl)) (wa_cons (we_var 2) wa_nil))))))
  · exact (wr_of (ws_if (wt_cmp (op_neD hu) bNe (we_ix ix_seq bIx (we_var 1) we_int (fun _ _ => rfl)) (we_leaf (wp_at 0 T.c_Tenant (wp_var 0))) (nomark _)) (wss_one (ws_tat 6 T.c_Tenant (wp_var 0) we_non)) wss_nil))
noncomputable def b_Tenant_hear_answer_1 : MS :=
    (cNoB (cIfS (tAndM (cT (c2 oEq (c2 oIx (cVar 1) (cK (.int 0))) (cK (.int 1)))) (cT (c2 oNe (cTV (pVar 0) "Tenant" ns_Tenant m_Tenant_begun_word cNil) (cK (.str "free"))))) (cTAt (pVar 0) "Tenant" 6 "held" (cTup (cCons (c2 oIx (cVar 1) (cK (.int 1))) (cCons (cLeaf (pAt (pVar 0) "Tenant" 4 "begun_time")) cNil)))) cPass))
noncomputable def b_Tenant_hear_answer : MS :=
    cSeq (cNoB (cTM (pVar 0) "Tenant" ns_Tenant m_Tenant_see (cCons (cSl (cVar 1) (cPart (cK (.int 1))) cNoPart) (cCons (cVar 2) cNil)))) b_Tenant_hear_answer_1
noncomputable def m_Tenant_hear_answer : MTR := fnTR 1 3 3 b_Tenant_hear_answer
theorem has_Tenant_hear_answer (T : Txt K mg) : HasM P w K mg base "Tenant" "hear_answer" ["self", "answer", "time"] 2 (spTR K mg m_Tenant_hear_answer) := by
  show HasM P w K mg base _ _ _ _ (spTR K mg (fnTR 1 3 3 b_Tenant_hear_answer))
  refine hasM_tr (k := 1) T.d_Tenant_hear_answer sc_Tenant_hear_answer rfl rfl fun f cdv A outer s H E hr => ?_
  have hu := hr.units
  refine @WRs.un _ _ _ _ ?_
  refine @wrs_cons _ _ _ _ _ _ ?_ (@wrs_one _ _ _ _ ?_)
  · exact (wr_of (ws_tm (has_Tenant_see T) ns_Tenant (hr.mono (by omega)) (wp_var 0) (wa_cons (we_slice (we_var 1) (wo_some we_int) wo_none) (wa_cons (we_var 2) wa_nil))))
  · exact (wr_of (ws_if (WW.ct (ww_and (wt_cmp (op_eqD hu) bEq (we_ix ix_seq bIx (we_var 1) we_int (fun _ _ => rfl)) we_int (nomark _)) (ww_and1 (wt_cmp (op_neD hu) bNe (we_tv0 (has_Tenant_begun_word T) ns_Tenant (hr.mono (by omega)) (wp_var 0)) we_str (nomark _))))) (wss_one (ws_tat 6 T.c_Tenant (wp_var 0) (we_tup (wa_cons (we_ix ix_seq bIx (we_var 1) we_int (fun _ _ => rfl)) (wa_cons (we_leaf (wp_at 4 T.c_Tenant (wp_var 0))) wa_nil))))) wss_nil))
noncomputable def b_Tenant_ended : MS :=
    (cNoB (cIfS (cT (c2 oEq (c2 oIx (cVar 1) (cK (.int 0))) (cK (.str "saw")))) (cTM (pVar 0) "Tenant" ns_Tenant m_Tenant_see (cCons (cCall m_lease_of (cCons (c2 oIx (c2 oIx (cVar 1) (cK (.int 1))) (cK (.int 2))) cNil)) (cCons (cVar 2) cNil))) (cIfS (tAndM (cT (c2 oEq (c2 oIx (cVar 1) (cK (.int 0))) (cK (.str "did")))) (cT (c2 (oIn false) (cTV (pVar 0) "Tenant" ns_Tenant m_Tenant_begun_word cNil) (cTup (cCons (cK (.str "take")) (cCons (cK (.str "renew")) (cCons (cK (.str "free")) cNil))))))) (cTM (pVar 0) "Tenant" ns_Tenant m_Tenant_hear_answer (cCons (c2 oIx (cVar 1) (cK (.int 1))) (cCons (cVar 2) cNil))) cPass)))
noncomputable def m_Tenant_ended : MTR := fnTR 1 3 3 b_Tenant_ended
theorem has_Tenant_ended (T : Txt K mg) : HasM P w K mg base "Tenant" "ended" ["self", "outcome", "time"] 3 (spTR K mg m_Tenant_ended) := by
  show HasM P w K mg base _ _ _ _ (spTR K mg (fnTR 1 3 3 b_Tenant_ended))
  refine hasM_tr (k := 2) T.d_Tenant_ended sc_Tenant_ended rfl rfl fun f cdv A outer s H E hr => ?_
  have hu := hr.units
  refine @WRs.un _ _ _ _ ?_
  refine @wrs_one _ _ _ _ ?_
  · exact (wr_of (ws_if (wt_cmp (op_eqD hu) bEq (we_ix ix_seq bIx (we_var 1) we_int (fun _ _ => rfl)) we_str (nomark _)) (wss_one (ws_tm (has_Tenant_see T) ns_Tenant (hr.mono (by omega)) (wp_var 0) (wa_cons (we_call (has_lease_of T) (hr.mono (by omega)) rfl (wa_cons (we_ix ix_seq bIx (we_ix ix_seq bIx (we_var 1) we_int (fun _ _ => rfl)) we_int (fun _ _ => rfl)) wa_nil)) (wa_cons (we_var 2) wa_nil)))) (wss_one (ws_if (WW.ct (ww_and (wt_cmp (op_eqD hu) bEq (we_ix ix_seq bIx (we_var 1) we_int (fun _ _ => rfl)) we_str (nomark _)) (ww_and1 (wt_cmp op_in_seq (bIn false) (we_tv0 (has_Tenant_begun_word T) ns_Tenant (hr.mono (by omega)) (wp_var 0)) (we_tup (wa_cons we_str (wa_cons we_str (wa_cons we_str wa_nil)))) rfl)))) (wss_one (ws_tm (has_Tenant_hear_answer T) ns_Tenant (hr.mono (by omega)) (wp_var 0) (wa_cons (we_ix ix_seq bIx (we_var 1) we_int (fun _ _ => rfl)) (wa_cons (we_var 2) wa_nil)))) wss_nil))))
noncomputable def b_Tenant_believes : MS :=
    (cRet (cAnd (c2 oNotN (cLeaf (pAt (pVar 0) "Tenant" 6 "held")) (cK (.non))) (c2 oLt (c2 oSub (cVar 1) (c2 oIx (cLeaf (pAt (pVar 0) "Tenant" 6 "held")) (cK (.int 1)))) (cLeaf (pAt (pVar 0) "Tenant" 1 "span")))))
noncomputable def m_Tenant_believes : MTV := fnTV 2 2 b_Tenant_believes
theorem has_Tenant_believes (T : Txt K mg) : HasM P w K mg base "Tenant" "believes" ["self", "time"] 1 (spTV K mg m_Tenant_believes) := by
  show HasM P w K mg base _ _ _ _ (spTV K mg (fnTV 2 2 b_Tenant_believes))
  refine hasM_tv (k := 0) T.d_Tenant_believes sc_Tenant_believes rfl rfl fun f cdv A outer s H E hr => ?_
  have hu := hr.units
  refine @WSs.un _ _ _ _ ?_
  refine @wss_one _ _ _ _ ?_
  · exact (ws_ret (we_and (we_cmp op_notN bNotN (we_leaf (wp_at 6 T.c_Tenant (wp_var 0))) we_non (nomark _)) (we_one (we_cmp op_lt bLt (we_op op_sub bSub (we_var 1) (we_ix ix_seq bIx (we_leaf (wp_at 6 T.c_Tenant (wp_var 0))) we_int (fun _ _ => rfl))) (we_leaf (wp_at 1 T.c_Tenant (wp_var 0))) (nomark _)))))
noncomputable def b_Tenant_holds : MS :=
    (cRet (cLeaf (pAt (pVar 0) "Tenant" 6 "held")))
noncomputable def m_Tenant_holds : MTV := fnTV 1 1 b_Tenant_holds
theorem has_Tenant_holds (T : Txt K mg) : HasM P w K mg base "Tenant" "holds" ["self"] 1 (spTV K mg m_Tenant_holds) := by
  show HasM P w K mg base _ _ _ _ (spTV K mg (fnTV 1 1 b_Tenant_holds))
  refine hasM_tv (k := 0) T.d_Tenant_holds sc_Tenant_holds rfl rfl fun f cdv A outer s H E hr => ?_
  have hu := hr.units
  refine @WSs.un _ _ _ _ ?_
  refine @wss_one _ _ _ _ ?_
  · exact (ws_ret (we_leaf (wp_at 6 T.c_Tenant (wp_var 0))))
noncomputable def b_law_cell_at_1 : MS :=
    (cRet (cK (.int 0)))
noncomputable def b_law_cell_at : MS :=
    cSeq (cIfS (cT (c2 oLt (cVar 1) (cB fLen (cCons (cVar 0) cNil)))) (cRet (c2 oIx (cVar 0) (cVar 1))) cPass) b_law_cell_at_1
noncomputable def m_law_cell_at : MF := fnOf 2 2 b_law_cell_at
theorem has_law_cell_at (T : Txt K mg) : Has P w K mg base "_law_cell_at" ["script", "k"] 1 (spF K mg m_law_cell_at) := by
  show Has P w K mg base _ _ _ (spF K mg (fnOf 2 2 b_law_cell_at))
  refine has_of (k := 0) T.d_law_cell_at sc_law_cell_at rfl rfl fun f cdv A outer s H E hr => ?_
  have hu := hr.units
  refine @WSs.un _ _ _ _ ?_
  refine @wss_cons _ _ _ _ _ _ ?_ (@wss_one _ _ _ _ ?_)
  · exact (ws_if (wt_cmp op_lt bLt (we_var 1) (we_callB call_len_seq kLen rfl T.B.len bt_len (wa_cons (we_var 0) wa_nil)) (nomark _)) (wss_one (ws_ret (we_ix ix_seq bIx (we_var 0) (we_var 1) (fun _ _ => rfl)))) wss_nil)
  · exact (ws_ret we_int)
noncomputable def b_law_whole : MS :=
    (cRet (cAnd (cB fIsi (cCons (cVar 0) (cCons (cK (.ty "int")) cNil))) (cNot (cB fIsi (cCons (cVar 0) (cCons (cK (.ty "bool")) cNil))))))
noncomputable def m_law_whole : MF := fnOf 1 1 b_law_whole
theorem has_law_whole (T : Txt K mg) : Has P w K mg base "_law_whole" ["found"] 1 (spF K mg m_law_whole) := by
  show Has P w K mg base _ _ _ (spF K mg (fnOf 1 1 b_law_whole))
  refine has_of (k := 0) T.d_law_whole sc_law_whole rfl rfl fun f cdv A outer s H E hr => ?_
  have hu := hr.units
  refine @WSs.un _ _ _ _ ?_
  refine @wss_one _ _ _ _ ?_
  · exact (ws_ret (we_and (we_callB (call_isi T.kt) kIsi rfl T.B.isinstance bt_isinstance (wa_cons (we_var 0) (wa_cons (we_k (pe_bltn (v := .ty "int") rfl T.B.int' bt_int rfl) fun _ _ => rfl) wa_nil))) (we_one (we_not (we_callB (call_isi T.kt) kIsi rfl T.B.isinstance bt_isinstance (wa_cons (we_var 0) (wa_cons (we_k (pe_bltn (v := .ty "bool") rfl T.B.bool' bt_bool rfl) fun _ _ => rfl) wa_nil)))))))
noncomputable def l_law_triple_0 : MS :=
    (cIfS (tAndM (cT (c2 oNotN (cVar 2) (cK (.non)))) (tNotM (cT (cCall m_law_whole (cCons (cVar 2) cNil))))) (cRet (cK (.bl false))) cPass)
noncomputable def b_law_triple_3 : MS :=
    (cRet (c2 oEq (cVar 0) (cVar 1)))
noncomputable def b_law_triple_2 : MS :=
    cSeq (cFor 2 (iT (cVar 0)) l_law_triple_0) b_law_triple_3
noncomputable def b_law_triple_1 : MS :=
    cSeq (cIfS (tOrM (tNotM (cT (cB fIsi (cCons (cVar 0) (cCons (cK (.ty "tuple")) cNil))))) (cT (c2 oNe (cB fLen (cCons (cVar 0) cNil)) (cB fLen (cCons (cVar 1) cNil))))) (cRet (cK (.bl false))) cPass) b_law_triple_2
noncomputable def b_law_triple : MS :=
    cSeq (cIfS (tOrM (cT (c2 oIsN (cVar 1) (cK (.non)))) (cT (c2 oIsN (cVar 0) (cK (.non))))) (cRet (cAnd (c2 oIsN (cVar 0) (cK (.non))) (c2 oIsN (cVar 1) (cK (.non))))) cPass) b_law_triple_1
noncomputable def m_law_triple : MF := fnOf 2 3 b_law_triple
theorem has_law_triple (T : Txt K mg) : Has P w K mg base "_law_triple" ["found", "due"] 2 (spF K mg m_law_triple) := by
  show Has P w K mg base _ _ _ (spF K mg (fnOf 2 3 b_law_triple))
  refine has_of (k := 1) T.d_law_triple sc_law_triple rfl rfl fun f cdv A outer s H E hr => ?_
  have hu := hr.units
  refine @WSs.un _ _ _ _ ?_
  refine @wss_cons _ _ _ _ _ _ ?_ (@wss_cons _ _ _ _ _ _ ?_ (@wss_cons _ _ _ _ _ _ ?_ (@wss_one _ _ _ _ ?_)))
  · exact (ws_if (WW.ct (ww_or (wt_cmp op_isN bIsN (we_var 1) we_non (nomark _)) (ww_or1 (wt_cmp op_isN bIsN (we_var 0) we_non (nomark _))))) (wss_one (ws_ret (we_and (we_cmp op_isN bIsN (we_var 0) we_non (nomark _)) (we_one (we_cmp op_isN bIsN (we_var 1) we_non (nomark _)))))) wss_nil)
  · exact (ws_if (WW.ct (ww_or (wt_not (wt_val (we_callB (call_isi T.kt) kIsi rfl T.B.isinstance bt_isinstance (wa_cons (we_var 0) (wa_cons (we_k (pe_bltn (v := .ty "tuple") rfl T.B.tuple' bt_tuple rfl) fun _ _ => rfl) wa_nil))))) (ww_or1 (wt_cmp (op_neD hu) bNe (we_callB call_len_seq kLen rfl T.B.len bt_len (wa_cons (we_var 0) wa_nil)) (we_callB call_len_seq kLen rfl T.B.len bt_len (wa_cons (we_var 1) wa_nil)) (nomark _))))) (wss_one (ws_ret we_bl)) wss_nil)
  · exact (ws_for (i := 2) PassesOwn.never rfl (wf_tup (we_var 0)) sc_law_triple.nd rfl (Or.inl rfl) (wss_one (ws_if (WW.ct (ww_and (wt_cmp op_notN bNotN (we_var 2) we_non (nomark _)) (ww_and1 (wt_not (wt_val (we_call (has_law_whole T) (hr.mono (by omega)) rfl (wa_cons (we_var 2) wa_nil))))))) (wss_one (ws_ret we_bl)) wss_nil)))
  · exact (ws_ret (we_cmp (op_eqD hu) bEq (we_var 0) (we_var 1) (nomark _)))
noncomputable def b_law_span_1 : MS :=
    (cRet (c2 oAdd (cK (.int 1)) (c2 oMod (cVar 0) (cK (.int 50)))))
noncomputable def b_law_span : MS :=
    cSeq (cIfS (cT (c2 oEq (c2 oMod (c2 oDivB (cVar 0) (cK (.int 50))) (cK (.int 4))) (cK (.int 1)))) (cRet (c2 oAdd (cK (.int 1)) (c2 oMod (c2 oDivB (cVar 0) (cK (.int 200))) (c2 oPow (cK (.int 10)) (cK (.int 50)))))) cPass) b_law_span_1
noncomputable def m_law_span : MF := fnOf 1 1 b_law_span
theorem has_law_span (T : Txt K mg) : Has P w K mg base "_law_span" ["number"] 1 (spF K mg m_law_span) := by
  show Has P w K mg base _ _ _ (spF K mg (fnOf 1 1 b_law_span))
  refine has_of (k := 0) T.d_law_span sc_law_span rfl rfl fun f cdv A outer s H E hr => ?_
  have hu := hr.units
  refine @WSs.un _ _ _ _ ?_
  refine @wss_cons _ _ _ _ _ _ ?_ (@wss_one _ _ _ _ ?_)
  · exact (ws_if (wt_cmp (op_eqD hu) bEq (we_op op_mod bMod (we_op op_fdivB bDivB (we_var 0) we_int) we_int) we_int (nomark _)) (wss_one (ws_ret (we_op op_add bAdd we_int (we_op op_mod bMod (we_op op_fdivB bDivB (we_var 0) we_int) (we_op op_pow bPow we_int we_int))))) wss_nil)
  · exact (ws_ret (we_op op_add bAdd we_int (we_op op_mod bMod (we_var 0) we_int)))
noncomputable def b_law_deed_5 : MS :=
    (cRet (cTup (cCons (cK (.str "take")) (cCons (cVar 4) cNil))))
noncomputable def b_law_deed_4 : MS :=
    cSeq (cIfS (tOrM (cT (c2 oEq (c2 oIx (cVar 2) (cK (.int 1))) (cVar 1))) (cT (c2 oGt (cVar 3) (cK (.int 13))))) (cRet (cTup (cCons (c2 oIx (cLst (cCons (cK (.str "renew")) (cCons (cK (.str "renew")) (cCons (cK (.str "free")) (cCons (cK (.str "take")) cNil))))) (c2 oMod (c2 oDivB (cVar 0) (cK (.int 16))) (cK (.int 4)))) (cCons (cVar 4) cNil)))) cPass) b_law_deed_5
noncomputable def b_law_deed_3 : MS :=
    cSeq (cIfS (cT (c2 oEq (cVar 3) (cK (.int 3)))) (cSeq (cSet 5 (cLst (cCons (cTup (cCons (cK (.str "put")) (cCons (cK (.str "pot")) (cCons (c2 oMod (cVar 0) (c2 oPow (cK (.int 10)) (cK (.int 40)))) cNil)))) (cCons (cTup (cCons (cK (.str "sure")) (cCons (cVar 4) (cCons (cK (.str "pan")) (cCons (cK (.int 5)) cNil))))) (cCons (cTup (cCons (cK (.str "add")) (cCons (cK (.str "pot")) (cCons (c2 oMod (c1 oNeg (cVar 0)) (c2 oPow (cK (.int 10)) (cK (.int 40)))) cNil)))) cNil)))))
    (cSeq (cIfS (cT (c2 oEq (c2 oMod (c2 oDivB (cVar 0) (cK (.int 16))) (cK (.int 9))) (cK (.int 8)))) (cRet (cTup (cCons (cK (.str "end")) cNil))) cPass)
    (cRet (c2 oIx (cVar 5) (c2 oMod (c2 oDivB (cVar 0) (cK (.int 16))) (cK (.int 3))))))) cPass) b_law_deed_4
noncomputable def b_law_deed_2 : MS :=
    cSeq (cSet 4 (cB fMax2 (cCons (cK (.int 0)) (cCons (c2 oAdd (c2 oIx (cVar 2) (cK (.int 0))) (c2 oIx (cLst (cCons (cK (.int 0)) (cCons (cK (.int 0)) (cCons (cK (.int 0)) (cCons (cK (.int 0)) (cCons (cK (.int 0)) (cCons (cK (.int 0)) (cCons (cK (.int 1)) (cCons (c1 oNeg (cK (.int 1))) cNil))))))))) (c2 oMod (c2 oDivB (cVar 0) (cK (.int 64))) (cK (.int 8))))) cNil)))) b_law_deed_3
noncomputable def b_law_deed_1 : MS :=
    cSeq (cIfS (cT (c2 oLt (cVar 3) (cK (.int 3)))) (cRet (cK (.non))) cPass) b_law_deed_2
noncomputable def b_law_deed : MS :=
    cSeq (cSet 3 (c2 oMod (cVar 0) (cK (.int 16)))) b_law_deed_1
noncomputable def m_law_deed : MF := fnOf 3 6 b_law_deed
theorem has_law_deed (T : Txt K mg) : Has P w K mg base "_law_deed" ["number", "me", "lease"] 1 (spF K mg m_law_deed) := by
  show Has P w K mg base _ _ _ (spF K mg (fnOf 3 6 b_law_deed))
  refine has_of (k := 0) T.d_law_deed sc_law_deed rfl rfl fun f cdv A outer s H E hr => ?_
  have hu := hr.units
  refine @WSs.un _ _ _ _ ?_
  refine @wss_cons _ _ _ _ _ _ ?_ (@wss_cons _ _ _ _ _ _ ?_ (@wss_cons _ _ _ _ _ _ ?_ (@wss_cons _ _ _ _ _ _ ?_ (@wss_cons _ _ _ _ _ _ ?_ (@wss_one _ _ _ _ ?_)))))
  · exact (ws_set (i := 3) sc_law_deed.nd rfl (Or.inl rfl) (we_op op_mod bMod (we_var 0) we_int))
  · exact (ws_if (wt_cmp op_lt bLt (we_var 3) we_int (nomark _)) (wss_one (ws_ret we_non)) wss_nil)
  · exact (ws_set (i := 4) sc_law_deed.nd rfl (Or.inl rfl) (we_callB (call_max2 rfl) k2I rfl T.B.max bt_max (wa_cons we_int (wa_cons (we_op op_add bAdd (we_ix ix_seq bIx (we_var 2) we_int (fun _ _ => rfl)) (we_ix ix_seq bIx (we_lst (wa_cons we_int (wa_cons we_int (wa_cons we_int (wa_cons we_int (wa_cons we_int (wa_cons we_int (wa_cons we_int (wa_cons (we_neg we_int) wa_nil))))))))) (we_op op_mod bMod (we_op op_fdivB bDivB (we_var 0) we_int) we_int) (fun _ _ => rfl))) wa_nil))))
  · exact (ws_if (wt_cmp (op_eqD hu) bEq (we_var 3) we_int (nomark _)) (wss_cons (ws_set (i := 5) sc_law_deed.nd rfl (Or.inl rfl) (we_lst (wa_cons (we_tup (wa_cons we_str (wa_cons we_str (wa_cons (we_op op_mod bMod (we_var 0) (we_op op_pow bPow we_int we_int)) wa_nil)))) (wa_cons (we_tup (wa_cons we_str (wa_cons (we_var 4) (wa_cons we_str (wa_cons we_int wa_nil))))) (wa_cons (we_tup (wa_cons we_str (wa_cons we_str (wa_cons (we_op op_mod bMod (we_neg (we_var 0)) (we_op op_pow bPow we_int we_int)) wa_nil)))) wa_nil)))))
    (wss_cons (ws_if (wt_cmp (op_eqD hu) bEq (we_op op_mod bMod (we_op op_fdivB bDivB (we_var 0) we_int) we_int) we_int (nomark _)) (wss_one (ws_ret (we_tup (wa_cons we_str wa_nil)))) wss_nil)
    (wss_one (ws_ret (we_ix ix_seq bIx (we_var 5) (we_op op_mod bMod (we_op op_fdivB bDivB (we_var 0) we_int) we_int) (fun _ _ => rfl)))))) wss_nil)
  · exact (ws_if (WW.ct (ww_or (wt_cmp (op_eqD hu) bEq (we_ix ix_seq bIx (we_var 2) we_int (fun _ _ => rfl)) (we_var 1) (nomark _)) (ww_or1 (wt_cmp op_gt bGt (we_var 3) we_int (nomark _))))) (wss_one (ws_ret (we_tup (wa_cons (we_ix ix_seq bIx (we_lst (wa_cons we_str (wa_cons we_str (wa_cons we_str (wa_cons we_str wa_nil))))) (we_op op_mod bMod (we_op op_fdivB bDivB (we_var 0) we_int) we_int) (fun _ _ => rfl)) (wa_cons (we_var 4) wa_nil))))) wss_nil)
  · exact (ws_ret (we_tup (wa_cons we_str (wa_cons (we_var 4) wa_nil))))
noncomputable def b_law_outcome_6 : MS :=
    (cRet (cLst (cCons (cVar 1) (cCons (cTup (cCons (cK (.str "did")) (cCons (cTup (cCons (cB fInt (cCons (cVar 6) cNil)) (cCons (c2 oIx (cVar 1) (cK (.int 0))) (cCons (c2 oIx (cVar 1) (cK (.int 1))) cNil)))) cNil))) cNil))))
noncomputable def b_law_outcome_5 : MS :=
    cSeq (cIfS (cT (cVar 6)) (cSet 1 (cTup (cCons (c2 oAdd (c2 oIx (cVar 1) (cK (.int 0))) (cK (.int 1))) (cCons (c2 oIx (cLst (cCons (cVar 2) (cCons (cK (.non)) cNil))) (cB fInt (cCons (c2 oEq (c2 oIx (cVar 0) (cK (.int 0))) (cK (.str "free"))) cNil))) cNil)))) cPass) b_law_outcome_6
noncomputable def b_law_outcome_4 : MS :=
    cSeq (cSet 6 (cAnd (c2 oEq (c2 oIx (cVar 0) (cK (.int 1))) (c2 oIx (cVar 1) (cK (.int 0)))) (cOr (c2 oEq (c2 oIx (cVar 0) (cK (.int 0))) (cK (.str "take"))) (c2 oEq (c2 oIx (cVar 1) (cK (.int 1))) (cVar 2))))) b_law_outcome_5
noncomputable def b_law_outcome_3 : MS :=
    cSeq (cIfS (cT (c2 oEq (c2 oIx (cVar 0) (cK (.int 0))) (cK (.str "sure")))) (cRet (cLst (cCons (cVar 1) (cCons (cTup (cCons (cK (.str "did")) (cCons (cB fInt (cCons (c2 oEq (cVar 1) (cTup (cCons (c2 oIx (cVar 0) (cK (.int 1))) (cCons (cVar 2) cNil)))) cNil)) cNil))) cNil)))) cPass) b_law_outcome_4
noncomputable def b_law_outcome_2 : MS :=
    cSeq (cIfS (tOrM (cT (c2 oEq (c2 oIx (cVar 0) (cK (.int 0))) (cK (.str "put")))) (cT (c2 oEq (c2 oIx (cVar 0) (cK (.int 0))) (cK (.str "add"))))) (cRet (cLst (cCons (cVar 1) (cCons (cTup (cCons (cK (.str "did")) (cCons (c2 oMod (cVar 3) (c2 oPow (cK (.int 10)) (cK (.int 40)))) cNil))) cNil)))) cPass) b_law_outcome_3
noncomputable def b_law_outcome_1 : MS :=
    cSeq (cIfS (cT (c2 oEq (c2 oIx (cVar 0) (cK (.int 0))) (cK (.str "end")))) (cRet (cLst (cCons (cVar 1) (cCons (cTup (cCons (cK (.str "did")) (cCons (cK (.int 1)) cNil))) cNil)))) cPass) b_law_outcome_2
noncomputable def b_law_outcome : MS :=
    cSeq (cIfS (cT (c2 oIsN (cVar 0) (cK (.non)))) (cSeq (cSet 4 (c2 oIx (cLst (cCons (cTup (cCons (cK (.int 0)) (cCons (cK (.int 0)) cNil))) (cCons (cTup (cCons (c2 oAdd (cK (.int 1)) (c2 oMod (c2 oDivB (cVar 3) (cK (.int 8))) (cK (.int 9)))) (cCons (cVar 2) cNil))) cNil))) (c2 oMod (c2 oDivB (cVar 3) (cK (.int 4))) (cK (.int 2)))))
    (cSeq (cSet 5 (cTup (cCons (c2 oIx (cLst (cCons (cTup cNil) (cCons (cTup (cCons (cTup (cCons (cK (.str "pot")) (cCons (cK (.int 7)) cNil))) cNil)) cNil))) (c2 oMod (c2 oDivB (cVar 3) (cK (.int 72))) (cK (.int 2)))) (cCons (cTup (cCons (cTup (cCons (cK (.int 0)) (cCons (cK (.int 3)) (cCons (cK (.int 5)) cNil)))) cNil)) (cCons (cVar 1) (cCons (cK (.non)) cNil))))))
    (cSeq (cIfS (cT (c2 oEq (c2 oMod (c2 oDivB (cVar 3) (cK (.int 144))) (cK (.int 12))) (cK (.int 5)))) (cRet (cLst (cCons (cVar 1) (cCons (cTup (cCons (cK (.str "saw")) (cCons (cTup (cCons (c2 oMod (cVar 3) (cK (.int 4))) (cCons (cK (.non)) (cCons (c2 oCatT (cSl (cVar 5) cNoPart (cPart (cK (.int 3)))) (cTup (cCons (cK (.str "over")) cNil))) cNil)))) cNil))) cNil)))) cPass)
    (cRet (cLst (cCons (cVar 1) (cCons (cTup (cCons (cK (.str "saw")) (cCons (cTup (cCons (c2 oMod (cVar 3) (cK (.int 4))) (cCons (cVar 4) (cCons (cVar 5) cNil)))) cNil))) cNil))))))) cPass) b_law_outcome_1
noncomputable def m_law_outcome : MF := fnOf 4 7 b_law_outcome
theorem has_law_outcome (T : Txt K mg) : Has P w K mg base "_law_outcome" ["deed", "lease", "me", "number"] 1 (spF K mg m_law_outcome) := by
  show Has P w K mg base _ _ _ (spF K mg (fnOf 4 7 b_law_outcome))
  refine has_of (k := 0) T.d_law_outcome sc_law_outcome rfl rfl fun f cdv A outer s H E hr => ?_
  have hu := hr.units
  refine @WSs.un _ _ _ _ ?_
  refine @wss_cons _ _ _ _ _ _ ?_ (@wss_cons _ _ _ _ _ _ ?_ (@wss_cons _ _ _ _ _ _ ?_ (@wss_cons _ _ _ _ _ _ ?_ (@wss_cons _ _ _ _ _ _ ?_ (@wss_cons _ _ _ _ _ _ ?_ (@wss_one _ _ _ _ ?_))))))
  · exact (ws_if (wt_cmp op_isN bIsN (we_var 0) we_non (nomark _)) (wss_cons (ws_set (i := 4) sc_law_outcome.nd rfl (Or.inl rfl) (we_ix ix_seq bIx (we_lst (wa_cons (we_tup (wa_cons we_int (wa_cons we_int wa_nil))) (wa_cons (we_tup (wa_cons (we_op op_add bAdd we_int (we_op op_mod bMod (we_op op_fdivB bDivB (we_var 3) we_int) we_int)) (wa_cons (we_var 2) wa_nil))) wa_nil))) (we_op op_mod bMod (we_op op_fdivB bDivB (we_var 3) we_int) we_int) (fun _ _ => rfl)))
    (wss_cons (ws_set (i := 5) sc_law_outcome.nd rfl (Or.inl rfl) (we_tup (wa_cons (we_ix ix_seq bIx (we_lst (wa_cons (we_tup wa_nil) (wa_cons (we_tup (wa_cons (we_tup (wa_cons we_str (wa_cons we_int wa_nil))) wa_nil)) wa_nil))) (we_op op_mod bMod (we_op op_fdivB bDivB (we_var 3) we_int) we_int) (fun _ _ => rfl)) (wa_cons (we_tup (wa_cons (we_tup (wa_cons we_int (wa_cons we_int (wa_cons we_int wa_nil)))) wa_nil)) (wa_cons (we_var 1) (wa_cons we_non wa_nil))))))
    (wss_cons (ws_if (wt_cmp (op_eqD hu) bEq (we_op op_mod bMod (we_op op_fdivB bDivB (we_var 3) we_int) we_int) we_int (nomark _)) (wss_one (ws_ret (we_lst (wa_cons (we_var 1) (wa_cons (we_tup (wa_cons we_str (wa_cons (we_tup (wa_cons (we_op op_mod bMod (we_var 3) we_int) (wa_cons we_non (wa_cons (we_op op_catD bCatT (we_slice (we_var 5) wo_none (wo_some we_int)) (we_tup (wa_cons we_str wa_nil))) wa_nil)))) wa_nil))) wa_nil))))) wss_nil)
    (wss_one (ws_ret (we_lst (wa_cons (we_var 1) (wa_cons (we_tup (wa_cons we_str (wa_cons (we_tup (wa_cons (we_op op_mod bMod (we_var 3) we_int) (wa_cons (we_var 4) (wa_cons (we_var 5) wa_nil)))) wa_nil))) wa_nil)))))))) wss_nil)
  · exact (ws_if (wt_cmp (op_eqD hu) bEq (we_ix ix_seq bIx (we_var 0) we_int (fun _ _ => rfl)) we_str (nomark _)) (wss_one (ws_ret (we_lst (wa_cons (we_var 1) (wa_cons (we_tup (wa_cons we_str (wa_cons we_int wa_nil))) wa_nil))))) wss_nil)
  · exact (ws_if (WW.ct (ww_or (wt_cmp (op_eqD hu) bEq (we_ix ix_seq bIx (we_var 0) we_int (fun _ _ => rfl)) we_str (nomark _)) (ww_or1 (wt_cmp (op_eqD hu) bEq (we_ix ix_seq bIx (we_var 0) we_int (fun _ _ => rfl)) we_str (nomark _))))) (wss_one (ws_ret (we_lst (wa_cons (we_var 1) (wa_cons (we_tup (wa_cons we_str (wa_cons (we_op op_mod bMod (we_var 3) (we_op op_pow bPow we_int we_int)) wa_nil))) wa_nil))))) wss_nil)
  · exact (ws_if (wt_cmp (op_eqD hu) bEq (we_ix ix_seq bIx (we_var 0) we_int (fun _ _ => rfl)) we_str (nomark _)) (wss_one (ws_ret (we_lst (wa_cons (we_var 1) (wa_cons (we_tup (wa_cons we_str (wa_cons (we_callTy call_int1 kInt rfl T.B.int' bt_int (wa_cons (we_cmp (op_eqD hu) bEq (we_var 1) (we_tup (wa_cons (we_ix ix_seq bIx (we_var 0) we_int (fun _ _ => rfl)) (wa_cons (we_var 2) wa_nil))) (nomark _)) wa_nil)) wa_nil))) wa_nil))))) wss_nil)
  · exact (ws_set (i := 6) sc_law_outcome.nd rfl (Or.inl rfl) (we_and (we_cmp (op_eqD hu) bEq (we_ix ix_seq bIx (we_var 0) we_int (fun _ _ => rfl)) (we_ix ix_seq bIx (we_var 1) we_int (fun _ _ => rfl)) (nomark _)) (we_one (we_or (we_cmp (op_eqD hu) bEq (we_ix ix_seq bIx (we_var 0) we_int (fun _ _ => rfl)) we_str (nomark _)) (we_one (we_cmp (op_eqD hu) bEq (we_ix ix_seq bIx (we_var 1) we_int (fun _ _ => rfl)) (we_var 2) (nomark _)))))))
  · exact (ws_if (wt_val (we_var 6)) (wss_one (ws_set (i := 1) sc_law_outcome.nd rfl (Or.inl rfl) (we_tup (wa_cons (we_op op_add bAdd (we_ix ix_seq bIx (we_var 1) we_int (fun _ _ => rfl)) we_int) (wa_cons (we_ix ix_seq bIx (we_lst (wa_cons (we_var 2) (wa_cons we_non wa_nil))) (we_callTy call_int1 kInt rfl T.B.int' bt_int (wa_cons (we_cmp (op_eqD hu) bEq (we_ix ix_seq bIx (we_var 0) we_int (fun _ _ => rfl)) we_str (nomark _)) wa_nil)) (fun _ _ => rfl)) wa_nil))))) wss_nil)
  · exact (ws_ret (we_lst (wa_cons (we_var 1) (wa_cons (we_tup (wa_cons we_str (wa_cons (we_tup (wa_cons (we_callTy call_int1 kInt rfl T.B.int' bt_int (wa_cons (we_var 6) wa_nil)) (wa_cons (we_ix ix_seq bIx (we_var 1) we_int (fun _ _ => rfl)) (wa_cons (we_ix ix_seq bIx (we_var 1) we_int (fun _ _ => rfl)) wa_nil)))) wa_nil))) wa_nil))))
noncomputable def b_law_lent_on_3 : MS :=
    (cRet (cTup (cCons (c2 oAdd (c2 oIx (cVar 0) (cK (.int 0))) (cK (.int 1))) (cCons (c2 oIx (cVar 3) (c2 oMod (c2 oDivB (cVar 1) (cK (.int 16))) (cK (.int 4)))) cNil))))
noncomputable def b_law_lent_on_2 : MS :=
    cSeq (cSet 3 (cComp 1 [2] (iR1 (cCons (cK (.int 6)) cNil)) (cT (c2 (oIn true) (cVar 0) (cVar 1))) (cVar 0))) b_law_lent_on_3
noncomputable def b_law_lent_on_1 : MS :=
    cSeq (cIfS (cT (c2 oEq (c2 oMod (c2 oDivB (cVar 1) (cK (.int 4))) (cK (.int 4))) (cK (.int 0)))) (cRet (cTup (cCons (c2 oAdd (c2 oIx (cVar 0) (cK (.int 0))) (cK (.int 1))) (cCons (cK (.non)) cNil)))) cPass) b_law_lent_on_2
noncomputable def b_law_lent_on : MS :=
    cSeq (cIfS (cT (c2 oGt (c2 oMod (cVar 1) (cK (.int 4))) (cK (.int 0)))) (cRet (cVar 0)) cPass) b_law_lent_on_1
noncomputable def m_law_lent_on : MF := fnOf 3 4 b_law_lent_on
theorem has_law_lent_on (T : Txt K mg) : Has P w K mg base "_law_lent_on" ["lease", "number", "names"] 1 (spF K mg m_law_lent_on) := by
  show Has P w K mg base _ _ _ (spF K mg (fnOf 3 4 b_law_lent_on))
  refine has_of (k := 0) T.d_law_lent_on sc_law_lent_on rfl rfl fun f cdv A outer s H E hr => ?_
  have hu := hr.units
  refine @WSs.un _ _ _ _ ?_
  refine @wss_cons _ _ _ _ _ _ ?_ (@wss_cons _ _ _ _ _ _ ?_ (@wss_cons _ _ _ _ _ _ ?_ (@wss_one _ _ _ _ ?_)))
  · exact (ws_if (wt_cmp op_gt bGt (we_op op_mod bMod (we_var 1) we_int) we_int (nomark _)) (wss_one (ws_ret (we_var 0))) wss_nil)
  · exact (ws_if (wt_cmp (op_eqD hu) bEq (we_op op_mod bMod (we_op op_fdivB bDivB (we_var 1) we_int) we_int) we_int (nomark _)) (wss_one (ws_ret (we_tup (wa_cons (we_op op_add bAdd (we_ix ix_seq bIx (we_var 0) we_int (fun _ _ => rfl)) we_int) (wa_cons we_non wa_nil))))) wss_nil)
  · exact (ws_asgS (i := 3) (esc := (defScope s_law_lent_on)) (EN := ["lease", "number", "names", "others"]) (N := ["asker", "names"]) (n := 1) (cap := [2]) ⟨rfl, by decide +kernel, by decide +kernel, by decide +kernel, by decide +kernel, rfl, by decide +kernel⟩ sc_law_lent_on.nd rfl rfl (by decide) (wc_range1 rfl T.B.range (wa_cons we_int wa_nil)) rfl (fun _ _ _ _ => ⟨Or.inl rfl, rfl⟩) (fun _ _ _ _ => (wfs_one (wt_cmp op_notIn_seq (bIn true) (we_var 0) (we_var 1) rfl))) (fun _ _ _ _ => (we_var 0)))
  · exact (ws_ret (we_tup (wa_cons (we_op op_add bAdd (we_ix ix_seq bIx (we_var 0) we_int (fun _ _ => rfl)) we_int) (wa_cons (we_ix ix_seq bIx (we_var 3) (we_op op_mod bMod (we_op op_fdivB bDivB (we_var 1) we_int) we_int) (fun _ _ => rfl)) wa_nil))))
noncomputable def b_law_ended_4 : MS :=
    (cNoB (cIfS (cT (c2 oNe (c2 oIx (cVar 5) (cK (.int 1))) (cVar 2))) (cTIx (pDk (pVar 0) 5 "holds") (cVar 1) (cK (.non))) (cIfS (tAndM (cT (c2 oNotN (cVar 3) (cK (.non)))) (tAndM (cT (c2 oNe (c2 oIx (cVar 3) (cK (.int 0))) (cK (.str "free")))) (cT (c2 oEq (c2 oIx (c2 oIx (cVar 4) (cK (.int 1))) (cK (.int 0))) (cK (.int 1)))))) (cTIx (pDk (pVar 0) 5 "holds") (cVar 1) (cTup (cCons (c2 oIx (cVar 5) (cK (.int 0))) (cCons (cLeaf (pIx (pDk (pVar 0) 6 "begun") (cVar 1))) cNil)))) cPass)))
noncomputable def b_law_ended_3 : MS :=
    cSeq (cNoB (cIfS (tOrM (cT (c2 oIsN (cVar 6) (cK (.non)))) (cT (c2 oNe (c2 oIx (cVar 6) (cK (.int 0))) (c2 oIx (cVar 5) (cK (.int 0)))))) (cTIx (pDk (pVar 0) 4 "seen") (cVar 1) (cTup (cCons (c2 oIx (cVar 5) (cK (.int 0))) (cCons (c2 oIx (cVar 5) (cK (.int 1))) (cCons (cLeaf (pIx (pDk (pVar 0) 3 "times") (cVar 1))) cNil))))) cPass)) b_law_ended_4
noncomputable def b_law_ended_2 : MS :=
    cSeq (cNoB (cSet 6 (cLeaf (pIx (pDk (pVar 0) 4 "seen") (cVar 1))))) b_law_ended_3
noncomputable def b_law_ended_1 : MS :=
    cSeq (cNoB (cSet 5 (cLeaf (pDk (pVar 0) 0 "lease")))) b_law_ended_2
noncomputable def b_law_ended : MS :=
    cSeq (cIfS (tOrM (cT (c2 oEq (c2 oIx (cVar 4) (cK (.int 0))) (cK (.str "over")))) (tAndM (cT (c2 oNotN (cVar 3) (cK (.non)))) (cT (c2 (oIn true) (c2 oIx (cVar 3) (cK (.int 0))) (cTup (cCons (cK (.str "take")) (cCons (cK (.str "renew")) (cCons (cK (.str "free")) cNil)))))))) cBrk cPass) b_law_ended_1
noncomputable def m_law_ended : MTR := fnTR 1 5 7 b_law_ended
theorem has_law_ended (T : Txt K mg) : Has P w K mg base "_law_ended" ["state", "who", "me", "deed", "outcome"] 1 (spTR K mg m_law_ended) := by
  show Has P w K mg base _ _ _ (spTR K mg (fnTR 1 5 7 b_law_ended))
  refine has_tr (k := 0) T.d_law_ended sc_law_ended rfl rfl fun f cdv A outer s H E hr => ?_
  have hu := hr.units
  refine @WRs.un _ _ _ _ ?_
  refine @wrs_cons _ _ _ _ _ _ ?_ (@wrs_cons _ _ _ _ _ _ ?_ (@wrs_cons _ _ _ _ _ _ ?_ (@wrs_cons _ _ _ _ _ _ ?_ (@wrs_one _ _ _ _ ?_))))
  · exact (wr_if (WW.ct (ww_or (wt_cmp (op_eqD hu) bEq (we_ix ix_seq bIx (we_var 4) we_int (fun _ _ => rfl)) we_str (nomark _)) (ww_or1 (WW.ct (ww_and (wt_cmp op_notN bNotN (we_var 3) we_non (nomark _)) (ww_and1 (wt_cmp op_notIn_seq (bIn true) (we_ix ix_seq bIx (we_var 3) we_int (fun _ _ => rfl)) (we_tup (wa_cons we_str (wa_cons we_str (wa_cons we_str wa_nil)))) rfl))))))) (wrs_one wr_retN) wrs_nil)
  · exact (wr_of (ws_set (i := 5) sc_law_ended.nd rfl (Or.inl rfl) (we_leaf (wp_dk 0 hu (wp_var 0)))))
  · exact (wr_of (ws_set (i := 6) sc_law_ended.nd rfl (Or.inl rfl) (we_leaf (wp_ix (wp_dk 4 hu (wp_var 0)) (we_var 1) (fun _ _ => rfl)))))
  · exact (wr_of (ws_if (WW.ct (ww_or (wt_cmp op_isN bIsN (we_var 6) we_non (nomark _)) (ww_or1 (wt_cmp (op_neD hu) bNe (we_ix ix_seq bIx (we_var 6) we_int (fun _ _ => rfl)) (we_ix ix_seq bIx (we_var 5) we_int (fun _ _ => rfl)) (nomark _))))) (wss_one (ws_tix (wp_dk 4 hu (wp_var 0)) (we_var 1) (we_tup (wa_cons (we_ix ix_seq bIx (we_var 5) we_int (fun _ _ => rfl)) (wa_cons (we_ix ix_seq bIx (we_var 5) we_int (fun _ _ => rfl)) (wa_cons (we_leaf (wp_ix (wp_dk 3 hu (wp_var 0)) (we_var 1) (fun _ _ => rfl))) wa_nil)))))) wss_nil))
  · exact (wr_of (ws_if (wt_cmp (op_neD hu) bNe (we_ix ix_seq bIx (we_var 5) we_int (fun _ _ => rfl)) (we_var 2) (nomark _)) (wss_one (ws_tix (wp_dk 5 hu (wp_var 0)) (we_var 1) we_non)) (wss_one (ws_if (WW.ct (ww_and (wt_cmp op_notN bNotN (we_var 3) we_non (nomark _)) (ww_and (wt_cmp (op_neD hu) bNe (we_ix ix_seq bIx (we_var 3) we_int (fun _ _ => rfl)) we_str (nomark _)) (ww_and1 (wt_cmp (op_eqD hu) bEq (we_ix ix_seq bIx (we_ix ix_seq bIx (we_var 4) we_int (fun _ _ => rfl)) we_int (fun _ _ => rfl)) we_int (nomark _)))))) (wss_one (ws_tix (wp_dk 5 hu (wp_var 0)) (we_var 1) (we_tup (wa_cons (we_ix ix_seq bIx (we_var 5) we_int (fun _ _ => rfl)) (wa_cons (we_leaf (wp_ix (wp_dk 6 hu (wp_var 0)) (we_var 1) (fun _ _ => rfl))) wa_nil))))) wss_nil))))
noncomputable def l_law_event_0 : MS :=
    (cSeq (cSet 10 (c2 oMod (c2 oMulB (c2 oDivB (cVar 6) (c2 oAdd (cK (.int 3)) (cVar 9))) (c2 oAdd (cK (.int 1)) (c2 oDivB (cVar 5) (c2 oPow (cK (.int 10)) (cK (.int 9)))))) (c2 oAdd (cVar 5) (cK (.int 2)))))
    (cSeq (cIfS (cT (c2 oGt (c2 oMod (c2 oDivB (cVar 6) (cK (.int 7))) (cK (.int 3))) (cK (.int 0)))) (cSet 10 (c2 oMod (cVar 10) (cK (.int 4)))) cPass)
    (cTIx (pDk (pVar 0) 3 "times") (cVar 9) (c2 oAdd (cLeaf (pIx (pDk (pVar 0) 3 "times") (cVar 9))) (cVar 10)))))
noncomputable def b_law_event_18 : MS :=
    (cNoB (cTR1 0 m_law_ended (cCons (cVar 7) (cCons (cVar 8) (cCons (cVar 12) (cCons (c2 oIx (cVar 13) (cK (.int 1))) cNil))))))
noncomputable def b_law_event_17 : MS :=
    cSeq (cNoB (cTM (pIx (pVar 1) (cVar 7)) "Tenant" ns_Tenant m_Tenant_ended (cCons (c2 oIx (cVar 13) (cK (.int 1))) (cCons (cVar 11) cNil)))) b_law_event_18
noncomputable def b_law_event_16 : MS :=
    cSeq (cNoB (cTDk (pVar 0) 0 "lease" (c2 oIx (cVar 13) (cK (.int 0))))) b_law_event_17
noncomputable def b_law_event_15 : MS :=
    cSeq (cNoB (cTIx (pDk (pVar 0) 2 "closed") (cVar 7) (cVar 14))) b_law_event_16
noncomputable def b_law_event_14 : MS :=
    cSeq (cNoB (cIfS (cT (c2 oIsN (cVar 12) (cK (.non)))) (cSet 14 (c2 oIsN (c2 oIx (c2 oIx (c2 oIx (cVar 13) (cK (.int 1))) (cK (.int 1))) (cK (.int 1))) (cK (.non)))) cPass)) b_law_event_15
noncomputable def b_law_event_13 : MS :=
    cSeq (cNoB (cSet 14 (cOr (c2 oEq (c2 oIx (c2 oIx (cVar 13) (cK (.int 1))) (cK (.int 0))) (cK (.str "over"))) (c2 oEq (cVar 12) (cTup (cCons (cK (.str "end")) cNil)))))) b_law_event_14
noncomputable def b_law_event_12 : MS :=
    cSeq (cNoB (cIfS (tAndM (cT (c2 oNotN (cVar 12) (cK (.non)))) (cT (c2 oEq (c2 oMod (cVar 6) (cK (.int 61))) (cK (.int 7))))) (cSet 13 (cLst (cCons (cLeaf (pDk (pVar 0) 0 "lease")) (cCons (cTup (cCons (cK (.str "over")) (cCons (cK (.non)) cNil))) cNil)))) cPass)) b_law_event_13
noncomputable def b_law_event_11 : MS :=
    cSeq (cNoB (cSet 13 (cCall m_law_outcome (cCons (cVar 12) (cCons (cLeaf (pDk (pVar 0) 0 "lease")) (cCons (cVar 8) (cCons (c2 oDivB (cVar 6) (cK (.int 32))) cNil))))))) b_law_event_12
noncomputable def b_law_event_10 : MS :=
    cSeq (cNoB (cTIx (pDk (pVar 0) 1 "pending") (cVar 7) (cLst cNil))) b_law_event_11
noncomputable def b_law_event_9 : MS :=
    cSeq (cNoB (cSet 12 (c2 oIx (cLeaf (pIx (pDk (pVar 0) 1 "pending") (cVar 7))) (cK (.int 0))))) b_law_event_10
noncomputable def b_law_event_8 : MS :=
    cSeq (cIfS (cT (c2 oEq (cLeaf (pIx (pDk (pVar 0) 1 "pending") (cVar 7))) (cLst cNil))) (cSeq (cNoB (cSet 12 (cCall m_law_deed (cCons (c2 oAdd (c2 oMod (cVar 3) (c2 oPow (cK (.int 10)) (cK (.int 50)))) (c2 oDivB (cVar 6) (cK (.int 32)))) (cCons (cVar 8) (cCons (cLeaf (pDk (pVar 0) 0 "lease")) cNil))))))
    (cSeq (cNoB (cTM (pIx (pVar 1) (cVar 7)) "Tenant" ns_Tenant m_Tenant_began (cCons (cVar 12) (cCons (cVar 11) cNil))))
    (cSeq (cNoB (cTIx (pDk (pVar 0) 1 "pending") (cVar 7) (cLst (cCons (cVar 12) cNil))))
    (cSeq (cNoB (cTIx (pDk (pVar 0) 6 "begun") (cVar 7) (cVar 11)))
    (cSeq (cNoB (cIfS (tAndM (cT (c2 oNotN (cVar 12) (cK (.non)))) (cT (c2 oEq (c2 oIx (cVar 12) (cK (.int 0))) (cK (.str "free"))))) (cTIx (pDk (pVar 0) 5 "holds") (cVar 7) (cK (.non))) cPass))
    cBrk))))) cPass) b_law_event_9
noncomputable def b_law_event_7 : MS :=
    cSeq (cIfS (cT (cLeaf (pIx (pDk (pVar 0) 2 "closed") (cVar 7)))) cBrk cPass) b_law_event_8
noncomputable def b_law_event_6 : MS :=
    cSeq (cNoB (cSet 11 (cLeaf (pIx (pDk (pVar 0) 3 "times") (cVar 7))))) b_law_event_7
noncomputable def b_law_event_5 : MS :=
    cSeq (cNoB (cTDk (pVar 0) 0 "lease" (cCall m_law_lent_on (cCons (cLeaf (pDk (pVar 0) 0 "lease")) (cCons (c2 oDivB (cVar 6) (cK (.int 16))) (cCons (cVar 2) cNil)))))) b_law_event_6
noncomputable def b_law_event_4 : MS :=
    cSeq (cNoB (cFor 9 (iR1 (cCons (cK (.int 2)) cNil)) l_law_event_0)) b_law_event_5
noncomputable def b_law_event_3 : MS :=
    cSeq (cNoB (cSet 8 (c2 oIx (cVar 2) (cVar 7)))) b_law_event_4
noncomputable def b_law_event_2 : MS :=
    cSeq (cNoB (cSet 7 (c2 oMod (cVar 6) (cK (.int 2))))) b_law_event_3
noncomputable def b_law_event_1 : MS :=
    cSeq (cNoB (cSet 6 (c2 oMod (c2 oMulB (cVar 6) (cVar 6)) (cK (.int 2147483629))))) b_law_event_2
noncomputable def b_law_event : MS :=
    cSeq (cNoB (cSet 6 (c2 oMod (c2 oAdd (c2 oMulB (cVar 3) (cK (.int 48271))) (c2 oMulB (c2 oMulB (cVar 4) (cVar 4)) (cK (.int 7919)))) (cK (.int 2147483647))))) b_law_event_1
noncomputable def m_law_event : MTR := fnTR 2 6 15 b_law_event
theorem has_law_event (T : Txt K mg) : Has P w K mg base "_law_event" ["state", "tenants", "names", "number", "k", "span"] 4 (spTR K mg m_law_event) := by
  show Has P w K mg base _ _ _ (spTR K mg (fnTR 2 6 15 b_law_event))
  refine has_tr (k := 3) T.d_law_event sc_law_event rfl rfl fun f cdv A outer s H E hr => ?_
  have hu := hr.units
  refine @WRs.un _ _ _ _ ?_
  refine @wrs_cons _ _ _ _ _ _ ?_ (@wrs_cons _ _ _ _ _ _ ?_ (@wrs_cons _ _ _ _ _ _ ?_ (@wrs_cons _ _ _ _ _ _ ?_ (@wrs_cons _ _ _ _ _ _ ?_ (@wrs_cons _ _ _ _ _ _ ?_ (@wrs_cons _ _ _ _ _ _ ?_ (@wrs_cons _ _ _ _ _ _ ?_ (@wrs_cons _ _ _ _ _ _ ?_ (@wrs_cons _ _ _ _ _ _ ?_ (@wrs_cons _ _ _ _ _ _ ?_ (@wrs_cons _ _ _ _ _ _ ?_ (@wrs_cons _ _ _ _ _ _ ?_ (@wrs_cons _ _ _ _ _ _ ?_ (@wrs_cons _ _ _ _ _ _ ?_ (@wrs_cons _ _ _ _ _ _ ?_ (@wrs_cons _ _ _ _ _ _ ?_ (@wrs_cons _ _ _ _ _ _ ?_ (@wrs_one _ _ _ _ ?_))))))))))))))))))
  · exact (wr_of (ws_set (i := 6) sc_law_event.nd rfl (Or.inl rfl) (we_op op_mod bMod (we_op op_add bAdd (we_op op_mulB bMulB (we_var 3) we_int) (we_op op_mulB bMulB (we_op op_mulB bMulB (we_var 4) (we_var 4)) we_int)) we_int)))
  · exact (wr_of (ws_set (i := 6) sc_law_event.nd rfl (Or.inl rfl) (we_op op_mod bMod (we_op op_mulB bMulB (we_var 6) (we_var 6)) we_int)))
  · exact (wr_of (ws_set (i := 7) sc_law_event.nd rfl (Or.inl rfl) (we_op op_mod bMod (we_var 6) we_int)))
  · exact (wr_of (ws_set (i := 8) sc_law_event.nd rfl (Or.inl rfl) (we_ix ix_seq bIx (we_var 2) (we_var 7) (fun _ _ => rfl))))
  · exact (wr_of (ws_for (i := 9) PassesOwn.never rfl (wf_range1 rfl T.B.range (wa_cons we_int wa_nil)) sc_law_event.nd rfl (Or.inl rfl) (wss_cons (ws_set (i := 10) sc_law_event.nd rfl (Or.inl rfl) (we_op op_mod bMod (we_op op_mulB bMulB (we_op op_fdivB bDivB (we_var 6) (we_op op_add bAdd we_int (we_var 9))) (we_op op_add bAdd we_int (we_op op_fdivB bDivB (we_var 5) (we_op op_pow bPow we_int we_int)))) (we_op op_add bAdd (we_var 5) we_int)))
    (wss_cons (ws_if (wt_cmp op_gt bGt (we_op op_mod bMod (we_op op_fdivB bDivB (we_var 6) we_int) we_int) we_int (nomark _)) (wss_one (ws_set (i := 10) sc_law_event.nd rfl (Or.inl rfl) (we_op op_mod bMod (we_var 10) we_int))) wss_nil)
    (wss_one (ws_tix (wp_dk 3 hu (wp_var 0)) (we_var 9) (we_op op_add bAdd (we_leaf (wp_ix (wp_dk 3 hu (wp_var 0)) (we_var 9) (fun _ _ => rfl))) (we_var 10))))))))
  · exact (wr_of (ws_tdk 0 hu (wp_var 0) (we_call (has_law_lent_on T) (hr.mono (by omega)) rfl (wa_cons (we_leaf (wp_dk 0 hu (wp_var 0))) (wa_cons (we_op op_fdivB bDivB (we_var 6) we_int) (wa_cons (we_var 2) wa_nil))))))
  · exact (wr_of (ws_set (i := 11) sc_law_event.nd rfl (Or.inl rfl) (we_leaf (wp_ix (wp_dk 3 hu (wp_var 0)) (we_var 7) (fun _ _ => rfl)))))
  · exact (wr_if (wt_val (we_leaf (wp_ix (wp_dk 2 hu (wp_var 0)) (we_var 7) (fun _ _ => rfl)))) (wrs_one wr_retN) wrs_nil)
  · exact (wr_if (wt_cmp (op_eqD hu) bEq (we_leaf (wp_ix (wp_dk 1 hu (wp_var 0)) (we_var 7) (fun _ _ => rfl))) (we_lst wa_nil) (nomark _)) (wrs_cons (wr_of (ws_set (i := 12) sc_law_event.nd rfl (Or.inl rfl) (we_call (has_law_deed T) (hr.mono (by omega)) rfl (wa_cons (we_op op_add bAdd (we_op op_mod bMod (we_var 3) (we_op op_pow bPow we_int we_int)) (we_op op_fdivB bDivB (we_var 6) we_int)) (wa_cons (we_var 8) (wa_cons (we_leaf (wp_dk 0 hu (wp_var 0))) wa_nil))))))
    (wrs_cons (wr_of (ws_tm (has_Tenant_began T) ns_Tenant (hr.mono (by omega)) (wp_ix (wp_var 1) (we_var 7) (fun _ _ => rfl)) (wa_cons (we_var 12) (wa_cons (we_var 11) wa_nil))))
    (wrs_cons (wr_of (ws_tix (wp_dk 1 hu (wp_var 0)) (we_var 7) (we_lst (wa_cons (we_var 12) wa_nil))))
    (wrs_cons (wr_of (ws_tix (wp_dk 6 hu (wp_var 0)) (we_var 7) (we_var 11)))
    (wrs_cons (wr_of (ws_if (WW.ct (ww_and (wt_cmp op_notN bNotN (we_var 12) we_non (nomark _)) (ww_and1 (wt_cmp (op_eqD hu) bEq (we_ix ix_seq bIx (we_var 12) we_int (fun _ _ => rfl)) we_str (nomark _))))) (wss_one (ws_tix (wp_dk 5 hu (wp_var 0)) (we_var 7) we_non)) wss_nil))
    (wrs_one wr_retN)))))) wrs_nil)
  · exact (wr_of (ws_set (i := 12) sc_law_event.nd rfl (Or.inl rfl) (we_ix ix_seq bIx (we_leaf (wp_ix (wp_dk 1 hu (wp_var 0)) (we_var 7) (fun _ _ => rfl))) we_int (fun _ _ => rfl))))
  · exact (wr_of (ws_tix (wp_dk 1 hu (wp_var 0)) (we_var 7) (we_lst wa_nil)))
  · exact (wr_of (ws_set (i := 13) sc_law_event.nd rfl (Or.inl rfl) (we_call (has_law_outcome T) (hr.mono (by omega)) rfl (wa_cons (we_var 12) (wa_cons (we_leaf (wp_dk 0 hu (wp_var 0))) (wa_cons (we_var 8) (wa_cons (we_op op_fdivB bDivB (we_var 6) we_int) wa_nil)))))))
  · exact (wr_of (ws_if (WW.ct (ww_and (wt_cmp op_notN bNotN (we_var 12) we_non (nomark _)) (ww_and1 (wt_cmp (op_eqD hu) bEq (we_op op_mod bMod (we_var 6) we_int) we_int (nomark _))))) (wss_one (ws_set (i := 13) sc_law_event.nd rfl (Or.inl rfl) (we_lst (wa_cons (we_leaf (wp_dk 0 hu (wp_var 0))) (wa_cons (we_tup (wa_cons we_str (wa_cons we_non wa_nil))) wa_nil))))) wss_nil))
  · exact (wr_of (ws_set (i := 14) sc_law_event.nd rfl (Or.inl rfl) (we_or (we_cmp (op_eqD hu) bEq (we_ix ix_seq bIx (we_ix ix_seq bIx (we_var 13) we_int (fun _ _ => rfl)) we_int (fun _ _ => rfl)) we_str (nomark _)) (we_one (we_cmp (op_eqD hu) bEq (we_var 12) (we_tup (wa_cons we_str wa_nil)) (nomark _))))))
  · exact (wr_of (ws_if (wt_cmp op_isN bIsN (we_var 12) we_non (nomark _)) (wss_one (ws_set (i := 14) sc_law_event.nd rfl (Or.inl rfl) (we_cmp op_isN bIsN (we_ix ix_seq bIx (we_ix ix_seq bIx (we_ix ix_seq bIx (we_var 13) we_int (fun _ _ => rfl)) we_int (fun _ _ => rfl)) we_int (fun _ _ => rfl)) we_non (nomark _)))) wss_nil))
  · exact (wr_of (ws_tix (wp_dk 2 hu (wp_var 0)) (we_var 7) (we_var 14)))
  · exact (wr_of (ws_tdk 0 hu (wp_var 0) (we_ix ix_seq bIx (we_var 13) we_int (fun _ _ => rfl))))
  · exact (wr_of (ws_tm (has_Tenant_ended T) ns_Tenant (hr.mono (by omega)) (wp_ix (wp_var 1) (we_var 7) (fun _ _ => rfl)) (wa_cons (we_ix ix_seq bIx (we_var 13) we_int (fun _ _ => rfl)) (wa_cons (we_var 11) wa_nil))))
  · exact (wr_of (ws_tr1 (i := 0) (has_law_ended T) (hr.mono (by omega)) rfl (wa_cons (we_var 7) (wa_cons (we_var 8) (wa_cons (we_var 12) (wa_cons (we_ix ix_seq bIx (we_var 13) we_int (fun _ _ => rfl)) wa_nil)))) rfl (by first | exact Or.inl rfl | exact Or.inr (Or.inl rfl) | exact Or.inr (Or.inr rfl))))
noncomputable def b_law_names_1 : MS :=
    (cRet (cLst (cCons (cVar 1) (cCons (c2 oMod (c2 oAdd (c2 oAdd (cVar 1) (cK (.int 1))) (c2 oMod (c2 oDivB (cVar 0) (cK (.int 6))) (cK (.int 5)))) (cK (.int 6))) cNil))))
noncomputable def b_law_names : MS :=
    cSeq (cSet 1 (c2 oMod (cVar 0) (cK (.int 6)))) b_law_names_1
noncomputable def m_law_names : MF := fnOf 1 2 b_law_names
theorem has_law_names (T : Txt K mg) : Has P w K mg base "_law_names" ["number"] 1 (spF K mg m_law_names) := by
  show Has P w K mg base _ _ _ (spF K mg (fnOf 1 2 b_law_names))
  refine has_of (k := 0) T.d_law_names sc_law_names rfl rfl fun f cdv A outer s H E hr => ?_
  have hu := hr.units
  refine @WSs.un _ _ _ _ ?_
  refine @wss_cons _ _ _ _ _ _ ?_ (@wss_one _ _ _ _ ?_)
  · exact (ws_set (i := 1) sc_law_names.nd rfl (Or.inl rfl) (we_op op_mod bMod (we_var 0) we_int))
  · exact (ws_ret (we_lst (wa_cons (we_var 1) (wa_cons (we_op op_mod bMod (we_op op_add bAdd (we_op op_add bAdd (we_var 1) we_int) (we_op op_mod bMod (we_op op_fdivB bDivB (we_var 0) we_int) we_int)) we_int) wa_nil))))
noncomputable def b_law_start_5 : MS :=
    cPass
noncomputable def b_law_start_4 : MS :=
    cSeq (cTDn 1 [.inr "lease", .inr "pending", .inr "closed", .inr "times", .inr "seen", .inr "holds"] "begun" (vOwn (cLst (cCons (cK (.int 0)) (cCons (cK (.int 0)) cNil))))) b_law_start_5
noncomputable def b_law_start_3 : MS :=
    cSeq (cTDn 1 [.inr "lease", .inr "pending", .inr "closed", .inr "times", .inr "seen"] "holds" (vOwn (cLst (cCons (cK (.non)) (cCons (cK (.non)) cNil))))) b_law_start_4
noncomputable def b_law_start_2 : MS :=
    cSeq (cTDn 1 [.inr "lease", .inr "pending", .inr "closed", .inr "times"] "seen" (vOwn (cLst (cCons (cK (.non)) (cCons (cK (.non)) cNil))))) b_law_start_3
noncomputable def b_law_start_1 : MS :=
    cSeq (cTDn 1 [.inr "lease", .inr "pending", .inr "closed"] "times" (vOwn (cLst (cCons (c2 oMod (cVar 0) (cK (.int 7))) (cCons (c2 oMod (c2 oDivB (cVar 0) (cK (.int 7))) (c2 oPow (cK (.int 10)) (cK (.int 30)))) cNil))))) b_law_start_2
noncomputable def b_law_start : MS :=
    cSeq (cTSet 1 (vDict [.inr "lease", .inr "pending", .inr "closed"] (vCons (vLeaf (cTup (cCons (c2 oMod (c2 oDivB (cVar 0) (cK (.int 30))) (c2 oPow (cK (.int 10)) (cK (.int 50)))) (cCons (cK (.non)) cNil)))) (vCons (vOwn (cLst (cCons (cLst cNil) (cCons (cLst cNil) cNil)))) (vCons (vOwn (cLst (cCons (cK (.bl false)) (cCons (cK (.bl false)) cNil)))) vNil))))) b_law_start_1
noncomputable def m_law_start : MTM := fnTM 1 2 1 b_law_start
theorem has_law_start (T : Txt K mg) : Has P w K mg base "_law_start" ["number"] 1 (spTM K mg m_law_start) := by
  show Has P w K mg base _ _ _ (spTM K mg (fnTM 1 2 1 b_law_start))
  refine has_tm (k := 0) T.d_law_start sc_law_start rfl rfl fun f cdv A outer s H E hr => ?_
  have hu := hr.units
  refine @WSt.un _ _ _ _ _ ?_
  refine (@wst_cons _ _ _ _ _ _ _ ?_ (@wst_cons _ _ _ _ _ _ _ ?_ (@wst_cons _ _ _ _ _ _ _ ?_ (@wst_cons _ _ _ _ _ _ _ ?_ (@wst_cons _ _ _ _ _ _ _ ?_ (wst_ret 1))))))
  · exact (ws_tset (j := 1) sc_law_start.nd rfl (Or.inl rfl) (wv_dict (wd_cons (wv_leaf (we_tup (wa_cons (we_op op_mod bMod (we_op op_fdivB bDivB (we_var 0) we_int) (we_op op_pow bPow we_int we_int)) (wa_cons we_non wa_nil)))) (wd_cons (wv_own (we_lst (wa_cons (we_lst wa_nil) (wa_cons (we_lst wa_nil) wa_nil)))) (wd_cons (wv_own (we_lst (wa_cons we_bl (wa_cons we_bl wa_nil)))) wd_nil)))))
  · exact (ws_tdn (j := 1) [.inr "lease", .inr "pending", .inr "closed"] hu rfl (by first | exact Or.inl rfl | exact Or.inr (Or.inl rfl) | exact Or.inr (Or.inr rfl)) (wv_own (we_lst (wa_cons (we_op op_mod bMod (we_var 0) we_int) (wa_cons (we_op op_mod bMod (we_op op_fdivB bDivB (we_var 0) we_int) (we_op op_pow bPow we_int we_int)) wa_nil)))))
  · exact (ws_tdn (j := 1) [.inr "lease", .inr "pending", .inr "closed", .inr "times"] hu rfl (by first | exact Or.inl rfl | exact Or.inr (Or.inl rfl) | exact Or.inr (Or.inr rfl)) (wv_own (we_lst (wa_cons we_non (wa_cons we_non wa_nil)))))
  · exact (ws_tdn (j := 1) [.inr "lease", .inr "pending", .inr "closed", .inr "times", .inr "seen"] hu rfl (by first | exact Or.inl rfl | exact Or.inr (Or.inl rfl) | exact Or.inr (Or.inr rfl)) (wv_own (we_lst (wa_cons we_non (wa_cons we_non wa_nil)))))
  · exact (ws_tdn (j := 1) [.inr "lease", .inr "pending", .inr "closed", .inr "times", .inr "seen", .inr "holds"] hu rfl (by first | exact Or.inl rfl | exact Or.inr (Or.inl rfl) | exact Or.inr (Or.inr rfl)) (wv_own (we_lst (wa_cons we_int (wa_cons we_int wa_nil)))))
noncomputable def l_law_0 : MS :=
    (cSeq (cSet 13 (cTV (pIx (pVar 5) (cVar 8)) "Tenant" ns_Tenant m_Tenant_believes (cCons (cVar 12) cNil)))
    (cIfS (tOrM (tNotM (cT (cB fIsi (cCons (cVar 13) (cCons (cK (.ty "bool")) cNil))))) (cT (c2 oNe (cVar 13) (cAnd (c2 oNotN (cVar 10) (cK (.non))) (c2 oLt (c2 oSub (cVar 12) (c2 oIx (cVar 10) (cK (.int 1)))) (cVar 1)))))) (cRet (cK (.bl false))) cPass))
noncomputable def l_law_1 : MS :=
    (cSeq (cSet 9 (cLeaf (pIx (pDk (pVar 6) 3 "times") (cVar 8))))
    (cSeq (cSet 10 (cLeaf (pIx (pDk (pVar 6) 5 "holds") (cVar 8))))
    (cSeq (cIfS (tNotM (cT (cCall m_law_triple (cCons (cTV (pIx (pVar 5) (cVar 8)) "Tenant" ns_Tenant m_Tenant_holds cNil) (cCons (cVar 10) cNil))))) (cRet (cK (.bl false))) cPass)
    (cSeq (cSet 11 (cLst (cCons (cVar 9) (cCons (c2 oAdd (cVar 9) (c2 oMod (c2 oIx (cVar 0) (cVar 7)) (c2 oPow (cK (.int 10)) (cK (.int 50))))) cNil))))
    (cSeq (cIfS (cT (c2 oNotN (cVar 10) (cK (.non)))) (cSet 11 (c2 oCatL (cVar 11) (cLst (cCons (cB fMax2 (cCons (cVar 9) (cCons (c2 oSub (c2 oAdd (c2 oIx (cVar 10) (cK (.int 1))) (cVar 1)) (cK (.int 1))) cNil))) (cCons (cB fMax2 (cCons (cVar 9) (cCons (c2 oAdd (c2 oIx (cVar 10) (cK (.int 1))) (cVar 1)) cNil))) cNil))))) cPass)
    (cFor 12 (iL (cVar 11)) l_law_0))))))
noncomputable def l_law_2 : MS :=
    (cSeq (cTR2 6 5 m_law_event (cCons (cVar 4) (cCons (c2 oIx (cVar 0) (cVar 7)) (cCons (cVar 7) (cCons (cVar 1) cNil)))))
    (cFor 8 (iR1 (cCons (cK (.int 2)) cNil)) l_law_1))
noncomputable def b_law_7 : MS :=
    (cRet (cOr (c2 oGt (cB fLen (cCons (cVar 0) cNil)) (cK (.int 3))) (c2 oIsN (cTV (pIx (pVar 5) (cK (.int 0))) "Tenant" ns_Tenant m_Tenant_holds cNil) (cK (.non)))))
noncomputable def b_law_6 : MS :=
    cSeq (cFor 7 (iR2 (cCons (cK (.int 3)) (cCons (cB fMin2 (cCons (cK (.int 63)) (cCons (cB fLen (cCons (cVar 0) cNil)) cNil))) cNil))) l_law_2) b_law_7
noncomputable def b_law_5 : MS :=
    cSeq (cTSet 6 (vCall m_law_start (cCons (cCall m_law_cell_at (cCons (cVar 0) (cCons (cK (.int 2)) cNil))) cNil))) b_law_6
noncomputable def b_law_4 : MS :=
    cSeq (cTSet 5 (vLst (vCons (vMake "Tenant" m_Tenant___init__ (cCons (c2 oIx (cVar 4) (cK (.int 0))) (cCons (cVar 1) (cCons (cVar 2) (cCons (cVar 3) cNil))))) (vCons (vMake "Tenant" m_Tenant___init__ (cCons (c2 oIx (cVar 4) (cK (.int 1))) (cCons (cVar 1) (cCons (cVar 2) (cCons (cVar 3) cNil))))) vNil)))) b_law_5
noncomputable def b_law_3 : MS :=
    cSeq (cSet 4 (cCall m_law_names (cCons (cCall m_law_cell_at (cCons (cVar 0) (cCons (cK (.int 2)) cNil))) cNil))) b_law_4
noncomputable def b_law_2 : MS :=
    cSeq (cSet 3 (c2 oAdd (cVar 2) (c2 oMod (c2 oDivB (cCall m_law_cell_at (cCons (cVar 0) (cCons (cK (.int 1)) cNil))) (cK (.int 9))) (c2 oPow (cK (.int 10)) (cK (.int 20)))))) b_law_3
noncomputable def b_law_1 : MS :=
    cSeq (cSet 2 (c2 oAdd (cK (.int 1)) (c2 oMod (cCall m_law_cell_at (cCons (cVar 0) (cCons (cK (.int 1)) cNil))) (cK (.int 9))))) b_law_2
noncomputable def b_law : MS :=
    cSeq (cSet 1 (cCall m_law_span (cCons (cCall m_law_cell_at (cCons (cVar 0) (cCons (cK (.int 0)) cNil))) cNil))) b_law_1
noncomputable def m_law : MF := fnOf 1 14 b_law
theorem ok_law (T : Txt K mg) {f : Addr} {fd : FuncData} (F : Fun K "law" "law" s_law f fd) : FnOk P w K mg base CX0 5 f fd ["script"] (spF K mg m_law) := by
  show FnOk P w K mg base CX0 _ f fd _ (spF K mg (fnOf 1 14 b_law))
  refine fn_sim (k := 4) F sc_law rfl rfl fun cdv A outer s H E hr => ?_
  have hu := hr.units
  refine @WSs.un _ _ _ _ ?_
  refine @wss_cons _ _ _ _ _ _ ?_ (@wss_cons _ _ _ _ _ _ ?_ (@wss_cons _ _ _ _ _ _ ?_ (@wss_cons _ _ _ _ _ _ ?_ (@wss_cons _ _ _ _ _ _ ?_ (@wss_cons _ _ _ _ _ _ ?_ (@wss_cons _ _ _ _ _ _ ?_ (@wss_one _ _ _ _ ?_)))))))
  · exact (ws_set (i := 1) sc_law.nd rfl (Or.inl rfl) (we_call (has_law_span T) (hr.mono (by omega)) rfl (wa_cons (we_call (has_law_cell_at T) (hr.mono (by omega)) rfl (wa_cons (we_var 0) (wa_cons we_int wa_nil))) wa_nil)))
  · exact (ws_set (i := 2) sc_law.nd rfl (Or.inl rfl) (we_op op_add bAdd we_int (we_op op_mod bMod (we_call (has_law_cell_at T) (hr.mono (by omega)) rfl (wa_cons (we_var 0) (wa_cons we_int wa_nil))) we_int)))
  · exact (ws_set (i := 3) sc_law.nd rfl (Or.inl rfl) (we_op op_add bAdd (we_var 2) (we_op op_mod bMod (we_op op_fdivB bDivB (we_call (has_law_cell_at T) (hr.mono (by omega)) rfl (wa_cons (we_var 0) (wa_cons we_int wa_nil))) we_int) (we_op op_pow bPow we_int we_int))))
  · exact (ws_set (i := 4) sc_law.nd rfl (Or.inl rfl) (we_call (has_law_names T) (hr.mono (by omega)) rfl (wa_cons (we_call (has_law_cell_at T) (hr.mono (by omega)) rfl (wa_cons (we_var 0) (wa_cons we_int wa_nil))) wa_nil)))
  · exact (ws_tset (j := 5) sc_law.nd rfl (Or.inl rfl) (wv_lst (wvs_cons (wv_make T.c_Tenant (has_Tenant___init__ T) (hr.mono (by omega)) rfl (wa_cons (we_ix ix_seq bIx (we_var 4) we_int (fun _ _ => rfl)) (wa_cons (we_var 1) (wa_cons (we_var 2) (wa_cons (we_var 3) wa_nil))))) (wvs_cons (wv_make T.c_Tenant (has_Tenant___init__ T) (hr.mono (by omega)) rfl (wa_cons (we_ix ix_seq bIx (we_var 4) we_int (fun _ _ => rfl)) (wa_cons (we_var 1) (wa_cons (we_var 2) (wa_cons (we_var 3) wa_nil))))) wvs_nil))))
  · exact (ws_tset (j := 6) sc_law.nd rfl (Or.inl rfl) (wv_call (has_law_start T) (hr.mono (by omega)) rfl (wa_cons (we_call (has_law_cell_at T) (hr.mono (by omega)) rfl (wa_cons (we_var 0) (wa_cons we_int wa_nil))) wa_nil)))
  · exact (ws_for (i := 7) PassesOwn.never rfl (wf_range2 rfl T.B.range (wa_cons we_int (wa_cons (we_callB (call_min2 rfl) k2I rfl T.B.min bt_min (wa_cons we_int (wa_cons (we_callB call_len_seq kLen rfl T.B.len bt_len (wa_cons (we_var 0) wa_nil)) wa_nil))) wa_nil))) sc_law.nd rfl (Or.inl rfl) (wss_cons (ws_tr2 (i := 6) (j := 5) (has_law_event T) (hr.mono (by omega)) rfl (wa_cons (we_var 4) (wa_cons (we_ix ix_seq bIx (we_var 0) (we_var 7) (fun _ _ => rfl)) (wa_cons (we_var 7) (wa_cons (we_var 1) wa_nil)))) rfl (by first | exact Or.inl rfl | exact Or.inr (Or.inl rfl) | exact Or.inr (Or.inr rfl)) rfl (by first | exact Or.inl rfl | exact Or.inr (Or.inl rfl) | exact Or.inr (Or.inr rfl)))
    (wss_one (ws_for (i := 8) PassesOwn.never rfl (wf_range1 rfl T.B.range (wa_cons we_int wa_nil)) sc_law.nd rfl (Or.inl rfl) (wss_cons (ws_set (i := 9) sc_law.nd rfl (Or.inl rfl) (we_leaf (wp_ix (wp_dk 3 hu (wp_var 6)) (we_var 8) (fun _ _ => rfl))))
    (wss_cons (ws_set (i := 10) sc_law.nd rfl (Or.inl rfl) (we_leaf (wp_ix (wp_dk 5 hu (wp_var 6)) (we_var 8) (fun _ _ => rfl))))
    (wss_cons (ws_if (wt_not (wt_val (we_call (has_law_triple T) (hr.mono (by omega)) rfl (wa_cons (we_tv0 (has_Tenant_holds T) ns_Tenant (hr.mono (by omega)) (wp_ix (wp_var 5) (we_var 8) (fun _ _ => rfl))) (wa_cons (we_var 10) wa_nil))))) (wss_one (ws_ret we_bl)) wss_nil)
    (wss_cons (ws_set (i := 11) sc_law.nd rfl (Or.inl rfl) (we_lst (wa_cons (we_var 9) (wa_cons (we_op op_add bAdd (we_var 9) (we_op op_mod bMod (we_ix ix_seq bIx (we_var 0) (we_var 7) (fun _ _ => rfl)) (we_op op_pow bPow we_int we_int))) wa_nil))))
    (wss_cons (ws_if (wt_cmp op_notN bNotN (we_var 10) we_non (nomark _)) (wss_one (ws_set (i := 11) sc_law.nd rfl (Or.inl rfl) (we_op op_cat bCatL (we_var 11) (we_lst (wa_cons (we_callB (call_max2 rfl) k2I rfl T.B.max bt_max (wa_cons (we_var 9) (wa_cons (we_op op_sub bSub (we_op op_add bAdd (we_ix ix_seq bIx (we_var 10) we_int (fun _ _ => rfl)) (we_var 1)) we_int) wa_nil))) (wa_cons (we_callB (call_max2 rfl) k2I rfl T.B.max bt_max (wa_cons (we_var 9) (wa_cons (we_op op_add bAdd (we_ix ix_seq bIx (we_var 10) we_int (fun _ _ => rfl)) (we_var 1)) wa_nil))) wa_nil)))))) wss_nil)
    (wss_one (ws_for (i := 12) PassesOwn.never rfl (wf_list (we_var 11)) sc_law.nd rfl (Or.inl rfl) (wss_cons (ws_set (i := 13) sc_law.nd rfl (Or.inl rfl) (we_tv (has_Tenant_believes T) ns_Tenant (hr.mono (by omega)) (wp_ix (wp_var 5) (we_var 8) (fun _ _ => rfl)) (wa_cons (we_var 12) wa_nil)))
    (wss_one (ws_if (WW.ct (ww_or (wt_not (wt_val (we_callB (call_isi T.kt) kIsi rfl T.B.isinstance bt_isinstance (wa_cons (we_var 13) (wa_cons (we_k (pe_bltn (v := .ty "bool") rfl T.B.bool' bt_bool rfl) fun _ _ => rfl) wa_nil))))) (ww_or1 (wt_cmp (op_neD hu) bNe (we_var 13) (we_and (we_cmp op_notN bNotN (we_var 10) we_non (nomark _)) (we_one (we_cmp op_lt bLt (we_op op_sub bSub (we_var 12) (we_ix ix_seq bIx (we_var 10) we_int (fun _ _ => rfl))) (we_var 1) (nomark _)))) (nomark _))))) (wss_one (ws_ret we_bl)) wss_nil))))))))))))))
  · exact (ws_ret (we_or (we_cmp op_gt bGt (we_callB call_len_seq kLen rfl T.B.len bt_len (wa_cons (we_var 0) wa_nil)) we_int (nomark _)) (we_one (we_cmp op_isN bIsN (we_tv0 (has_Tenant_holds T) ns_Tenant (hr.mono (by omega)) (wp_ix (wp_var 5) we_int (fun _ _ => rfl))) we_non (nomark _)))))
end
end K64

set_option Elab.async false
set_option linter.all false
set_option maxRecDepth 100000
set_option maxHeartbeats 1000000
namespace L3
open PySem PySem.Spec L2
/-! ### plain data that is like itself -/
mutual
noncomputable def D.wid : D → Bool
  | .tup xs => decide (xs.length ≤ 1000) && widAll xs
  | .lst xs => decide (xs.length ≤ 1000) && widAll xs
  | .dic _ _ => true
  | .fn _ => true
  | .ty _ => true
  | .non => true
  | .bl _ => true
  | .int _ => true
  | .str _ => true
noncomputable def widAll : List D → Bool
  | [] => true
  | x :: xs => x.wid && widAll xs
end
@[simp] theorem e_isnw {xs : List D} : R.isN (.vw xs) = false := rfl
@[simp] theorem e_isnl {xs : List D} : R.isN (.v (.lst xs)) = false := rfl
@[simp] theorem e_isnb {b : Bool} : R.isN (.v (.bl b)) = false := rfl
@[simp] theorem e_lenS {z : Str} : fLenS [.v (.str z)] = if z.length ≤ sizeLine then pure (.v (.int (z.length : Nat))) else bad := rfl
@[simp] theorem e_catS {x y : Str} : oCatS (.v (.str x)) (.v (.str y)) = if x.length + y.length ≤ sizeLine then pure (.v (.str (x ++ y))) else bad := rfl
end L3

set_option Elab.async false
set_option linter.all false
set_option maxRecDepth 100000
set_option maxHeartbeats 1000000
namespace L3
open PySem PySem.Spec L2
theorem e_eqS {x y : Str} (hx : PySem.PyData.strOk x = true) (hy : PySem.PyData.strOk y = true) : oEq (.v (.str x)) (.v (.str y)) = pure (.v (.bl (x == y))) := e_eq (x := .v (.str x)) (y := .v (.str y)) hx hy
theorem e_neS {x y : Str} (hx : PySem.PyData.strOk x = true) (hy : PySem.PyData.strOk y = true) : oNe (.v (.str x)) (.v (.str y)) = pure (.v (.bl (!(x == y)))) := e_ne (x := .v (.str x)) (y := .v (.str y)) hx hy
theorem ok_put : PySem.PyData.strOk "put" = true := by decide +kernel
theorem ok_add : PySem.PyData.strOk "add" = true := by decide +kernel
theorem ok_take : PySem.PyData.strOk "take" = true := by decide +kernel
theorem ok_renew : PySem.PyData.strOk "renew" = true := by decide +kernel
theorem ok_free : PySem.PyData.strOk "free" = true := by decide +kernel
theorem ok_sure : PySem.PyData.strOk "sure" = true := by decide +kernel
theorem ok_end : PySem.PyData.strOk "end" = true := by decide +kernel
theorem ok_over : PySem.PyData.strOk "over" = true := by decide +kernel
theorem ne_put_add : (("put" : Str) == "add") = false := by decide +kernel
theorem ne_put_free : (("put" : Str) == "free") = false := by decide +kernel
theorem ne_put_end : (("put" : Str) == "end") = false := by decide +kernel
theorem ne_add_put : (("add" : Str) == "put") = false := by decide +kernel
theorem ne_add_free : (("add" : Str) == "free") = false := by decide +kernel
theorem ne_add_end : (("add" : Str) == "end") = false := by decide +kernel
theorem ne_take_put : (("take" : Str) == "put") = false := by decide +kernel
theorem ne_take_add : (("take" : Str) == "add") = false := by decide +kernel
theorem ne_take_free : (("take" : Str) == "free") = false := by decide +kernel
theorem ne_take_sure : (("take" : Str) == "sure") = false := by decide +kernel
theorem ne_take_end : (("take" : Str) == "end") = false := by decide +kernel
theorem ne_renew_put : (("renew" : Str) == "put") = false := by decide +kernel
theorem ne_renew_add : (("renew" : Str) == "add") = false := by decide +kernel
theorem ne_renew_take : (("renew" : Str) == "take") = false := by decide +kernel
theorem ne_renew_free : (("renew" : Str) == "free") = false := by decide +kernel
theorem ne_renew_sure : (("renew" : Str) == "sure") = false := by decide +kernel
theorem ne_renew_end : (("renew" : Str) == "end") = false := by decide +kernel
theorem ne_free_put : (("free" : Str) == "put") = false := by decide +kernel
theorem ne_free_add : (("free" : Str) == "add") = false := by decide +kernel
theorem ne_free_take : (("free" : Str) == "take") = false := by decide +kernel
theorem ne_free_sure : (("free" : Str) == "sure") = false := by decide +kernel
theorem ne_free_end : (("free" : Str) == "end") = false := by decide +kernel
theorem ne_sure_put : (("sure" : Str) == "put") = false := by decide +kernel
theorem ne_sure_add : (("sure" : Str) == "add") = false := by decide +kernel
theorem ne_sure_free : (("sure" : Str) == "free") = false := by decide +kernel
theorem ne_sure_end : (("sure" : Str) == "end") = false := by decide +kernel
theorem ne_end_free : (("end" : Str) == "free") = false := by decide +kernel
@[simp] theorem eq_put_add : oEq (.v (.str "put")) (.v (.str "add")) = pure (.v (.bl false)) := by rw [e_eqS ok_put ok_add, ne_put_add]
@[simp] theorem eq_put_end : oEq (.v (.str "put")) (.v (.str "end")) = pure (.v (.bl false)) := by rw [e_eqS ok_put ok_end, ne_put_end]
@[simp] theorem eq_put : oEq (.v (.str "put")) (.v (.str "put")) = pure (.v (.bl true)) := by rw [e_eqS ok_put ok_put, beq_self_eq_true]
@[simp] theorem eq_add_put : oEq (.v (.str "add")) (.v (.str "put")) = pure (.v (.bl false)) := by rw [e_eqS ok_add ok_put, ne_add_put]
@[simp] theorem eq_add_end : oEq (.v (.str "add")) (.v (.str "end")) = pure (.v (.bl false)) := by rw [e_eqS ok_add ok_end, ne_add_end]
@[simp] theorem eq_add : oEq (.v (.str "add")) (.v (.str "add")) = pure (.v (.bl true)) := by rw [e_eqS ok_add ok_add, beq_self_eq_true]
@[simp] theorem eq_take_put : oEq (.v (.str "take")) (.v (.str "put")) = pure (.v (.bl false)) := by rw [e_eqS ok_take ok_put, ne_take_put]
@[simp] theorem eq_take_add : oEq (.v (.str "take")) (.v (.str "add")) = pure (.v (.bl false)) := by rw [e_eqS ok_take ok_add, ne_take_add]
@[simp] theorem eq_take_free : oEq (.v (.str "take")) (.v (.str "free")) = pure (.v (.bl false)) := by rw [e_eqS ok_take ok_free, ne_take_free]
@[simp] theorem eq_take_sure : oEq (.v (.str "take")) (.v (.str "sure")) = pure (.v (.bl false)) := by rw [e_eqS ok_take ok_sure, ne_take_sure]
@[simp] theorem eq_take_end : oEq (.v (.str "take")) (.v (.str "end")) = pure (.v (.bl false)) := by rw [e_eqS ok_take ok_end, ne_take_end]
@[simp] theorem eq_take : oEq (.v (.str "take")) (.v (.str "take")) = pure (.v (.bl true)) := by rw [e_eqS ok_take ok_take, beq_self_eq_true]
@[simp] theorem eq_renew_put : oEq (.v (.str "renew")) (.v (.str "put")) = pure (.v (.bl false)) := by rw [e_eqS ok_renew ok_put, ne_renew_put]
@[simp] theorem eq_renew_add : oEq (.v (.str "renew")) (.v (.str "add")) = pure (.v (.bl false)) := by rw [e_eqS ok_renew ok_add, ne_renew_add]
@[simp] theorem eq_renew_take : oEq (.v (.str "renew")) (.v (.str "take")) = pure (.v (.bl false)) := by rw [e_eqS ok_renew ok_take, ne_renew_take]
@[simp] theorem eq_renew_free : oEq (.v (.str "renew")) (.v (.str "free")) = pure (.v (.bl false)) := by rw [e_eqS ok_renew ok_free, ne_renew_free]
@[simp] theorem eq_renew_sure : oEq (.v (.str "renew")) (.v (.str "sure")) = pure (.v (.bl false)) := by rw [e_eqS ok_renew ok_sure, ne_renew_sure]
@[simp] theorem eq_renew_end : oEq (.v (.str "renew")) (.v (.str "end")) = pure (.v (.bl false)) := by rw [e_eqS ok_renew ok_end, ne_renew_end]
@[simp] theorem eq_free_put : oEq (.v (.str "free")) (.v (.str "put")) = pure (.v (.bl false)) := by rw [e_eqS ok_free ok_put, ne_free_put]
@[simp] theorem eq_free_add : oEq (.v (.str "free")) (.v (.str "add")) = pure (.v (.bl false)) := by rw [e_eqS ok_free ok_add, ne_free_add]
@[simp] theorem eq_free_take : oEq (.v (.str "free")) (.v (.str "take")) = pure (.v (.bl false)) := by rw [e_eqS ok_free ok_take, ne_free_take]
@[simp] theorem eq_free_sure : oEq (.v (.str "free")) (.v (.str "sure")) = pure (.v (.bl false)) := by rw [e_eqS ok_free ok_sure, ne_free_sure]
@[simp] theorem eq_free_end : oEq (.v (.str "free")) (.v (.str "end")) = pure (.v (.bl false)) := by rw [e_eqS ok_free ok_end, ne_free_end]
@[simp] theorem eq_free : oEq (.v (.str "free")) (.v (.str "free")) = pure (.v (.bl true)) := by rw [e_eqS ok_free ok_free, beq_self_eq_true]
@[simp] theorem eq_sure_put : oEq (.v (.str "sure")) (.v (.str "put")) = pure (.v (.bl false)) := by rw [e_eqS ok_sure ok_put, ne_sure_put]
@[simp] theorem eq_sure_add : oEq (.v (.str "sure")) (.v (.str "add")) = pure (.v (.bl false)) := by rw [e_eqS ok_sure ok_add, ne_sure_add]
@[simp] theorem eq_sure_end : oEq (.v (.str "sure")) (.v (.str "end")) = pure (.v (.bl false)) := by rw [e_eqS ok_sure ok_end, ne_sure_end]
@[simp] theorem eq_sure : oEq (.v (.str "sure")) (.v (.str "sure")) = pure (.v (.bl true)) := by rw [e_eqS ok_sure ok_sure, beq_self_eq_true]
@[simp] theorem eq_end : oEq (.v (.str "end")) (.v (.str "end")) = pure (.v (.bl true)) := by rw [e_eqS ok_end ok_end, beq_self_eq_true]
@[simp] theorem eq_over : oEq (.v (.str "over")) (.v (.str "over")) = pure (.v (.bl true)) := by rw [e_eqS ok_over ok_over, beq_self_eq_true]
end L3

set_option Elab.async false
set_option linter.all false
set_option maxRecDepth 100000
set_option maxHeartbeats 1000000
namespace K64
open PySem PySem.Spec L2 L3
/-! the tenant's own methods -/
noncomputable def tD : Option Int → D
  | none => .non
  | some i => .int i
noncomputable abbrev lsD (f : Int) (t : Option Int) : D := .tup [.int f, tD t]
inductive Dd where
  | put (n : Int) | add (n : Int) | sure (f : Int) | fin | take (f : Int) | renew (f : Int) | free (f : Int)
noncomputable def Dd.d : Dd → D
  | .put n => .tup [.str "put", .str "pot", .int n]
  | .add n => .tup [.str "add", .str "pot", .int n]
  | .sure f => .tup [.str "sure", .int f, .str "pan", .int 5]
  | .fin => .tup [.str "end"]
  | .take f => .tup [.str "take", .int f]
  | .renew f => .tup [.str "renew", .int f]
  | .free f => .tup [.str "free", .int f]
noncomputable def oD : Option Dd → D
  | none => .non
  | some d => d.d
noncomputable def sD : Option (Int × Option Int × Int) → D
  | none => .non
  | some (f, t, m) => .tup [.int f, tD t, .int m]
noncomputable def hD : Option (Int × Int) → D
  | none => .non
  | some (f, m) => .tup [.int f, .int m]
@[simp] theorem sD0 : sD none = .non := rfl
@[simp] theorem sD1 {f m : Int} {t : Option Int} : sD (some (f, t, m)) = .tup [.int f, tD t, .int m] := rfl
@[simp] theorem hD0 : hD none = .non := rfl
@[simp] theorem hD1 {f m : Int} : hD (some (f, m)) = .tup [.int f, .int m] := rfl
@[simp] theorem oD0 : oD none = .non := rfl
@[simp] theorem t_ne (t : Option Int) (me : Int) : oNe (.v (tD t)) (.v (.int me)) = pure (.v (.bl (!decide (t = some me)))) := by
  cases t with
  | none => exact e_ne (x := .v .non) (y := .v (.int me)) rfl rfl
  | some i =>
    rw [show oNe (.v (tD (some i))) (.v (.int me)) = _ from e_ne (x := .v (.int i)) (y := .v (.int me)) rfl rfl]
    show pure (R.v (.bl (!(i == me)))) = _
    rw [show (i == me) = decide (some i = some me) by by_cases h : i = me <;> simp [h]]
@[simp] theorem t_eq (t : Option Int) (me : Int) : oEq (.v (tD t)) (.v (.int me)) = pure (.v (.bl (decide (t = some me)))) := by
  cases t with
  | none => exact e_eq (x := .v .non) (y := .v (.int me)) rfl rfl
  | some i =>
    rw [show oEq (.v (tD (some i))) (.v (.int me)) = _ from e_eq (x := .v (.int i)) (y := .v (.int me)) rfl rfl]
    show pure (R.v (.bl (i == me))) = _
    rw [show (i == me) = decide (some i = some me) by by_cases h : i = me <;> simp [h]]
noncomputable abbrev ten (me span wait : Int) (dd : Option Dd) (bt : Int) (se : Option (Int × Option Int × Int)) (he : Option (Int × Int)) : Tr :=
  .ob "Tenant" ["me", "span", "wait", "begun_deed", "begun_time", "last_seen", "held"] [.lf (.int me), .lf (.int span), .lf (.int wait), .lf (oD dd), .lf (.int bt), .lf (sD se), .lf (hD he)]
noncomputable def seeT (f : Int) (se : Option (Int × Option Int × Int)) (time : Int) : Int := match se with
  | none => time
  | some (g, _, m) => if g = f then m else time
noncomputable def seeH (me : Int) (t : Option Int) (he : Option (Int × Int)) : Option (Int × Int) := if t = some me then he else none
theorem see1 (me span wait bt f time : Int) (t : Option Int) (dd : Option Dd) (se : Option (Int × Option Int × Int)) (he : Option (Int × Int)) :
    b_Tenant_see_1 [.tr .par (ten me span wait dd bt se he), .val (lsD f t), .val (.int time)] = pure (.nx [.tr .par (ten me span wait dd bt (some (f, t, time)) (seeH me t he)), .val (lsD f t), .val (.int time)]) := by
  by_cases hi : t = some me
  · simp [b_Tenant_see_1, b_Tenant_see_2, ten, lsD, seeH, hi]
  · simp [b_Tenant_see_1, b_Tenant_see_2, ten, lsD, seeH, hi]
theorem see_eq (me span wait bt f time : Int) (t : Option Int) (dd : Option Dd) (se : Option (Int × Option Int × Int)) (he : Option (Int × Int)) :
    m_Tenant_see [ten me span wait dd bt se he] [lsD f t, .int time] = pure [ten me span wait dd bt (some (f, t, seeT f se time)) (seeH me t he)] := by
  have e := see1 me span wait bt f (seeT f se time) t dd se he
  cases se with
  | none =>
    simp only [ten, lsD, seeT, sD0] at e ⊢
    simp [m_Tenant_see, b_Tenant_see, e]
  | some q =>
    obtain ⟨g, u, m⟩ := q
    by_cases hg : g = f
    · subst hg
      simp only [ten, lsD, seeT, sD1, if_true] at e ⊢
      simp [m_Tenant_see, b_Tenant_see, e]
    · simp only [ten, lsD, seeT, sD1, if_neg hg] at e ⊢
      simp [m_Tenant_see, b_Tenant_see, e, hg]
/-! the words of the deeds -/
noncomputable def Dd.w : Dd → Str
  | .put _ => "put"
  | .add _ => "add"
  | .sure _ => "sure"
  | .fin => "end"
  | .take _ => "take"
  | .renew _ => "renew"
  | .free _ => "free"
noncomputable def wD : Option Dd → D
  | none => .non
  | some d => .str d.w
noncomputable def isFree : Option Dd → Bool
  | some (.free _) => true
  | _ => false
noncomputable def isLease : Option Dd → Bool
  | some (.free _) => true
  | some (.take _) => true
  | some (.renew _) => true
  | _ => false
theorem word_eq (me span wait bt : Int) (dd : Option Dd) (se : Option (Int × Option Int × Int)) (he : Option (Int × Int)) :
    m_Tenant_begun_word (ten me span wait dd bt se he) [] = pure (.v (wD dd)) := by
  cases dd with
  | none => simp [m_Tenant_begun_word, b_Tenant_begun_word, b_Tenant_begun_word_1, ten, wD]
  | some d => cases d <;> simp [m_Tenant_begun_word, b_Tenant_begun_word, b_Tenant_begun_word_1, ten, wD, oD, Dd.d, Dd.w]
theorem w_free (dd : Option Dd) : oEq (.v (wD dd)) (.v (.str "free")) = pure (.v (.bl (isFree dd))) := by
  cases dd with
  | none => exact e_eq (x := .v .non) (y := .v (.str "free")) rfl ok_free
  | some d =>
    cases d with
    | free f => rw [show oEq (.v (wD (some (.free f)))) (.v (.str "free")) = pure (.v (.bl ((("free" : Str) == "free")))) from e_eqS ok_free ok_free]; simp [isFree]
    | put n => rw [show oEq (.v (wD (some (.put n)))) (.v (.str "free")) = pure (.v (.bl ((("put" : Str) == "free")))) from e_eqS ok_put ok_free, ne_put_free]; rfl
    | add n => rw [show oEq (.v (wD (some (.add n)))) (.v (.str "free")) = pure (.v (.bl ((("add" : Str) == "free")))) from e_eqS ok_add ok_free, ne_add_free]; rfl
    | sure n => rw [show oEq (.v (wD (some (.sure n)))) (.v (.str "free")) = pure (.v (.bl ((("sure" : Str) == "free")))) from e_eqS ok_sure ok_free, ne_sure_free]; rfl
    | fin => rw [show oEq (.v (wD (some .fin))) (.v (.str "free")) = pure (.v (.bl ((("end" : Str) == "free")))) from e_eqS ok_end ok_free, ne_end_free]; rfl
    | take n => rw [show oEq (.v (wD (some (.take n)))) (.v (.str "free")) = pure (.v (.bl ((("take" : Str) == "free")))) from e_eqS ok_take ok_free, ne_take_free]; rfl
    | renew n => rw [show oEq (.v (wD (some (.renew n)))) (.v (.str "free")) = pure (.v (.bl ((("renew" : Str) == "free")))) from e_eqS ok_renew ok_free, ne_renew_free]; rfl
theorem w_nfree (dd : Option Dd) : oNe (.v (wD dd)) (.v (.str "free")) = pure (.v (.bl (!isFree dd))) := by
  cases dd with
  | none => exact e_ne (x := .v .non) (y := .v (.str "free")) rfl ok_free
  | some d =>
    cases d with
    | free f => rw [show oNe (.v (wD (some (.free f)))) (.v (.str "free")) = pure (.v (.bl (!(("free" : Str) == "free")))) from e_neS ok_free ok_free]; simp [isFree]
    | put n => rw [show oNe (.v (wD (some (.put n)))) (.v (.str "free")) = pure (.v (.bl (!(("put" : Str) == "free")))) from e_neS ok_put ok_free, ne_put_free]; rfl
    | add n => rw [show oNe (.v (wD (some (.add n)))) (.v (.str "free")) = pure (.v (.bl (!(("add" : Str) == "free")))) from e_neS ok_add ok_free, ne_add_free]; rfl
    | sure n => rw [show oNe (.v (wD (some (.sure n)))) (.v (.str "free")) = pure (.v (.bl (!(("sure" : Str) == "free")))) from e_neS ok_sure ok_free, ne_sure_free]; rfl
    | fin => rw [show oNe (.v (wD (some .fin))) (.v (.str "free")) = pure (.v (.bl (!(("end" : Str) == "free")))) from e_neS ok_end ok_free, ne_end_free]; rfl
    | take n => rw [show oNe (.v (wD (some (.take n)))) (.v (.str "free")) = pure (.v (.bl (!(("take" : Str) == "free")))) from e_neS ok_take ok_free, ne_take_free]; rfl
    | renew n => rw [show oNe (.v (wD (some (.renew n)))) (.v (.str "free")) = pure (.v (.bl (!(("renew" : Str) == "free")))) from e_neS ok_renew ok_free, ne_renew_free]; rfl
theorem w_in (neg : Bool) (dd : Option Dd) : oIn neg (.v (wD dd)) (.v (.tup [.str "take", .str "renew", .str "free"])) = pure (.v (.bl (if neg then !isLease dd else isLease dd))) := by
  have key : ∀ d : D, d.flat = true → oIn neg (.v d) (.v (.tup [.str "take", .str "renew", .str "free"])) = pure (.v (.bl (if neg then !inD d [.str "take", .str "renew", .str "free"] else inD d [.str "take", .str "renew", .str "free"]))) := fun d hd => by
    unfold oIn
    exact if_pos ⟨hd, rfl⟩
  rw [key _ (by cases dd with
    | none => rfl
    | some d => rfl)]
  have e : inD (wD dd) [.str "take", .str "renew", .str "free"] = isLease dd := by
    cases dd with
    | none => rfl
    | some d =>
      show (peq (.str "take") (.str d.w) || (peq (.str "renew") (.str d.w) || (peq (.str "free") (.str d.w) || false))) = _
      cases d with
      | put n => show ((("take" : Str) == "put") || ((("renew" : Str) == "put") || ((("free" : Str) == "put") || false))) = _; rw [ne_take_put, ne_renew_put, ne_free_put]; rfl
      | add n => show ((("take" : Str) == "add") || ((("renew" : Str) == "add") || ((("free" : Str) == "add") || false))) = _; rw [ne_take_add, ne_renew_add, ne_free_add]; rfl
      | sure n => show ((("take" : Str) == "sure") || ((("renew" : Str) == "sure") || ((("free" : Str) == "sure") || false))) = _; rw [ne_take_sure, ne_renew_sure, ne_free_sure]; rfl
      | fin => show ((("take" : Str) == "end") || ((("renew" : Str) == "end") || ((("free" : Str) == "end") || false))) = _; rw [ne_take_end, ne_renew_end, ne_free_end]; rfl
      | take n => show ((("take" : Str) == "take") || _) = _; simp [isLease]
      | renew n => show ((("take" : Str) == "renew") || ((("renew" : Str) == "renew") || _)) = _; simp [isLease]
      | free n => show ((("take" : Str) == "free") || ((("renew" : Str) == "free") || ((("free" : Str) == "free") || false))) = _; simp [isLease]
  rw [e]
theorem began_eq (me span wait bt time : Int) (dd dd' : Option Dd) (se : Option (Int × Option Int × Int)) (he : Option (Int × Int)) :
    m_Tenant_began [ten me span wait dd bt se he] [oD dd', .int time] = pure [ten me span wait dd' time se (if isFree dd' = true then none else he)] := by
  have e := word_eq me span wait time dd' se he
  have f := w_free dd'
  by_cases h : isFree dd' = true
  · simp [m_Tenant_began, b_Tenant_began, b_Tenant_began_1, b_Tenant_began_2, ten, h, e, f]
  · simp [m_Tenant_began, b_Tenant_began, b_Tenant_began_1, b_Tenant_began_2, ten, h, e, f]
end K64

set_option Elab.async false
set_option linter.all false
set_option maxRecDepth 100000
set_option maxHeartbeats 1000000
namespace K64
open PySem PySem.Spec L2 L3
theorem ok_saw : PySem.PyData.strOk "saw" = true := by decide +kernel
theorem ok_did : PySem.PyData.strOk "did" = true := by decide +kernel
theorem ss : oEq (.v (.str "saw")) (.v (.str "saw")) = pure (.v (.bl true)) := by rw [e_eqS ok_saw ok_saw]; simp
theorem ds_ : oEq (.v (.str "did")) (.v (.str "saw")) = pure (.v (.bl false)) := by rw [e_eqS ok_did ok_saw, show (("did" : Str) == "saw") = false by decide +kernel]
theorem dd_ : oEq (.v (.str "did")) (.v (.str "did")) = pure (.v (.bl true)) := by rw [e_eqS ok_did ok_did]; simp
theorem os_ : oEq (.v (.str "over")) (.v (.str "saw")) = pure (.v (.bl false)) := by rw [e_eqS ok_over ok_saw, show (("over" : Str) == "saw") = false by decide +kernel]
theorem od_ : oEq (.v (.str "over")) (.v (.str "did")) = pure (.v (.bl false)) := by rw [e_eqS ok_over ok_did, show (("over" : Str) == "did") = false by decide +kernel]
theorem so_ : oEq (.v (.str "saw")) (.v (.str "over")) = pure (.v (.bl false)) := by rw [e_eqS ok_saw ok_over, show (("saw" : Str) == "over") = false by decide +kernel]
theorem do_ : oEq (.v (.str "did")) (.v (.str "over")) = pure (.v (.bl false)) := by rw [e_eqS ok_did ok_over, show (("did" : Str) == "over") = false by decide +kernel]
theorem oo_ : oEq (.v (.str "over")) (.v (.str "over")) = pure (.v (.bl true)) := by rw [e_eqS ok_over ok_over]; simp
@[simp] theorem ix0 (d : Dd) : oIx (.v (oD (some d))) (.v (.int 0)) = pure (.v (wD (some d))) := by cases d <;> rfl
@[simp] theorem nN (d : Dd) : R.isN (.v (oD (some d))) = false := by cases d <;> rfl
section
variable (me span wait bt f time : Int) (t : Option Int) (dd : Option Dd) (se : Option (Int × Option Int × Int)) (he : Option (Int × Int))
theorem hear_eq (g : Int) : m_Tenant_hear_answer [ten me span wait dd bt se he] [.tup [.int g, .int f, tD t], .int time] =
    pure [ten me span wait dd bt (some (f, t, seeT f se time)) (if g = 1 ∧ isFree dd = false then some (f, bt) else seeH me t he)] := by
  have e1 : m_Tenant_see [ten me span wait dd bt se he] [.tup [.int f, tD t], .int time] = _ := see_eq me span wait bt f time t dd se he
  have e2 := word_eq me span wait bt dd (some (f, t, seeT f se time)) (seeH me t he)
  have e3 := w_nfree dd
  have cu : cutD [.int g, .int f, tD t] (some 1) none = [.int f, tD t] := rfl
  simp only [ten, sD1] at e1 e2 ⊢
  by_cases h1 : g = 1
  · subst h1
    cases h2 : isFree dd with
    | true =>
      rw [h2] at e3
      simp [m_Tenant_hear_answer, b_Tenant_hear_answer, b_Tenant_hear_answer_1, e1, e2, e3, h2, cu, HT.sIx]
    | false =>
      rw [h2] at e3
      simp [m_Tenant_hear_answer, b_Tenant_hear_answer, b_Tenant_hear_answer_1, e1, e2, e3, h2, cu, HT.sIx]
  · simp [m_Tenant_hear_answer, b_Tenant_hear_answer, b_Tenant_hear_answer_1, e1, e2, e3, h1, cu, HT.sIx]
theorem ended_saw (a : Int) (b c e g : D) : m_Tenant_ended [ten me span wait dd bt se he] [.tup [.str "saw", .tup [.int a, b, .tup [c, e, lsD f t, g]]], .int time] = pure [ten me span wait dd bt (some (f, t, seeT f se time)) (seeH me t he)] := by
  have e1 : m_Tenant_see [ten me span wait dd bt se he] [.tup [.int f, tD t], .int time] = _ := see_eq me span wait bt f time t dd se he
  have e2 : m_lease_of [.tup [c, e, .tup [.int f, tD t], g]] = pure (.v (.tup [.int f, tD t])) := by simp [m_lease_of, b_lease_of]
  simp only [ten, lsD] at e1 ⊢
  simp [m_Tenant_ended, b_Tenant_ended, e1, e2, ss]
theorem ended_did (g : Int) (h : isLease dd = true) : m_Tenant_ended [ten me span wait dd bt se he] [.tup [.str "did", .tup [.int g, .int f, tD t]], .int time] =
    pure [ten me span wait dd bt (some (f, t, seeT f se time)) (if g = 1 ∧ isFree dd = false then some (f, bt) else seeH me t he)] := by
  have e1 := hear_eq me span wait bt f time t dd se he g
  have e2 := word_eq me span wait bt dd se he
  have e3 := w_in false dd
  rw [h] at e3
  simp only [ten] at e1 e2 ⊢
  simp [m_Tenant_ended, b_Tenant_ended, e1, e2, e3, ds_, dd_]
theorem ended_no (z : D) (h : isLease dd = false) : m_Tenant_ended [ten me span wait dd bt se he] [.tup [.str "did", z], .int time] = pure [ten me span wait dd bt se he] := by
  have e2 := word_eq me span wait bt dd se he
  have e3 := w_in false dd
  rw [h] at e3
  simp only [ten] at e2 ⊢
  simp [m_Tenant_ended, b_Tenant_ended, e2, e3, ds_, dd_]
theorem ended_over (z : D) : m_Tenant_ended [ten me span wait dd bt se he] [.tup [.str "over", z], .int time] = pure [ten me span wait dd bt se he] := by
  simp [m_Tenant_ended, b_Tenant_ended, os_, od_, ten]
theorem holds_eq : m_Tenant_holds (ten me span wait dd bt se he) [] = pure (.v (hD he)) := by simp [m_Tenant_holds, b_Tenant_holds, ten]
end
/-! the law's own state -/
noncomputable def pu {α : Type} (s : Bool → α) (w : Bool) (v : α) : Bool → α := fun x => if x = w then v else s x
@[simp] theorem pu_ff {α : Type} (s : Bool → α) (v : α) : pu s false v false = v := rfl
@[simp] theorem pu_tt {α : Type} (s : Bool → α) (v : α) : pu s true v true = v := rfl
@[simp] theorem pu_ft {α : Type} (s : Bool → α) (v : α) : pu s false v true = s true := rfl
@[simp] theorem pu_tf {α : Type} (s : Bool → α) (v : α) : pu s true v false = s false := rfl
noncomputable def wI : Bool → Int
  | false => 0
  | true => 1
/-- nothing under way, or a wish -/
noncomputable def pD : Option (Option Dd) → D
  | none => .lst []
  | some d => .lst [oD d]
noncomputable abbrev two {α : Type} (g : α → D) (s : Bool → α) : Tr := .ls [.lf (g (s false)), .lf (g (s true))]
noncomputable abbrev sta (f : Int) (t : Option Int) (p : Bool → Option (Option Dd)) (c : Bool → Bool) (m : Bool → Int) (s : Bool → Option (Int × Option Int × Int)) (h : Bool → Option (Int × Int)) (b : Bool → Int) : Tr :=
  .dc [.inr "lease", .inr "pending", .inr "closed", .inr "times", .inr "seen", .inr "holds", .inr "begun"] [.lf (lsD f t), two pD p, two D.bl c, two D.int m, two sD s, two hD h, two D.int b]
noncomputable def lawS (f : Int) (t : Option Int) (se : Option (Int × Option Int × Int)) (time : Int) : Option (Int × Option Int × Int) := match se with
  | none => some (f, t, time)
  | some (g, u, m) => if g = f then some (g, u, m) else some (f, t, time)
section
variable (w : Bool) (me f : Int) (t : Option Int) (dd : Option Dd) (p : Bool → Option (Option Dd)) (c : Bool → Bool) (m : Bool → Int) (s : Bool → Option (Int × Option Int × Int)) (h : Bool → Option (Int × Int)) (b : Bool → Int)
theorem lended_over (z : D) : m_law_ended [sta f t p c m s h b] [.int (wI w), .int me, oD dd, .tup [.str "over", z]] = pure [sta f t p c m s h b] := by
  simp [m_law_ended, b_law_ended, oo_, sta, two, lsD]
theorem lended_no (d : Dd) (hd : isLease (some d) = false) (z : D) : m_law_ended [sta f t p c m s h b] [.int (wI w), .int me, oD (some d), .tup [.str "did", z]] = pure [sta f t p c m s h b] := by
  have e := w_in true (some d)
  rw [hd] at e
  simp [m_law_ended, b_law_ended, do_, sta, two, lsD, e]
theorem le3 (out d0 : D) : b_law_ended_3 [.tr .par (sta f t p c m s h b), .val (.int (wI w)), .val (.int me), .val d0, .val out, .val (lsD f t), .val (sD (s w))] =
    b_law_ended_4 [.tr .par (sta f t p c m (pu s w (lawS f t (s w) (m w))) h b), .val (.int (wI w)), .val (.int me), .val d0, .val out, .val (lsD f t), .val (sD (s w))] := by
  cases w
  · cases hs : s false with
    | none => simp [b_law_ended_3, sta, two, lsD, wI, hs, lawS]
    | some q =>
      obtain ⟨g, u, k⟩ := q
      by_cases hg : g = f <;> simp [b_law_ended_3, sta, two, lsD, wI, hs, lawS, hg]
  · cases hs : s true with
    | none => simp [b_law_ended_3, sta, two, lsD, wI, hs, lawS]
    | some q =>
      obtain ⟨g, u, k⟩ := q
      by_cases hg : g = f <;> simp [b_law_ended_3, sta, two, lsD, wI, hs, lawS, hg]
theorem le4s (out s6 : D) : b_law_ended_4 [.tr .par (sta f t p c m s h b), .val (.int (wI w)), .val (.int me), .val .non, .val out, .val (lsD f t), .val s6] =
    pure (.nx [.tr .par (sta f t p c m s (pu h w (seeH me t (h w))) b), .val (.int (wI w)), .val (.int me), .val .non, .val out, .val (lsD f t), .val s6]) := by
  cases w
  · by_cases hi : t = some me <;> simp [b_law_ended_4, sta, two, lsD, wI, seeH, hi]
  · by_cases hi : t = some me <;> simp [b_law_ended_4, sta, two, lsD, wI, seeH, hi]
theorem le4d (d : Dd) (g : Int) (x y z s6 : D) : b_law_ended_4 [.tr .par (sta f t p c m s h b), .val (.int (wI w)), .val (.int me), .val (oD (some d)), .val (.tup [x, .tup [.int g, y, z]]), .val (lsD f t), .val s6] =
    pure (.nx [.tr .par (sta f t p c m s (pu h w (if t = some me then (if isFree (some d) = false ∧ g = 1 then some (f, b w) else h w) else none)) b), .val (.int (wI w)), .val (.int me), .val (oD (some d)), .val (.tup [x, .tup [.int g, y, z]]), .val (lsD f t), .val s6]) := by
  have e3 := w_nfree (some d)
  cases w
  · by_cases hi : t = some me
    · cases hf : isFree (some d) <;> by_cases h1 : g = 1 <;> rw [hf] at e3 <;> simp [b_law_ended_4, sta, two, lsD, wI, hi, hf, h1, e3]
    · simp [b_law_ended_4, sta, two, lsD, wI, hi]
  · by_cases hi : t = some me
    · cases hf : isFree (some d) <;> by_cases h1 : g = 1 <;> rw [hf] at e3 <;> simp [b_law_ended_4, sta, two, lsD, wI, hi, hf, h1, e3]
    · simp [b_law_ended_4, sta, two, lsD, wI, hi]
theorem lended_saw (z : D) : m_law_ended [sta f t p c m s h b] [.int (wI w), .int me, .non, .tup [.str "saw", z]] = pure [sta f t p c m (pu s w (lawS f t (s w) (m w))) (pu h w (seeH me t (h w))) b] := by
  have e3 := le3 w me f t p c m s h b (.tup [.str "saw", z]) .non
  rw [le4s] at e3
  cases w <;> simp only [sta, two, lsD, wI] at e3 ⊢ <;> simp [m_law_ended, b_law_ended, b_law_ended_1, b_law_ended_2, so_, e3]
theorem lended_did (d : Dd) (hd : isLease (some d) = true) (g : Int) (y z : D) : m_law_ended [sta f t p c m s h b] [.int (wI w), .int me, oD (some d), .tup [.str "did", .tup [.int g, y, z]]] =
    pure [sta f t p c m (pu s w (lawS f t (s w) (m w))) (pu h w (if t = some me then (if isFree (some d) = false ∧ g = 1 then some (f, b w) else h w) else none)) b] := by
  have e3 := le3 w me f t p c m s h b (.tup [.str "did", .tup [.int g, y, z]]) (oD (some d))
  rw [le4d] at e3
  have e := w_in true (some d)
  rw [hd] at e
  cases w <;> simp only [sta, two, lsD, wI] at e3 ⊢ <;> simp [m_law_ended, b_law_ended, b_law_ended_1, b_law_ended_2, do_, e, e3]
end
end K64

set_option Elab.async false
set_option linter.all false
set_option maxRecDepth 100000
set_option maxHeartbeats 1000000
namespace K64
open PySem PySem.Spec L2 L3
theorem mod_cases2 (n : Int) : n % 2 = 0 ∨ n % 2 = 1 := by omega
theorem mod_cases3 (n : Int) : n % 3 = 0 ∨ n % 3 = 1 ∨ n % 3 = 2 := by omega
theorem mod_cases4 (n : Int) : n % 4 = 0 ∨ n % 4 = 1 ∨ n % 4 = 2 ∨ n % 4 = 3 := by omega
theorem mod_cases8 (n : Int) : n % 8 = 0 ∨ n % 8 = 1 ∨ n % 8 = 2 ∨ n % 8 = 3 ∨ n % 8 = 4 ∨ n % 8 = 5 ∨ n % 8 = 6 ∨ n % 8 = 7 := by omega
theorem a20 {a b : D} : atI [a, b] 0 = some a := rfl
theorem a21 {a b : D} : atI [a, b] 1 = some b := rfl
theorem a30 {a b c : D} : atI [a, b, c] 0 = some a := rfl
theorem a31 {a b c : D} : atI [a, b, c] 1 = some b := rfl
theorem a32 {a b c : D} : atI [a, b, c] 2 = some c := rfl
theorem a40 {a b c d : D} : atI [a, b, c, d] 0 = some a := rfl
theorem a41 {a b c d : D} : atI [a, b, c, d] 1 = some b := rfl
theorem a42 {a b c d : D} : atI [a, b, c, d] 2 = some c := rfl
theorem a43 {a b c d : D} : atI [a, b, c, d] 3 = some d := rfl
theorem oD_d (d : Dd) : oD (some d) = d.d := rfl
theorem fence_eq (n : Int) : ∃ z, atI ([.int 0, .int 0, .int 0, .int 0, .int 0, .int 0, .int 1, .int (-1)] : List D) (n / 64 % 8) = some (.int z) := by
  rcases mod_cases8 (n / 64) with h | h | h | h | h | h | h | h <;> rw [h] <;> exact ⟨_, rfl⟩
theorem deed3 (n me f : Int) (t : Option Int) (h3 : ¬ n % 16 < 3) : ∃ g, m_law_deed [.int n, .int me, lsD f t] = (do
    let fl ← b_law_deed_3 [.val (.int n), .val (.int me), .val (lsD f t), .val (.int (n % 16)), .val (.int g), .emp]
    match fl with
    | .rt (.v d) => pure (.v d)
    | .rt (.fr xs) => pure (.fr xs)
    | .nx _ => pure (.v .non)
    | _ => bad) := by
  obtain ⟨z, hz⟩ := fence_eq n
  have c64 : CDivB n 64 := divB (by decide) (by decide)
  exact ⟨_, by simp [m_law_deed, b_law_deed, b_law_deed_1, b_law_deed_2, lsD, h3, hz, c64]; rfl⟩
theorem deed4 (n me f g : Int) (t : Option Int) (s5 : Slot) : ∃ d : Dd, b_law_deed_4 [.val (.int n), .val (.int me), .val (lsD f t), .val (.int (n % 16)), .val (.int g), s5] = pure (.rt (.v (oD (some d)))) := by
  have c16 : CDivB n 16 := divB (by decide) (by decide)
  have key : ∀ (c : Bool), tOrM (cT (c2 oEq (c2 oIx (cVar 2) (cK (.int 1))) (cVar 1))) (cT (c2 oGt (cVar 3) (cK (.int 13)))) [.val (.int n), .val (.int me), .val (lsD f t), .val (.int (n % 16)), .val (.int g), s5] = pure c →
      ∃ d : Dd, b_law_deed_4 [.val (.int n), .val (.int me), .val (lsD f t), .val (.int (n % 16)), .val (.int g), s5] = pure (.rt (.v (oD (some d)))) := fun c hc => by
    unfold b_law_deed_4 cSeq cIfS
    rw [hc]
    cases c with
    | false => exact ⟨.take g, by simp [b_law_deed_5, oD_d, Dd.d]⟩
    | true =>
      rcases mod_cases4 (n / 16) with h | h | h | h
      · exact ⟨.renew g, by simp [c16, h, oD_d, Dd.d, a40]⟩
      · exact ⟨.renew g, by simp [c16, h, oD_d, Dd.d, a41]⟩
      · exact ⟨.free g, by simp [c16, h, oD_d, Dd.d, a42]⟩
      · exact ⟨.take g, by simp [c16, h, oD_d, Dd.d, a43]⟩
  by_cases ht : t = some me
  · exact key true (by simp [lsD, ht])
  · exact key (decide (13 < n % 16)) (by simp [lsD, ht])
theorem deed_eq (n me f : Int) (t : Option Int) : ∃ dd, m_law_deed [.int n, .int me, lsD f t] = pure (.v (oD dd)) := by
  have c16 : CDivB n 16 := divB (by decide) (by decide)
  by_cases h3 : n % 16 < 3
  · exact ⟨none, by simp [m_law_deed, b_law_deed, b_law_deed_1, h3]⟩
  · obtain ⟨g, e⟩ := deed3 n me f t h3
    rw [e]
    by_cases h4 : n % 16 = 3
    · rw [h4]
      by_cases h8 : n / 16 % 9 = 8
      · exact ⟨some .fin, by simp [b_law_deed_3, h8, c16, oD_d, Dd.d]⟩
      · rcases mod_cases3 (n / 16) with h | h | h
        · exact ⟨some (.put (n % 10000000000000000000000000000000000000000)), by simp [b_law_deed_3, h8, c16, h, oD_d, Dd.d, a30]⟩
        · exact ⟨some (.sure g), by simp [b_law_deed_3, h8, c16, h, oD_d, Dd.d, a31]⟩
        · exact ⟨some (.add (-n % 10000000000000000000000000000000000000000)), by simp [b_law_deed_3, h8, c16, h, oD_d, Dd.d, a32]⟩
    · obtain ⟨d, e4⟩ := deed4 n me f g t .emp
      exact ⟨some d, by simp [b_law_deed_3, h4, e4]⟩
/-! what the law's outcome is -/
noncomputable def good (d : Dd) (f : Int) (t : Option Int) (me : Int) : Bool := match d with
  | .take g => decide (g = f)
  | .renew g => decide (g = f) && decide (t = some me)
  | .free g => decide (g = f) && decide (t = some me)
  | _ => false
noncomputable def outT (d : Dd) (me : Int) : Option Int := if isFree (some d) = true then none else some me
theorem out_none (f me n : Int) (t : Option Int) : ∃ a b c e g, m_law_outcome [.non, lsD f t, .int me, .int n] = pure (.fr [lsD f t, .tup [.str "saw", .tup [.int a, b, .tup [c, e, lsD f t, g]]]]) := by
  have c4 : CDivB n 4 := divB (by decide) (by decide)
  have c8 : CDivB n 8 := divB (by decide) (by decide)
  have c72 : CDivB n 72 := divB (by decide) (by decide)
  have c144 : CDivB n 144 := divB (by decide) (by decide)
  obtain ⟨b, hb⟩ : ∃ b, atI ([.tup [.int 0, .int 0], .tup [.int (1 + n / 8 % 9), .int me]] : List D) (n / 4 % 2) = some b := by
    rcases mod_cases2 (n / 4) with h | h <;> rw [h] <;> exact ⟨_, rfl⟩
  obtain ⟨c, hc⟩ : ∃ c, atI ([.tup [], .tup [.tup [.str "pot", .int 7]]] : List D) (n / 72 % 2) = some c := by
    rcases mod_cases2 (n / 72) with h | h <;> rw [h] <;> exact ⟨_, rfl⟩
  have cu : ∀ e : D, cutD [c, e, .tup [.int f, tD t], .non] none (some 3) = [c, e, .tup [.int f, tD t]] := fun _ => rfl
  by_cases h : n / 144 % 12 = 5
  · exact ⟨_, _, _, _, _, by simp [m_law_outcome, b_law_outcome, lsD, c4, c8, c72, c144, hb, hc, h, cu, HT.sIx]; rfl⟩
  · exact ⟨_, _, _, _, _, by simp [m_law_outcome, b_law_outcome, lsD, c4, c8, c72, c144, hb, hc, h]; rfl⟩
end K64

set_option Elab.async false
set_option linter.all false
set_option maxRecDepth 100000
set_option maxHeartbeats 1000000
namespace K64
open PySem PySem.Spec L2 L3
theorem wq_put_end : oEq (.v (.str "put")) (.v (.str "end")) = pure (.v (.bl false)) := by rw [e_eqS ok_put ok_end, ne_put_end]
theorem wq_put_put : oEq (.v (.str "put")) (.v (.str "put")) = pure (.v (.bl true)) := by rw [e_eqS ok_put ok_put]; simp
theorem wq_add_end : oEq (.v (.str "add")) (.v (.str "end")) = pure (.v (.bl false)) := by rw [e_eqS ok_add ok_end, ne_add_end]
theorem wq_add_put : oEq (.v (.str "add")) (.v (.str "put")) = pure (.v (.bl false)) := by rw [e_eqS ok_add ok_put, ne_add_put]
theorem wq_add_add : oEq (.v (.str "add")) (.v (.str "add")) = pure (.v (.bl true)) := by rw [e_eqS ok_add ok_add]; simp
theorem wq_sure_end : oEq (.v (.str "sure")) (.v (.str "end")) = pure (.v (.bl false)) := by rw [e_eqS ok_sure ok_end, ne_sure_end]
theorem wq_sure_put : oEq (.v (.str "sure")) (.v (.str "put")) = pure (.v (.bl false)) := by rw [e_eqS ok_sure ok_put, ne_sure_put]
theorem wq_sure_add : oEq (.v (.str "sure")) (.v (.str "add")) = pure (.v (.bl false)) := by rw [e_eqS ok_sure ok_add, ne_sure_add]
theorem wq_sure_sure : oEq (.v (.str "sure")) (.v (.str "sure")) = pure (.v (.bl true)) := by rw [e_eqS ok_sure ok_sure]; simp
theorem wq_end_end : oEq (.v (.str "end")) (.v (.str "end")) = pure (.v (.bl true)) := by rw [e_eqS ok_end ok_end]; simp
theorem wq_take_end : oEq (.v (.str "take")) (.v (.str "end")) = pure (.v (.bl false)) := by rw [e_eqS ok_take ok_end, ne_take_end]
theorem wq_take_put : oEq (.v (.str "take")) (.v (.str "put")) = pure (.v (.bl false)) := by rw [e_eqS ok_take ok_put, ne_take_put]
theorem wq_take_add : oEq (.v (.str "take")) (.v (.str "add")) = pure (.v (.bl false)) := by rw [e_eqS ok_take ok_add, ne_take_add]
theorem wq_take_sure : oEq (.v (.str "take")) (.v (.str "sure")) = pure (.v (.bl false)) := by rw [e_eqS ok_take ok_sure, ne_take_sure]
theorem wq_take_take : oEq (.v (.str "take")) (.v (.str "take")) = pure (.v (.bl true)) := by rw [e_eqS ok_take ok_take]; simp
theorem wq_take_free : oEq (.v (.str "take")) (.v (.str "free")) = pure (.v (.bl false)) := by rw [e_eqS ok_take ok_free, ne_take_free]
theorem wq_renew_end : oEq (.v (.str "renew")) (.v (.str "end")) = pure (.v (.bl false)) := by rw [e_eqS ok_renew ok_end, ne_renew_end]
theorem wq_renew_put : oEq (.v (.str "renew")) (.v (.str "put")) = pure (.v (.bl false)) := by rw [e_eqS ok_renew ok_put, ne_renew_put]
theorem wq_renew_add : oEq (.v (.str "renew")) (.v (.str "add")) = pure (.v (.bl false)) := by rw [e_eqS ok_renew ok_add, ne_renew_add]
theorem wq_renew_sure : oEq (.v (.str "renew")) (.v (.str "sure")) = pure (.v (.bl false)) := by rw [e_eqS ok_renew ok_sure, ne_renew_sure]
theorem wq_renew_take : oEq (.v (.str "renew")) (.v (.str "take")) = pure (.v (.bl false)) := by rw [e_eqS ok_renew ok_take, ne_renew_take]
theorem wq_renew_free : oEq (.v (.str "renew")) (.v (.str "free")) = pure (.v (.bl false)) := by rw [e_eqS ok_renew ok_free, ne_renew_free]
theorem wq_free_end : oEq (.v (.str "free")) (.v (.str "end")) = pure (.v (.bl false)) := by rw [e_eqS ok_free ok_end, ne_free_end]
theorem wq_free_put : oEq (.v (.str "free")) (.v (.str "put")) = pure (.v (.bl false)) := by rw [e_eqS ok_free ok_put, ne_free_put]
theorem wq_free_add : oEq (.v (.str "free")) (.v (.str "add")) = pure (.v (.bl false)) := by rw [e_eqS ok_free ok_add, ne_free_add]
theorem wq_free_sure : oEq (.v (.str "free")) (.v (.str "sure")) = pure (.v (.bl false)) := by rw [e_eqS ok_free ok_sure, ne_free_sure]
theorem wq_free_take : oEq (.v (.str "free")) (.v (.str "take")) = pure (.v (.bl false)) := by rw [e_eqS ok_free ok_take, ne_free_take]
theorem wq_free_free : oEq (.v (.str "free")) (.v (.str "free")) = pure (.v (.bl true)) := by rw [e_eqS ok_free ok_free]; simp
theorem ls_eq (f g me : Int) (t : Option Int) : oEq (.v (.tup [.int f, tD t])) (.v (.tup [.int g, .int me])) = pure (.v (.bl (decide (f = g) && decide (t = some me)))) := by
  have gd : (D.tup [.int f, tD t]).gd 64 = true := by cases t <;> rfl
  rw [e_eq (x := .v (.tup [.int f, tD t])) (y := .v (.tup [.int g, .int me])) gd rfl]
  congr 3
  show (peq (.int f) (.int g) && (peq (tD t) (.int me) && true)) = _
  have e : peq (tD t) (.int me) = decide (t = some me) := by
    cases t with
    | none => rfl
    | some i =>
      show (i == me) = _
      by_cases h : i = me <;> simp [h]
  rw [e, Bool.and_true]
  congr 1
theorem out_plain (d : Dd) (hd : isLease (some d) = false) (f me n : Int) (t : Option Int) : ∃ z, m_law_outcome [oD (some d), lsD f t, .int me, .int n] = pure (.fr [lsD f t, .tup [.str "did", .int z]]) := by
  cases d with
  | put k => exact ⟨_, by simp [m_law_outcome, b_law_outcome, b_law_outcome_1, b_law_outcome_2, b_law_outcome_3, lsD, oD_d, Dd.d, wq_put_end, wq_put_put]; rfl⟩
  | add k => exact ⟨_, by simp [m_law_outcome, b_law_outcome, b_law_outcome_1, b_law_outcome_2, b_law_outcome_3, lsD, oD_d, Dd.d, wq_add_end, wq_add_put, wq_add_add]; rfl⟩
  | sure k => exact ⟨_, by simp [m_law_outcome, b_law_outcome, b_law_outcome_1, b_law_outcome_2, b_law_outcome_3, lsD, oD_d, Dd.d, wq_sure_end, wq_sure_put, wq_sure_add, wq_sure_sure, ls_eq]; rfl⟩
  | fin => exact ⟨1, by simp [m_law_outcome, b_law_outcome, b_law_outcome_1, b_law_outcome_2, b_law_outcome_3, lsD, oD_d, Dd.d, wq_end_end]⟩
  | take k => cases hd
  | renew k => cases hd
  | free k => cases hd
theorem out4 (d : Dd) (hd : isLease (some d) = true) (f me n : Int) (t : Option Int) : m_law_outcome [oD (some d), lsD f t, .int me, .int n] = (do
    let fl ← b_law_outcome_4 [.val (oD (some d)), .val (lsD f t), .val (.int me), .val (.int n), .emp, .emp, .emp]
    match fl with
    | .rt (.v d) => pure (.v d)
    | .rt (.fr xs) => pure (.fr xs)
    | .nx _ => pure (.v .non)
    | _ => bad) := by
  cases d with
  | put k => cases hd
  | add k => cases hd
  | sure k => cases hd
  | fin => cases hd
  | take k => simp [m_law_outcome, b_law_outcome, b_law_outcome_1, b_law_outcome_2, b_law_outcome_3, lsD, oD_d, Dd.d, wq_take_end, wq_take_put, wq_take_add, wq_take_sure] <;> rfl
  | renew k => simp [m_law_outcome, b_law_outcome, b_law_outcome_1, b_law_outcome_2, b_law_outcome_3, lsD, oD_d, Dd.d, wq_renew_end, wq_renew_put, wq_renew_add, wq_renew_sure] <;> rfl
  | free k => simp [m_law_outcome, b_law_outcome, b_law_outcome_1, b_law_outcome_2, b_law_outcome_3, lsD, oD_d, Dd.d, wq_free_end, wq_free_put, wq_free_add, wq_free_sure] <;> rfl
theorem tD0 : tD none = .non := rfl
theorem tD1 {i : Int} : tD (some i) = .int i := rfl
theorem out5 (d : Dd) (hd : isLease (some d) = true) (f me : Int) (t : Option Int) (n s4 s5 : Slot) : ∃ σr, b_law_outcome_4 [.val (oD (some d)), .val (lsD f t), .val (.int me), n, s4, s5, .emp] = b_law_outcome_6 (.val (oD (some d)) :: .val (if good d f t me = true then lsD (f + 1) (outT d me) else lsD f t) :: .val (.int me) :: n :: s4 :: s5 :: .val (.bl (good d f t me)) :: σr) := by
  refine ⟨[], ?_⟩
  cases d with
  | put k => cases hd
  | add k => cases hd
  | sure k => cases hd
  | fin => cases hd
  | take k => by_cases h : k = f <;> simp [b_law_outcome_4, b_law_outcome_5, lsD, oD_d, Dd.d, wq_take_take, wq_take_free, good, outT, isFree, h, a20, tD1]
  | renew k =>
    by_cases h : k = f
    · by_cases ht : t = some me <;> simp [b_law_outcome_4, b_law_outcome_5, lsD, oD_d, Dd.d, wq_renew_take, wq_renew_free, good, outT, isFree, h, ht, a20, tD1]
    · simp [b_law_outcome_4, b_law_outcome_5, lsD, oD_d, Dd.d, good, h]
  | free k =>
    by_cases h : k = f
    · by_cases ht : t = some me <;> simp [b_law_outcome_4, b_law_outcome_5, lsD, oD_d, Dd.d, wq_free_take, wq_free_free, good, outT, isFree, h, ht, a21, tD0]
    · simp [b_law_outcome_4, b_law_outcome_5, lsD, oD_d, Dd.d, good, h]
theorem out_lease (d : Dd) (hd : isLease (some d) = true) (f me n : Int) (t : Option Int) : m_law_outcome [oD (some d), lsD f t, .int me, .int n] =
    pure (.fr (if good d f t me = true then [lsD (f + 1) (outT d me), .tup [.str "did", .tup [.int 1, .int (f + 1), tD (outT d me)]]] else [lsD f t, .tup [.str "did", .tup [.int 0, .int f, tD t]]])) := by
  obtain ⟨σr, e⟩ := out5 d hd f me t (.val (.int n)) .emp .emp
  rw [out4 d hd, e]
  cases good d f t me <;> simp [b_law_outcome_6, lsD]
theorem others_len : ∀ a b : Fin 6, 4 ≤ ((List.range 6).filter fun i => !(i == a.val || i == b.val)).length := by decide
theorem lent_eq (f n : Int) (t : Option Int) {a b : Nat} (ha : a < 6) (hb : b < 6) : ∃ f' t', m_law_lent_on [lsD f t, .int n, .lst [.int a, .int b]] = pure (.v (lsD f' t')) ∧ ((f' = f ∧ t' = t) ∨ f' = f + 1) := by
  have c4 : CDivB n 4 := divB (by decide) (by decide)
  have c16 : CDivB n 16 := divB (by decide) (by decide)
  have ci : ∀ x y : Nat, ((x : Int) == (y : Int)) = (x == y) := fun x y => by rw [Bool.eq_iff_iff]; simp; omega
  have hs : (rngD 0 6).length < sizeLine := by rw [rngD_len]; exact small1000 (by decide)
  by_cases h0 : n % 4 = 0
  · by_cases h1 : n / 4 % 4 = 0
    · exact ⟨f + 1, none, by simp [m_law_lent_on, b_law_lent_on, b_law_lent_on_1, lsD, c4, h0, h1, tD], .inr rfl⟩
    · have e : kLoop (cT (c2 (oIn true) (cVar 0) (cVar 1))) (cVar 0) [.emp, .vw [.int a, .int b]] (rngD 0 6) = pure (((List.range 6).filter fun i => !(i == a || i == b)).map fun i : Nat => D.int i) := by
        have q : rngD 0 6 = (List.range 6).map fun i : Nat => D.int i := by
          unfold rngD
          refine List.map_congr_left fun i _ => ?_
          rw [Int.zero_add]
        rw [q, comp_filter (fun d => match d with | .int i => !(i == (a : Int) || i == (b : Int)) | _ => false), List.filter_map]
        · congr 2
          refine List.filter_congr fun i _ => ?_
          show (!((i : Int) == (a : Int) || (i : Int) == (b : Int))) = _
          rw [ci, ci]
        · intro d hd
          obtain ⟨i, _, rfl⟩ := List.mem_map.mp hd
          have eo : oIn true (.v (.int (i : Int))) (.vw [.int (a : Int), .int (b : Int)]) = pure (.v (.bl (!((i : Int) == (a : Int) || (i : Int) == (b : Int))))) := by
            rw [show oIn true (.v (.int (i : Int))) (.vw [.int (a : Int), .int (b : Int)]) = pure (.v (.bl (!((a : Int) == (i : Int) || ((b : Int) == (i : Int) || false))))) from by unfold oIn; exact if_pos ⟨rfl, rfl⟩, Bool.or_false, ci, ci, ci, ci, BEq.comm (a := a), BEq.comm (a := b)]
          simp [eo]
        · intro d
          simp
      have hl := others_len ⟨a, ha⟩ ⟨b, hb⟩
      generalize hL : ((List.range 6).filter fun i => !(i == a || i == b)) = L at e hl
      have m4 := mod_cases4 (n / 16)
      obtain ⟨k, hk, hk4⟩ : ∃ k : Nat, n / 16 % 4 = (k : Nat) ∧ k < 4 := ⟨(n / 16 % 4).toNat, by omega, by omega⟩
      have at' : atI (L.map fun i : Nat => D.int i) (n / 16 % 4) = some (.int (L[k]'(by omega) : Nat)) := by
        rw [hk]
        exact at_k k (by rw [List.getElem?_map, List.getElem?_eq_getElem (by omega)]; rfl)
      exact ⟨f + 1, some (L[k]'(by omega) : Nat), by simp [m_law_lent_on, b_law_lent_on, b_law_lent_on_1, b_law_lent_on_2, b_law_lent_on_3, lsD, c4, c16, h0, h1, e, at', hs, cpEn, cpSlot, tD], .inr rfl⟩
  · have h0' : 0 < n % 4 := by omega
    exact ⟨f, t, by simp [m_law_lent_on, b_law_lent_on, lsD, h0'], .inl ⟨rfl, rfl⟩⟩
end K64

set_option Elab.async false
set_option linter.all false
set_option maxRecDepth 100000
set_option maxHeartbeats 1000000
namespace K64
open PySem PySem.Spec L2 L3
noncomputable abbrev tens (me : Bool → Int) (span wait : Int) (dd : Bool → Option Dd) (b : Bool → Int) (s : Bool → Option (Int × Option Int × Int)) (h : Bool → Option (Int × Int)) : Tr :=
  .ls [ten (me false) span wait (dd false) (b false) (s false) (h false), ten (me true) span wait (dd true) (b true) (s true) (h true)]
noncomputable def SeenOk (f : Int) (t : Option Int) (se : Option (Int × Option Int × Int)) : Prop := ∀ g u m, se = some (g, u, m) → g ≤ f ∧ (g = f → u = t)
structure Ivr (f : Int) (t : Option Int) (p : Bool → Option (Option Dd)) (s : Bool → Option (Int × Option Int × Int)) (dd : Bool → Option Dd) : Prop where
  pd : ∀ w d, p w = some d → dd w = d
  sn : ∀ w, SeenOk f t (s w)
theorem seen_law {f : Int} {t : Option Int} {se : Option (Int × Option Int × Int)} (h : SeenOk f t se) (time : Int) : some (f, t, seeT f se time) = lawS f t se time := by
  cases se with
  | none => rfl
  | some q =>
    obtain ⟨g, u, m⟩ := q
    unfold seeT lawS
    by_cases hg : g = f
    · have := (h g u m rfl).2 hg
      simp [hg, this]
    · simp [hg]
theorem seen_new {f : Int} {t : Option Int} {m : Int} : SeenOk f t (some (f, t, m)) := fun g u k e => by cases e; exact ⟨Int.le_refl _, fun _ => rfl⟩
theorem seen_up {f f' : Int} {t t' : Option Int} {se : Option (Int × Option Int × Int)} (h : SeenOk f t se) (e : (f' = f ∧ t' = t) ∨ f' = f + 1) : SeenOk f' t' se := fun g u m z => by
  obtain ⟨a, b⟩ := h g u m z
  rcases e with ⟨rfl, rfl⟩ | rfl
  · exact ⟨a, b⟩
  · exact ⟨by omega, fun z => by omega⟩
theorem pu_same {α : Type} (s : Bool → α) (w : Bool) : pu s w (s w) = s := by
  funext x
  unfold pu
  by_cases h : x = w <;> simp [h]
theorem pu_at {α : Type} (s : Bool → α) (w : Bool) (v : α) : pu s w v w = v := by unfold pu; simp
theorem pu_ne {α : Type} (s : Bool → α) {w x : Bool} (v : α) (h : x ≠ w) : pu s w v x = s x := by unfold pu; simp [h]
/-! what is left of a turn behind each of its ways -/
section
variable (w : Bool) (me : Bool → Int) (span wait f mx : Int) (t : Option Int) (dd : Bool → Option Dd) (p : Bool → Option (Option Dd)) (c : Bool → Bool) (m : Bool → Int) (s : Bool → Option (Int × Option Int × Int)) (h : Bool → Option (Int × Int)) (b : Bool → Int) (nm : List D) (n k sp s9 s10 s12 s13 s14 : Slot)
noncomputable abbrev Ev (w : Bool) (me : Bool → Int) (mx : Int) (st tn : Tr) (nm : List D) (n k sp s9 s10 s11 s12 s13 s14 : Slot) : En :=
  [.tr .par st, .tr .par tn, .val (.lst nm), n, k, sp, .val (.int mx), .val (.int (wI w)), .val (.int (me w)), s9, s10, s11, s12, s13, s14]
theorem ev6 : b_law_event_6 (Ev w me mx (sta f t p c m s h b) (tens me span wait dd b s h) nm n k sp s9 s10 .emp s12 s13 s14) =
    if c w = true then pure (.bk (Ev w me mx (sta f t p c m s h b) (tens me span wait dd b s h) nm n k sp s9 s10 (.val (.int (m w))) s12 s13 s14)) else b_law_event_8 (Ev w me mx (sta f t p c m s h b) (tens me span wait dd b s h) nm n k sp s9 s10 (.val (.int (m w))) s12 s13 s14) := by
  cases w
  · cases hc : c false <;> simp [b_law_event_6, b_law_event_7, Ev, sta, two, wI, hc]
  · cases hc : c true <;> simp [b_law_event_6, b_law_event_7, Ev, sta, two, wI, hc]
theorem pend_eq (x : Option (Option Dd)) : oEq (.v (pD x)) (.fr []) = pure (.v (.bl x.isNone)) := by
  cases x with
  | none => exact e_eq (x := .v (.lst [])) (y := .fr []) rfl rfl
  | some d =>
    have gd : (pD (some d)).gd 64 = true := by
      cases d with
      | none => rfl
      | some d => cases d <;> simp [pD, oD, Dd.d, D.gd, gdAll, ok_put, ok_add, ok_sure, ok_end, ok_take, ok_renew, ok_free, show PySem.PyData.strOk "pot" = true by decide +kernel, show PySem.PyData.strOk "pan" = true by decide +kernel]
    exact e_eq (x := .v (pD (some d))) (y := .fr []) gd rfl
end
end K64

set_option Elab.async false
set_option linter.all false
set_option maxRecDepth 100000
set_option maxHeartbeats 1000000
namespace K64
open PySem PySem.Spec L2 L3
section
variable (w : Bool) (me : Bool → Int) (span wait f mx num : Int) (t : Option Int) (dd : Bool → Option Dd) (p : Bool → Option (Option Dd)) (c : Bool → Bool) (m : Bool → Int) (s : Bool → Option (Int × Option Int × Int)) (h : Bool → Option (Int × Int)) (b : Bool → Int) (nm : List D) (n k sp s9 s10 s12 s13 s14 : Slot)
theorem ev8n (hp : p w = none) : ∃ d1 σr, b_law_event_8 (Ev w me mx (sta f t p c m s h b) (tens me span wait dd b s h) nm (.val (.int num)) k sp s9 s10 (.val (.int (m w))) s12 s13 s14) =
    pure (.bk (.tr .par (sta f t (pu p w (some d1)) c m s (pu h w (if isFree d1 = true then none else h w)) (pu b w (m w))) :: .tr .par (tens me span wait (pu dd w d1) (pu b w (m w)) s (pu h w (if isFree d1 = true then none else h w))) :: σr)) := by
  obtain ⟨d1, hd⟩ := deed_eq (num % 100000000000000000000000000000000000000000000000000 + mx / 32) (me w) f t
  have e1 := began_eq (me w) span wait (b w) (m w) (dd w) d1 (s w) (h w)
  have c32 : CDivB mx 32 := divB (by decide) (by decide)
  have pe := pend_eq none
  have pp : pD none = .lst [] := rfl
  have ps : pD (some d1) = .lst [oD d1] := rfl
  simp only [lsD] at hd
  refine ⟨d1, ?_⟩
  cases hf : isFree d1 with
  | true =>
    obtain ⟨d, rfl⟩ : ∃ d, d1 = some d := by
      cases d1 with
      | none => cases hf
      | some d => exact ⟨d, rfl⟩
    have e2 := w_free (some d)
    rw [hf] at e1 e2
    cases w
    · simp only [ten] at e1
      exact ⟨_, by simp [b_law_event_8, Ev, sta, tens, ten, two, lsD, wI, hp, pe, hd, c32, e1, e2, ps]; rfl⟩
    · simp only [ten] at e1
      exact ⟨_, by simp [b_law_event_8, Ev, sta, tens, ten, two, lsD, wI, hp, pe, hd, c32, e1, e2, ps]; rfl⟩
  | false =>
    rw [hf] at e1
    cases d1 with
    | none =>
      simp only [oD0] at hd ps
      cases w
      · simp only [ten, oD0] at e1
        exact ⟨_, by simp [b_law_event_8, Ev, sta, tens, ten, two, lsD, wI, hp, pe, hd, c32, e1, ps]; rfl⟩
      · simp only [ten, oD0] at e1
        exact ⟨_, by simp [b_law_event_8, Ev, sta, tens, ten, two, lsD, wI, hp, pe, hd, c32, e1, ps]; rfl⟩
    | some d =>
      have e2 := w_free (some d)
      rw [hf] at e2
      cases w
      · simp only [ten] at e1
        exact ⟨_, by simp [b_law_event_8, Ev, sta, tens, ten, two, lsD, wI, hp, pe, hd, c32, e1, e2, ps]; rfl⟩
      · simp only [ten] at e1
        exact ⟨_, by simp [b_law_event_8, Ev, sta, tens, ten, two, lsD, wI, hp, pe, hd, c32, e1, e2, ps]; rfl⟩
end
end K64

set_option Elab.async false
set_option linter.all false
set_option maxRecDepth 100000
set_option maxHeartbeats 1000000
namespace K64
open PySem PySem.Spec L2 L3
section
variable (w : Bool) (me : Bool → Int) (span wait f mx : Int) (t : Option Int) (dd : Bool → Option Dd) (p : Bool → Option (Option Dd)) (c : Bool → Bool) (m : Bool → Int) (s : Bool → Option (Int × Option Int × Int)) (h : Bool → Option (Int × Int)) (b : Bool → Int) (nm : List D) (n k sp s9 s10 s11 s12 s13 s14 : Slot)
theorem ev8s {d : Option Dd} (hp : p w = some d) (tn : Tr) : b_law_event_8 (Ev w me mx (sta f t p c m s h b) tn nm n k sp s9 s10 s11 s12 s13 s14) =
    b_law_event_11 (Ev w me mx (sta f t (pu p w none) c m s h b) tn nm n k sp s9 s10 s11 (.val (oD d)) s13 s14) := by
  have pe := pend_eq (some d)
  have pq : oIx (.v (pD (some d))) (.v (.int 0)) = pure (.v (oD d)) := rfl
  have p0 : pD none = .lst [] := rfl
  cases w
  · simp [b_law_event_8, b_law_event_9, b_law_event_10, Ev, sta, two, lsD, wI, hp, pe, pq, p0]
  · simp [b_law_event_8, b_law_event_9, b_law_event_10, Ev, sta, two, lsD, wI, hp, pe, pq, p0]
theorem ev11 {d : Option Dd} {xs : List D} (tn : Tr) (ho : m_law_outcome [oD d, lsD f t, .int (me w), .int (mx / 32)] = pure (.fr xs)) : b_law_event_11 (Ev w me mx (sta f t p c m s h b) tn nm n k sp s9 s10 s11 (.val (oD d)) s13 s14) =
    b_law_event_12 (Ev w me mx (sta f t p c m s h b) tn nm n k sp s9 s10 s11 (.val (oD d)) (.val (.lst xs)) s14) := by
  have c32 : CDivB mx 32 := divB (by decide) (by decide)
  simp only [lsD] at ho
  simp [b_law_event_11, Ev, sta, two, lsD, c32, ho]
theorem ev12n (tn : Tr) : b_law_event_12 (Ev w me mx (sta f t p c m s h b) tn nm n k sp s9 s10 s11 (.val .non) s13 s14) = b_law_event_13 (Ev w me mx (sta f t p c m s h b) tn nm n k sp s9 s10 s11 (.val .non) s13 s14) := by
  simp [b_law_event_12, Ev]
theorem ev12o (d : Dd) (tn : Tr) (hm : mx % 61 = 7) : b_law_event_12 (Ev w me mx (sta f t p c m s h b) tn nm n k sp s9 s10 s11 (.val (oD (some d))) s13 s14) =
    b_law_event_13 (Ev w me mx (sta f t p c m s h b) tn nm n k sp s9 s10 s11 (.val (oD (some d))) (.val (.lst [lsD f t, .tup [.str "over", .non]])) s14) := by
  simp [b_law_event_12, Ev, sta, lsD, hm]
theorem ev12s (d : Dd) (tn : Tr) (hm : ¬ mx % 61 = 7) : b_law_event_12 (Ev w me mx (sta f t p c m s h b) tn nm n k sp s9 s10 s11 (.val (oD (some d))) s13 s14) =
    b_law_event_13 (Ev w me mx (sta f t p c m s h b) tn nm n k sp s9 s10 s11 (.val (oD (some d))) s13 s14) := by
  simp [b_law_event_12, Ev, hm]
theorem gd_oD (d : Dd) : (oD (some d)).gd 64 = true := by
  cases d <;> simp [oD, Dd.d, D.gd, gdAll, ok_put, ok_add, ok_sure, ok_end, ok_take, ok_renew, ok_free, show PySem.PyData.strOk "pot" = true by decide +kernel, show PySem.PyData.strOk "pan" = true by decide +kernel]
theorem end_eq (d : Dd) : ∃ o, oEq (.v (oD (some d))) (.v (.tup [.str "end"])) = pure (.v (.bl o)) :=
  ⟨_, e_eq (x := .v (oD (some d))) (y := .v (.tup [.str "end"])) (gd_oD d) (by simp [R.arg, D.gd, gdAll, ok_end])⟩
theorem ev13n (f' : Int) (t' : Option Int) (tn : Tr) (a bb z : D) : ∃ o, b_law_event_13 (Ev w me mx (sta f t p c m s h b) tn nm n k sp s9 s10 s11 (.val .non) (.val (.lst [lsD f' t', .tup [.str "saw", .tup [a, bb, z]]])) s14) =
    b_law_event_17 (Ev w me mx (sta f' t' p (pu c w o) m s h b) tn nm n k sp s9 s10 s11 (.val .non) (.val (.lst [lsD f' t', .tup [.str "saw", .tup [a, bb, z]]])) (.val (.bl o))) := by
  have e0 : oEq (.v .non) (.v (.tup [.str "end"])) = pure (.v (.bl false)) := e_eq (x := .v .non) (y := .v (.tup [.str "end"])) rfl (by simp [R.arg, D.gd, gdAll, ok_end])
  refine ⟨R.isN (.v bb), ?_⟩
  cases w
  · simp [b_law_event_13, b_law_event_14, b_law_event_15, b_law_event_16, Ev, sta, two, lsD, wI, so_, e0]
  · simp [b_law_event_13, b_law_event_14, b_law_event_15, b_law_event_16, Ev, sta, two, lsD, wI, so_, e0]
theorem ev13s (d : Dd) (f' : Int) (t' : Option Int) (tn : Tr) (wd : Str) (z : D) (hw : wd = "did" ∨ wd = "over") : ∃ o, b_law_event_13 (Ev w me mx (sta f t p c m s h b) tn nm n k sp s9 s10 s11 (.val (oD (some d))) (.val (.lst [lsD f' t', .tup [.str wd, z]])) s14) =
    b_law_event_17 (Ev w me mx (sta f' t' p (pu c w o) m s h b) tn nm n k sp s9 s10 s11 (.val (oD (some d))) (.val (.lst [lsD f' t', .tup [.str wd, z]])) (.val (.bl o))) := by
  obtain ⟨o, e0⟩ := end_eq d
  rcases hw with rfl | rfl
  · refine ⟨o, ?_⟩
    cases w
    · simp [b_law_event_13, b_law_event_14, b_law_event_15, b_law_event_16, Ev, sta, two, lsD, wI, do_, e0]
    · simp [b_law_event_13, b_law_event_14, b_law_event_15, b_law_event_16, Ev, sta, two, lsD, wI, do_, e0]
  · refine ⟨true, ?_⟩
    cases w
    · simp [b_law_event_13, b_law_event_14, b_law_event_15, b_law_event_16, Ev, sta, two, lsD, wI, oo_]
    · simp [b_law_event_13, b_law_event_14, b_law_event_15, b_law_event_16, Ev, sta, two, lsD, wI, oo_]
theorem ev17 {d : Option Dd} (x0 out : D) (s1 : Option (Int × Option Int × Int)) (h1 : Option (Int × Int))
    (hE : m_Tenant_ended [ten (me w) span wait (dd w) (b w) (s w) (h w)] [out, .int (m w)] = pure [ten (me w) span wait (dd w) (b w) s1 h1])
    (hL : m_law_ended [sta f t p c m s h b] [.int (wI w), .int (me w), oD d, out] = pure [sta f t p c m (pu s w s1) (pu h w h1) b]) :
    ∃ σr, b_law_event_17 (Ev w me mx (sta f t p c m s h b) (tens me span wait dd b s h) nm n k sp s9 s10 (.val (.int (m w))) (.val (oD d)) (.val (.lst [x0, out])) s14) =
      pure (.nx (.tr .par (sta f t p c m (pu s w s1) (pu h w h1) b) :: .tr .par (tens me span wait dd b (pu s w s1) (pu h w h1)) :: σr)) := by
  cases w
  · simp only [ten, sta, two, lsD, wI] at hE hL
    exact ⟨_, by simp [b_law_event_17, b_law_event_18, Ev, sta, tens, ten, two, lsD, wI, a21, hE, hL]; rfl⟩
  · simp only [ten, sta, two, lsD, wI] at hE hL
    exact ⟨_, by simp [b_law_event_17, b_law_event_18, Ev, sta, tens, ten, two, lsD, wI, a21, hE, hL]; rfl⟩
end
end K64

set_option Elab.async false
set_option linter.all false
set_option maxRecDepth 100000
set_option maxHeartbeats 1000000
namespace K64
open PySem PySem.Spec L2 L3
section
variable (w : Bool) (me : Bool → Int) (span wait f mx num : Int) (t : Option Int) (dd : Bool → Option Dd) (p : Bool → Option (Option Dd)) (c : Bool → Bool) (m : Bool → Int) (s : Bool → Option (Int × Option Int × Int)) (h : Bool → Option (Int × Int)) (b : Bool → Int) (nm : List D) (k sp s9 s10 s12 s13 s14 : Slot)
theorem ev9 (iv : Ivr f t p s dd) {d : Option Dd} (hp : p w = some d) : ∃ f' t' p' c' s' h' σr,
    b_law_event_8 (Ev w me mx (sta f t p c m s h b) (tens me span wait dd b s h) nm (.val (.int num)) k sp s9 s10 (.val (.int (m w))) s12 s13 s14) = pure (.nx (.tr .par (sta f' t' p' c' m s' h' b) :: .tr .par (tens me span wait dd b s' h') :: σr)) ∧ Ivr f' t' p' s' dd := by
  have hd := iv.pd w d hp
  have pd' : ∀ x e, pu p w none x = some e → dd x = e := fun x e z => by
    by_cases hx : x = w
    · subst hx; rw [pu_at] at z; cases z
    · rw [pu_ne p none hx] at z; exact iv.pd x e z
  have ivs : ∀ {f' : Int} {t' : Option Int} {s1 : Option (Int × Option Int × Int)}, (f' = f ∧ t' = t) ∨ f' = f + 1 → SeenOk f' t' s1 → Ivr f' t' (pu p w none) (pu s w s1) dd := fun {f' t' s1} hf h1 => ⟨pd', fun x => by
    by_cases hx : x = w
    · subst hx; rw [pu_at]; exact h1
    · rw [pu_ne s s1 hx]; exact seen_up (iv.sn x) hf⟩
  rw [ev8s w me f mx t p c m s h b nm _ k sp s9 s10 _ s12 s13 s14 hp]
  cases d with
  | none =>
    obtain ⟨a, bb, c1, e1, g, ho⟩ := out_none f (me w) (mx / 32) t
    obtain ⟨o, e2⟩ := ev13n w me f mx t (pu p w none) c m s h b nm (.val (.int num)) k sp s9 s10 (.val (.int (m w))) s14 f t (tens me span wait dd b s h) (.int a) bb (.tup [c1, e1, lsD f t, g])
    have hE := ended_saw (me w) span wait (b w) f (m w) t (dd w) (s w) (h w) a bb c1 e1 g
    rw [seen_law (iv.sn w)] at hE
    obtain ⟨σr, e3⟩ := ev17 (d := none) w me span wait f mx t dd (pu p w none) (pu c w o) m s h b nm (.val (.int num)) k sp s9 s10 (.val (.bl o)) (lsD f t) (.tup [.str "saw", .tup [.int a, bb, .tup [c1, e1, lsD f t, g]]]) _ _ hE
      (lended_saw w (me w) f t (pu p w none) (pu c w o) m s h b (.tup [.int a, bb, .tup [c1, e1, lsD f t, g]]))
    have sk : SeenOk f t (lawS f t (s w) (m w)) := by rw [← seen_law (iv.sn w)]; exact seen_new
    have e4 := (ev11 (d := none) w me f mx t (pu p w none) c m s h b nm (.val (.int num)) k sp s9 s10 (.val (.int (m w))) s13 s14 (tens me span wait dd b s h) ho).trans ((ev12n w me f mx t (pu p w none) c m s h b nm (.val (.int num)) k sp s9 s10 (.val (.int (m w))) _ s14 (tens me span wait dd b s h)).trans (e2.trans e3))
    exact ⟨f, t, _, _, _, _, σr, e4, ivs (.inl ⟨rfl, rfl⟩) sk⟩
  | some d =>
    by_cases hm : mx % 61 = 7
    · obtain ⟨xs, ho⟩ : ∃ xs, m_law_outcome [oD (some d), lsD f t, .int (me w), .int (mx / 32)] = pure (.fr xs) := by
        cases hl : isLease (some d) with
        | true => exact ⟨_, out_lease d hl f (me w) (mx / 32) t⟩
        | false => obtain ⟨z, e⟩ := out_plain d hl f (me w) (mx / 32) t; exact ⟨_, e⟩
      obtain ⟨o, e2⟩ := ev13s w me f mx t (pu p w none) c m s h b nm (.val (.int num)) k sp s9 s10 (.val (.int (m w))) s14 d f t (tens me span wait dd b s h) "over" .non (.inr rfl)
      have hE := ended_over (me w) span wait (b w) (m w) (dd w) (s w) (h w) .non
      have hL := lended_over w (me w) f t (some d) (pu p w none) (pu c w o) m s h b .non
      obtain ⟨σr, e3⟩ := ev17 (d := some d) w me span wait f mx t dd (pu p w none) (pu c w o) m s h b nm (.val (.int num)) k sp s9 s10 (.val (.bl o)) (lsD f t) (.tup [.str "over", .non]) (s w) (h w) hE (by rw [pu_same, pu_same]; exact hL)
      have e4 := (ev11 (d := some d) w me f mx t (pu p w none) c m s h b nm (.val (.int num)) k sp s9 s10 (.val (.int (m w))) s13 s14 (tens me span wait dd b s h) ho).trans ((ev12o w me f mx t (pu p w none) c m s h b nm (.val (.int num)) k sp s9 s10 (.val (.int (m w))) _ s14 d (tens me span wait dd b s h) hm).trans (e2.trans e3))
      exact ⟨f, t, _, _, _, _, σr, e4, ivs (.inl ⟨rfl, rfl⟩) (iv.sn w)⟩
    · cases hl : isLease (some d) with
      | false =>
        obtain ⟨z, ho⟩ := out_plain d hl f (me w) (mx / 32) t
        obtain ⟨o, e2⟩ := ev13s w me f mx t (pu p w none) c m s h b nm (.val (.int num)) k sp s9 s10 (.val (.int (m w))) s14 d f t (tens me span wait dd b s h) "did" (.int z) (.inl rfl)
        have hE := ended_no (me w) span wait (b w) (m w) (dd w) (s w) (h w) (.int z) (by rw [hd]; exact hl)
        have hL := lended_no w (me w) f t (pu p w none) (pu c w o) m s h b d hl (.int z)
        obtain ⟨σr, e3⟩ := ev17 (d := some d) w me span wait f mx t dd (pu p w none) (pu c w o) m s h b nm (.val (.int num)) k sp s9 s10 (.val (.bl o)) (lsD f t) (.tup [.str "did", .int z]) (s w) (h w) hE (by rw [pu_same, pu_same]; exact hL)
        have e4 := (ev11 (d := some d) w me f mx t (pu p w none) c m s h b nm (.val (.int num)) k sp s9 s10 (.val (.int (m w))) s13 s14 (tens me span wait dd b s h) ho).trans ((ev12s w me f mx t (pu p w none) c m s h b nm (.val (.int num)) k sp s9 s10 (.val (.int (m w))) _ s14 d (tens me span wait dd b s h) hm).trans (e2.trans e3))
        exact ⟨f, t, _, _, _, _, σr, e4, ivs (.inl ⟨rfl, rfl⟩) (iv.sn w)⟩
      | true =>
        have ho := out_lease d hl f (me w) (mx / 32) t
        obtain ⟨f', t', g, hx, hf, hh⟩ : ∃ f' t' g, (if good d f t (me w) = true then [lsD (f + 1) (outT d (me w)), .tup [.str "did", .tup [.int 1, .int (f + 1), tD (outT d (me w))]]] else [lsD f t, .tup [.str "did", .tup [.int 0, .int f, tD t]]]) = [lsD f' t', .tup [.str "did", .tup [.int g, .int f', tD t']]] ∧
            ((f' = f ∧ t' = t) ∨ f' = f + 1) ∧ (if g = 1 ∧ isFree (some d) = false then some (f', b w) else seeH (me w) t' (h w)) = (if t' = some (me w) then (if isFree (some d) = false ∧ g = 1 then some (f', b w) else h w) else none) := by
          cases hg : good d f t (me w) with
          | true =>
            refine ⟨f + 1, outT d (me w), 1, by simp, .inr rfl, ?_⟩
            cases hq : isFree (some d) with
            | true => simp [outT, hq, seeH]
            | false => simp [outT, hq]
          | false =>
            refine ⟨f, t, 0, by simp, .inl ⟨rfl, rfl⟩, ?_⟩
            simp [seeH]
        rw [hx] at ho
        obtain ⟨o, e2⟩ := ev13s w me f mx t (pu p w none) c m s h b nm (.val (.int num)) k sp s9 s10 (.val (.int (m w))) s14 d f' t' (tens me span wait dd b s h) "did" (.tup [.int g, .int f', tD t']) (.inl rfl)
        have hE := ended_did (me w) span wait (b w) f' (m w) t' (dd w) (s w) (h w) g (by rw [hd]; exact hl)
        rw [hd, hh, seen_law (seen_up (iv.sn w) hf)] at hE
        have hL := lended_did w (me w) f' t' (pu p w none) (pu c w o) m s h b d hl g (.int f') (tD t')
        obtain ⟨σr, e3⟩ := ev17 (d := some d) w me span wait f' mx t' dd (pu p w none) (pu c w o) m s h b nm (.val (.int num)) k sp s9 s10 (.val (.bl o)) (lsD f' t') (.tup [.str "did", .tup [.int g, .int f', tD t']]) _ _ (by rw [hd]; exact hE) hL
        have sk : SeenOk f' t' (lawS f' t' (s w) (m w)) := by rw [← seen_law (seen_up (iv.sn w) hf)]; exact seen_new
        have e4 := (ev11 (d := some d) w me f mx t (pu p w none) c m s h b nm (.val (.int num)) k sp s9 s10 (.val (.int (m w))) s13 s14 (tens me span wait dd b s h) ho).trans ((ev12s w me f mx t (pu p w none) c m s h b nm (.val (.int num)) k sp s9 s10 (.val (.int (m w))) _ s14 d (tens me span wait dd b s h) hm).trans (e2.trans e3))
        exact ⟨f', t', _, _, _, _, σr, e4, ivs hf sk⟩
/-- behind the clocks and the lease -/
theorem ev (iv : Ivr f t p s dd) : ∃ f' t' p' c' s' h' b' dd' σr fl, b_law_event_6 (Ev w me mx (sta f t p c m s h b) (tens me span wait dd b s h) nm (.val (.int num)) k sp s9 s10 .emp s12 s13 s14) = pure fl ∧
    (fl = .nx (.tr .par (sta f' t' p' c' m s' h' b') :: .tr .par (tens me span wait dd' b' s' h') :: σr) ∨ fl = .bk (.tr .par (sta f' t' p' c' m s' h' b') :: .tr .par (tens me span wait dd' b' s' h') :: σr)) ∧ Ivr f' t' p' s' dd' := by
  rw [ev6]
  by_cases hc : c w = true
  · rw [if_pos hc]
    exact ⟨f, t, p, c, s, h, b, dd, _, _, rfl, .inr rfl, iv⟩
  · rw [if_neg hc]
    cases hp : p w with
    | none =>
      obtain ⟨d1, σr, e⟩ := ev8n w me span wait f mx num t dd p c m s h b nm k sp s9 s10 s12 s13 s14 hp
      refine ⟨f, t, _, _, _, _, _, _, σr, _, e, .inr rfl, fun x d z => ?_, iv.sn⟩
      by_cases hx : x = w
      · subst hx; rw [pu_at] at z ⊢; cases z; rfl
      · rw [pu_ne p _ hx] at z; rw [pu_ne dd _ hx]; exact iv.pd x d z
    | some d =>
      obtain ⟨f', t', p', c', s', h', σr, e, iv'⟩ := ev9 w me span wait f mx num t dd p c m s h b nm k sp s9 s10 s12 s13 s14 iv hp
      exact ⟨f', t', p', c', s', h', b, dd, σr, _, e, .inl rfl, iv'⟩
end
end K64

set_option Elab.async false
set_option linter.all false
set_option maxRecDepth 100000
set_option maxHeartbeats 1000000
namespace K64
open PySem PySem.Spec L2 L3
section
variable (w : Bool) (me : Bool → Int) (span wait f mx num : Int) (t : Option Int) (dd : Bool → Option Dd) (p : Bool → Option (Option Dd)) (c : Bool → Bool) (m : Bool → Int) (s : Bool → Option (Int × Option Int × Int)) (h : Bool → Option (Int × Int)) (b : Bool → Int) (nm : List D) (n k s9 s10 s11 s12 s13 s14 : Slot)
theorem turn (j : Bool) (tn : Tr) (h1 : 1 ≤ span) (h0 : 0 ≤ mx) (h2 : mx < 2147483629) : ∃ z, l_law_event_0 (Ev w me mx (sta f t p c m s h b) tn nm n k (.val (.int span)) (.val (.int (wI j))) s10 s11 s12 s13 s14) =
    pure (.nx (Ev w me mx (sta f t p c (pu m j (m j + z)) s h b) tn nm n k (.val (.int span)) (.val (.int (wI j))) (.val (.int z)) s11 s12 s13 s14)) := by
  have c3 : CDivB mx 3 := divB (by decide) (by decide)
  have c4 : CDivB mx 4 := divB (by decide) (by decide)
  have c7 : CDivB mx 7 := divB (by decide) (by decide)
  have c9 : CDivB span 1000000000 := divB (by decide) (by decide)
  have d3 : CMulB (mx / 3) (1 + span / 1000000000) := mulS (by omega) (by omega)
  have d4 : CMulB (mx / 4) (1 + span / 1000000000) := mulS (by omega) (by omega)
  have hp : 0 < span + 2 := by omega
  by_cases h7 : 0 < mx / 7 % 3
  · cases j
    · exact ⟨_, by simp [l_law_event_0, Ev, sta, two, wI, c3, c7, c9, d3, hp, h7]; rfl⟩
    · exact ⟨_, by simp [l_law_event_0, Ev, sta, two, wI, c4, c7, c9, d4, hp, h7]; rfl⟩
  · cases j
    · exact ⟨_, by simp [l_law_event_0, Ev, sta, two, wI, c3, c7, c9, d3, hp, h7]; rfl⟩
    · exact ⟨_, by simp [l_law_event_0, Ev, sta, two, wI, c4, c7, c9, d4, hp, h7]; rfl⟩
theorem clocks (tn : Tr) (h1 : 1 ≤ span) (h0 : 0 ≤ mx) (h2 : mx < 2147483629) : ∃ m' s9' s10', fLoop (fun d σ => l_law_event_0 (σ.set 9 (.val d))) (rngD 0 2) (Ev w me mx (sta f t p c m s h b) tn nm n k (.val (.int span)) s9 s10 s11 s12 s13 s14) =
    pure (.nx (Ev w me mx (sta f t p c m' s h b) tn nm n k (.val (.int span)) s9' s10' s11 s12 s13 s14)) := by
  obtain ⟨σ', e, m', s9', s10', rfl⟩ := for_inv (b := fun d σ => l_law_event_0 (σ.set 9 (.val d))) (ds := rngD 0 2) (σ := Ev w me mx (sta f t p c m s h b) tn nm n k (.val (.int span)) s9 s10 s11 s12 s13 s14)
    (fun _ σ => ∃ m' s9' s10', σ = Ev w me mx (sta f t p c m' s h b) tn nm n k (.val (.int span)) s9' s10' s11 s12 s13 s14) ⟨m, s9, s10, rfl⟩ (fun i d σ hd ⟨m', s9', s10', es⟩ => by
      obtain ⟨hi, rfl⟩ := rngD_get hd
      subst es
      obtain ⟨j, hj⟩ : ∃ j : Bool, (0 : Int) + (i : Nat) = wI j := by
        match i, hi with
        | 0, _ => exact ⟨false, rfl⟩
        | 1, _ => exact ⟨true, rfl⟩
      obtain ⟨z, e⟩ := turn w me span f mx t p c m' s h b nm n k s10' s11 s12 s13 s14 j tn h1 h0 h2
      rw [hj]
      exact ⟨_, .inl e, _, _, _, rfl⟩)
  exact ⟨m', s9', s10', e⟩
end
section
variable {a b : Nat} (ha : a < 6) (hb : b < 6)
noncomputable abbrev meB (a b : Nat) : Bool → Int := fun w => if w = true then (b : Int) else (a : Int)
include ha hb
theorem ev4 (w : Bool) (span wait f mx num : Int) (t : Option Int) (dd : Bool → Option Dd) (p : Bool → Option (Option Dd)) (c : Bool → Bool) (m : Bool → Int) (s : Bool → Option (Int × Option Int × Int)) (h : Bool → Option (Int × Int)) (bg : Bool → Int) (k : Slot) (iv : Ivr f t p s dd) (h1 : 1 ≤ span) (h0 : 0 ≤ mx) (h2 : mx < 2147483629) :
    ∃ f' t' p' c' m' s' h' b' dd' σr fl, b_law_event_4 (Ev w (meB a b) mx (sta f t p c m s h bg) (tens (meB a b) span wait dd bg s h) [.int a, .int b] (.val (.int num)) k (.val (.int span)) .emp .emp .emp .emp .emp .emp) = pure fl ∧
    (fl = .nx (.tr .par (sta f' t' p' c' m' s' h' b') :: .tr .par (tens (meB a b) span wait dd' b' s' h') :: σr) ∨ fl = .bk (.tr .par (sta f' t' p' c' m' s' h' b') :: .tr .par (tens (meB a b) span wait dd' b' s' h') :: σr)) ∧ Ivr f' t' p' s' dd' := by
  obtain ⟨m', s9', s10', e1⟩ := clocks w (meB a b) span f mx t p c m s h bg [.int a, .int b] (.val (.int num)) k .emp .emp .emp .emp .emp .emp (tens (meB a b) span wait dd bg s h) h1 h0 h2
  obtain ⟨f1, t1, e2, hf⟩ := lent_eq f (mx / 16) t ha hb
  have iv1 : Ivr f1 t1 p s dd := ⟨iv.pd, fun x => seen_up (iv.sn x) hf⟩
  obtain ⟨f', t', p', c', s', h', b', dd', σr, fl, e3, hfl, iv'⟩ := ev w (meB a b) span wait f1 mx num t1 dd p c m' s h bg [.int a, .int b] k (.val (.int span)) s9' s10' .emp .emp .emp iv1
  have c16 : CDivB mx 16 := divB (by decide) (by decide)
  refine ⟨f', t', p', c', m', s', h', b', dd', σr, fl, ?_, hfl, iv'⟩
  simp only [lsD] at e2
  simp only [Ev, sta, two, lsD] at e1 e3 ⊢
  simp [b_law_event_4, e1, b_law_event_5, c16, e2, e3]
theorem event_eq (span wait f num k : Int) (t : Option Int) (dd : Bool → Option Dd) (p : Bool → Option (Option Dd)) (c : Bool → Bool) (m : Bool → Int) (s : Bool → Option (Int × Option Int × Int)) (h : Bool → Option (Int × Int)) (bg : Bool → Int) (iv : Ivr f t p s dd) (h1 : 1 ≤ span) (hk : 0 ≤ k) (hk' : k < 1000) :
    ∃ f' t' p' c' m' s' h' b' dd', m_law_event [sta f t p c m s h bg, tens (meB a b) span wait dd bg s h] [.lst [.int a, .int b], .int num, .int k, .int span] = pure [sta f' t' p' c' m' s' h' b', tens (meB a b) span wait dd' b' s' h'] ∧ Ivr f' t' p' s' dd' := by
  have c0 : CMulB num 48271 := .inr (.inl ⟨by decide, by decide⟩)
  have c1 : CMulB k k := mulS (by omega) (by omega)
  have c2 : CMulB (k * k) 7919 := .inr (.inl ⟨by decide, by decide⟩)
  have m1 := mod_lt (a := num * 48271 + k * k * 7919) (b := 2147483647) (by decide)
  generalize hx : (num * 48271 + k * k * 7919) % 2147483647 = x at m1
  have c3 : CMulB x x := mulS (by omega) (by omega)
  have m2 := mod_lt (a := x * x) (b := 2147483629) (by decide)
  generalize hy : x * x % 2147483629 = y at m2
  obtain ⟨w, hw⟩ : ∃ w : Bool, y % 2 = wI w := by
    rcases mod_cases2 y with q | q
    · exact ⟨false, q⟩
    · exact ⟨true, q⟩
  have hat : atI ([.int a, .int b] : List D) (wI w) = some (.int (meB a b w)) := by cases w <;> rfl
  obtain ⟨f', t', p', c', m', s', h', b', dd', σr, fl, e, hfl, iv'⟩ := ev4 ha hb w span wait f y num t dd p c m s h bg (.val (.int k)) iv h1 m2.1 m2.2
  refine ⟨f', t', p', c', m', s', h', b', dd', ?_, iv'⟩
  simp only [Ev] at e
  rcases hfl with rfl | rfl
  · simp [m_law_event, b_law_event, b_law_event_1, b_law_event_2, b_law_event_3, c0, c1, c2, c3, hx, hy, hw, hat, e]
  · simp [m_law_event, b_law_event, b_law_event_1, b_law_event_2, b_law_event_3, c0, c1, c2, c3, hx, hy, hw, hat, e]
end
end K64

set_option Elab.async false
set_option linter.all false
set_option maxRecDepth 100000
set_option maxHeartbeats 1000000
namespace K64
open PySem PySem.Spec L2 L3
theorem cell_at (ns : List Int) (k : Nat) : m_law_cell_at [.lst (ns.map D.int), .int (k : Nat)] = pure (.v (.int (ns.getD k 0))) := by
  simp only [m_law_cell_at, b_law_cell_at, b_law_cell_at_1]
  by_cases h : k < ns.length
  · simp [h, at_ints h]
  · simp [h]
noncomputable abbrev waitF (span slow fast : Int) : Int := (span * fast + slow - 1) / slow
theorem wait_eq {span slow fast : Int} (h1 : 1 ≤ slow) (h2 : slow < 10 ^ 60) (h0 : 1 ≤ fast) (h3 : fast < 10 ^ 60) (h4 : 1 ≤ span) (h5 : span < 10 ^ 60) :
    m_wait_for [.int span, .int slow, .int fast] = pure (.v (.int (waitF span slow fast))) := by
  have c1 : CMulB span fast := mulB (by omega) (by omega) (by omega) (by omega)
  have c2 : CDivB (span * fast + slow - 1) slow := divB (by omega) (by omega)
  simp [m_wait_for, b_wait_for, c1, c2]
theorem init_eq (me : Int) {span slow fast : Int} (h1 : 1 ≤ slow) (h2 : slow < 10 ^ 60) (h0 : 1 ≤ fast) (h3 : fast < 10 ^ 60) (h4 : 1 ≤ span) (h5 : span < 10 ^ 60) :
    m_Tenant___init__ [.ob "Tenant" [] []] [.int me, .int span, .int slow, .int fast] = pure [ten me span (waitF span slow fast) none 0 none none] := by
  have e := wait_eq h1 h2 h0 h3 h4 h5
  simp [m_Tenant___init__, b_Tenant___init__, b_Tenant___init___1, b_Tenant___init___2, b_Tenant___init___3, b_Tenant___init___4, b_Tenant___init___5, b_Tenant___init___6, e, ten]
theorem names_eq (n : Int) : ∃ a b : Nat, a < 6 ∧ b < 6 ∧ m_law_names [.int n] = pure (.fr [.int a, .int b]) := by
  have c6 : CDivB n 6 := divB (by decide) (by decide)
  have m1 := mod_lt (a := n) (b := 6) (by decide)
  have m2 := mod_lt (a := n % 6 + 1 + n / 6 % 5) (b := 6) (by decide)
  refine ⟨(n % 6).toNat, ((n % 6 + 1 + n / 6 % 5) % 6).toNat, by omega, by omega, ?_⟩
  rw [Int.toNat_of_nonneg m1.1, Int.toNat_of_nonneg m2.1]
  simp [m_law_names, b_law_names, b_law_names_1, c6]
theorem start_eq (n : Int) : ∃ f m, m_law_start [.int n] = pure (sta f none (fun _ => none) (fun _ => false) m (fun _ => none) (fun _ => none) (fun _ => 0)) := by
  have c30 : CDivB n 30 := divB (by decide) (by decide)
  have c7 : CDivB n 7 := divB (by decide) (by decide)
  refine ⟨n / 30 % 100000000000000000000000000000000000000000000000000, fun w => if w = true then n / 7 % 1000000000000000000000000000000 else n % 7, ?_⟩
  simp [m_law_start, b_law_start, b_law_start_1, b_law_start_2, b_law_start_3, b_law_start_4, b_law_start_5, c30, c7, sta, two, lsD, tD, pD]
theorem ivr0 (f : Int) : Ivr f none (fun _ => none) (fun _ => none) (fun _ => none) := ⟨fun w d z => (by cases z), fun w g u m z => (by cases z)⟩
end K64

set_option Elab.async false
set_option linter.all false
set_option maxRecDepth 100000
set_option maxHeartbeats 1000000
namespace K64
open PySem PySem.Spec L2 L3
theorem me0 {a b : Nat} : meB a b false = (a : Int) := rfl
theorem me1 {a b : Nat} : meB a b true = (b : Int) := rfl
theorem span_eq (n : Int) : ∃ span, m_law_span [.int n] = pure (.v (.int span)) ∧ 1 ≤ span ∧ span < 10 ^ 60 := by
  have c50 : CDivB n 50 := divB (by decide) (by decide)
  have c200 : CDivB n 200 := divB (by decide) (by decide)
  have m1 := mod_lt (a := n / 200) (b := 100000000000000000000000000000000000000000000000000) (by decide)
  have m2 := mod_lt (a := n) (b := 50) (by decide)
  by_cases h : n / 50 % 4 = 1
  · exact ⟨1 + n / 200 % 100000000000000000000000000000000000000000000000000, by simp [m_law_span, b_law_span, c50, c200, h], by omega, by omega⟩
  · exact ⟨1 + n % 50, by simp [m_law_span, b_law_span, b_law_span_1, c50, h], by omega, by omega⟩
theorem whole_eq (i : Int) : m_law_whole [.int i] = pure (.v (.bl true)) := by simp [m_law_whole, b_law_whole]
theorem triple_h (he : Option (Int × Int)) : m_law_triple [hD he, hD he] = pure (.v (.bl true)) := by
  cases he with
  | none => simp [m_law_triple, b_law_triple]
  | some q =>
    obtain ⟨f, m⟩ := q
    have gd : (D.tup [.int f, .int m]).gd 64 = true := rfl
    have pe : peq (.tup [.int f, .int m]) (.tup [.int f, .int m]) = true := by simp [peq, peqAll]
    have e' : oEq (.v (.tup [.int f, .int m])) (.v (.tup [.int f, .int m])) = pure (.v (.bl true)) := by
      rw [e_eq (x := .v (.tup [.int f, .int m])) (y := .v (.tup [.int f, .int m])) gd gd]; show pure (R.v (.bl (peq (.tup [.int f, .int m]) (.tup [.int f, .int m])))) = _; rw [pe]
    simp [m_law_triple, b_law_triple, b_law_triple_1, b_law_triple_2, b_law_triple_3, fLoop, l_law_triple_0, whole_eq, e']
noncomputable def bel (he : Option (Int × Int)) (time span : Int) : Bool := match he with
  | none => false
  | some (_, m) => decide (time - m < span)
theorem believes_eq (me span wait bt : Int) (dd : Option Dd) (se : Option (Int × Option Int × Int)) (he : Option (Int × Int)) (time : Int) : m_Tenant_believes (ten me span wait dd bt se he) [.int time] = pure (.v (.bl (bel he time span))) := by
  cases he with
  | none => simp [m_Tenant_believes, b_Tenant_believes, ten, bel]
  | some q => obtain ⟨f, m⟩ := q; simp [m_Tenant_believes, b_Tenant_believes, ten, bel]
theorem ne_bb (x : Bool) : oNe (.v (.bl x)) (.v (.bl x)) = pure (.v (.bl false)) := by
  rw [e_ne (x := .v (.bl x)) (y := .v (.bl x)) rfl rfl]
  show pure (R.v (.bl (!(x == x)))) = _
  simp
section
variable {a b : Nat} (ha : a < 6) (hb : b < 6)
noncomputable abbrev Lw (ns : List Int) (a b : Nat) (span slow fast wait f : Int) (t : Option Int) (dd : Bool → Option Dd) (p : Bool → Option (Option Dd)) (c : Bool → Bool) (m : Bool → Int) (s : Bool → Option (Int × Option Int × Int)) (h : Bool → Option (Int × Int)) (bg : Bool → Int) (s7 s8 s9 s10 s11 s12 s13 : Slot) : En :=
  [.vw (ns.map D.int), .val (.int span), .val (.int slow), .val (.int fast), .val (.lst [.int a, .int b]), .tr .own (tens (meB a b) span wait dd bg s h), .tr .own (sta f t p c m s h bg), s7, s8, s9, s10, s11, s12, s13]
section
variable (ns : List Int) (a b : Nat) (span slow fast wait f : Int) (t : Option Int) (dd : Bool → Option Dd) (p : Bool → Option (Option Dd)) (c : Bool → Bool) (m : Bool → Int) (s : Bool → Option (Int × Option Int × Int)) (h : Bool → Option (Int × Int)) (bg : Bool → Int) (s7 s9 s11 s12 s13 : Slot) (w : Bool)
theorem one_eq (time : Int) : l_law_0 (Lw ns a b span slow fast wait f t dd p c m s h bg s7 (.val (.int (wI w))) s9 (.val (hD (h w))) s11 (.val (.int time)) s13) =
    pure (.nx (Lw ns a b span slow fast wait f t dd p c m s h bg s7 (.val (.int (wI w))) s9 (.val (hD (h w))) s11 (.val (.int time)) (.val (.bl (bel (h w) time span))))) := by
  have e1 := believes_eq (meB a b w) span wait (bg w) (dd w) (s w) (h w) time
  have e2 := ne_bb (bel (h w) time span)
  cases w
  · cases hh : h false with
    | none =>
      simp only [ten, hh, hD0, bel] at e1 e2
      simp [l_law_0, Lw, tens, ten, sta, two, wI, hh, bel, e1, e2]
    | some q =>
      obtain ⟨g, k⟩ := q
      simp only [ten, hh, hD1, bel] at e1 e2
      simp [l_law_0, Lw, tens, ten, sta, two, wI, hh, bel, e1, e2]
  · cases hh : h true with
    | none =>
      simp only [ten, hh, hD0, bel] at e1 e2
      simp [l_law_0, Lw, tens, ten, sta, two, wI, hh, bel, e1, e2]
    | some q =>
      obtain ⟨g, k⟩ := q
      simp only [ten, hh, hD1, bel] at e1 e2
      simp [l_law_0, Lw, tens, ten, sta, two, wI, hh, bel, e1, e2]
theorem times_eq (xs : List Int) : ∃ s12' s13', fLoop (fun d σ => l_law_0 (σ.set 12 (.val d))) (xs.map D.int) (Lw ns a b span slow fast wait f t dd p c m s h bg s7 (.val (.int (wI w))) s9 (.val (hD (h w))) s11 s12 s13) =
    pure (.nx (Lw ns a b span slow fast wait f t dd p c m s h bg s7 (.val (.int (wI w))) s9 (.val (hD (h w))) s11 s12' s13')) := by
  obtain ⟨σ', e, s12', s13', rfl⟩ := for_inv (b := fun d σ => l_law_0 (σ.set 12 (.val d))) (ds := xs.map D.int) (σ := Lw ns a b span slow fast wait f t dd p c m s h bg s7 (.val (.int (wI w))) s9 (.val (hD (h w))) s11 s12 s13)
    (fun _ σ => ∃ s12' s13', σ = Lw ns a b span slow fast wait f t dd p c m s h bg s7 (.val (.int (wI w))) s9 (.val (hD (h w))) s11 s12' s13') ⟨s12, s13, rfl⟩ (fun i d σ hd ⟨s12', s13', es⟩ => by
      rw [List.getElem?_map] at hd
      cases ex : xs[i]? with
      | none => rw [ex] at hd; cases hd
      | some x =>
        rw [ex] at hd
        cases hd
        subst es
        exact ⟨_, .inl (one_eq ns a b span slow fast wait f t dd p c m s h bg s7 s9 s11 s13' w x), _, _, rfl⟩)
  exact ⟨s12', s13', e⟩
theorem look_eq {num kk : Int} (s10 : Slot) (hx : atI (ns.map D.int) kk = some (.int num)) : ∃ s9' s10' s11' s12' s13', l_law_1 (Lw ns a b span slow fast wait f t dd p c m s h bg (.val (.int kk)) (.val (.int (wI w))) s9 s10 s11 s12 s13) =
    pure (.nx (Lw ns a b span slow fast wait f t dd p c m s h bg (.val (.int kk)) (.val (.int (wI w))) s9' s10' s11' s12' s13')) := by
  have e1 := holds_eq (meB a b w) span wait (bg w) (dd w) (s w) (h w)
  have e2 := triple_h (h w)
  have key : ∀ xs : List Int, (xs = (match h w with
      | none => [m w, m w + num % 100000000000000000000000000000000000000000000000000]
      | some (_, k) => [m w, m w + num % 100000000000000000000000000000000000000000000000000, if m w < k + span - 1 then k + span - 1 else m w, if m w < k + span then k + span else m w])) →
      ∃ s12' s13', l_law_1 (Lw ns a b span slow fast wait f t dd p c m s h bg (.val (.int kk)) (.val (.int (wI w))) s9 s10 s11 s12 s13) = pure (.nx (Lw ns a b span slow fast wait f t dd p c m s h bg (.val (.int kk)) (.val (.int (wI w))) (.val (.int (m w))) (.val (hD (h w))) (.val (.lst (xs.map D.int))) s12' s13')) := fun xs hxs => by
    obtain ⟨s12', s13', e3⟩ := times_eq ns a b span slow fast wait f t dd p c m s h bg (.val (.int kk)) (.val (.int (m w))) (.val (.lst (xs.map D.int))) s12 s13 w xs
    have h4 : 4 ≤ sizeLine := Nat.le_of_lt (small1000 (by decide))
    refine ⟨s12', s13', ?_⟩
    cases hh : h w with
    | none =>
      rw [hh] at hxs
      subst hxs
      cases w
      · simp only [ten, hh, hD0, Lw, tens, sta, two, wI, List.map_cons, List.map_nil] at e1 e2 e3 ⊢
        simp [l_law_1, hx, e1, e2, e3, h4]
      · simp only [ten, hh, hD0, Lw, tens, sta, two, wI, List.map_cons, List.map_nil] at e1 e2 e3 ⊢
        simp [l_law_1, hx, e1, e2, e3, h4]
    | some q =>
      obtain ⟨g, k⟩ := q
      rw [hh] at hxs
      subst hxs
      cases w
      · simp only [ten, hh, hD1, Lw, tens, sta, two, wI, List.map_cons, List.map_nil] at e1 e2 e3 ⊢
        simp [l_law_1, hx, e1, e2, e3, h4]
      · simp only [ten, hh, hD1, Lw, tens, sta, two, wI, List.map_cons, List.map_nil] at e1 e2 e3 ⊢
        simp [l_law_1, hx, e1, e2, e3, h4]
  obtain ⟨s12', s13', e⟩ := key _ rfl
  exact ⟨_, _, _, s12', s13', e⟩
theorem looks {num kk : Int} (s8 s10 : Slot) (hx : atI (ns.map D.int) kk = some (.int num)) :
    ∃ s8' s9' s10' s11' s12' s13', fLoop (fun d σ => l_law_1 (σ.set 8 (.val d))) (rngD 0 2) (Lw ns a b span slow fast wait f t dd p c m s h bg (.val (.int kk)) s8 s9 s10 s11 s12 s13) = pure (.nx (Lw ns a b span slow fast wait f t dd p c m s h bg (.val (.int kk)) s8' s9' s10' s11' s12' s13')) := by
  obtain ⟨σ', e, s8', s9', s10', s11', s12', s13', rfl⟩ := for_inv (b := fun d σ => l_law_1 (σ.set 8 (.val d))) (ds := rngD 0 2) (σ := Lw ns a b span slow fast wait f t dd p c m s h bg (.val (.int kk)) s8 s9 s10 s11 s12 s13)
    (fun _ σ => ∃ s8' s9' s10' s11' s12' s13', σ = Lw ns a b span slow fast wait f t dd p c m s h bg (.val (.int kk)) s8' s9' s10' s11' s12' s13') ⟨s8, s9, s10, s11, s12, s13, rfl⟩ (fun i d σ hd ⟨s8', s9', s10', s11', s12', s13', es⟩ => by
      obtain ⟨hi, rfl⟩ := rngD_get hd
      subst es
      obtain ⟨j, hj⟩ : ∃ j : Bool, (0 : Int) + (i : Nat) = wI j := by
        match i, hi with
        | 0, _ => exact ⟨false, rfl⟩
        | 1, _ => exact ⟨true, rfl⟩
      rw [hj]
      obtain ⟨u9, u10, u11, u12, u13, e⟩ := look_eq ns a b span slow fast wait f t dd p c m s h bg s9' s11' s12' s13' j s10' hx
      exact ⟨_, .inl e, _, _, _, _, _, _, rfl⟩)
  exact ⟨s8', s9', s10', s11', s12', s13', e⟩
end
include ha hb
theorem turns {ns : List Int} {i : Nat} (hi : 3 + i < ns.length) (hn : ns.length ≤ 63) (span slow fast wait f : Int) (t : Option Int) (dd : Bool → Option Dd) (p : Bool → Option (Option Dd)) (c : Bool → Bool) (m : Bool → Int) (s : Bool → Option (Int × Option Int × Int)) (h : Bool → Option (Int × Int)) (bg : Bool → Int) (s8 s9 s10 s11 s12 s13 : Slot) (iv : Ivr f t p s dd) (h1 : 1 ≤ span) :
    ∃ f' t' p' c' m' s' h' b' dd' s8' s9' s10' s11' s12' s13', l_law_2 (Lw ns a b span slow fast wait f t dd p c m s h bg (.val (.int (3 + (i : Nat)))) s8 s9 s10 s11 s12 s13) = pure (.nx (Lw ns a b span slow fast wait f' t' dd' p' c' m' s' h' b' (.val (.int (3 + (i : Nat)))) s8' s9' s10' s11' s12' s13')) ∧ Ivr f' t' p' s' dd' := by
  have hx := at_ints_lt (ns := ns) (i := 3 + (i : Nat)) (by omega) (by omega)
  generalize ns.getD (3 + (i : Int)).toNat 0 = num at hx
  obtain ⟨f', t', p', c', m', s', h', b', dd', e, iv'⟩ := event_eq ha hb span wait f num (3 + (i : Nat)) t dd p c m s h bg iv h1 (by omega) (by omega)
  obtain ⟨s8', s9', s10', s11', s12', s13', e2⟩ := looks ns a b span slow fast wait f' t' dd' p' c' m' s' h' b' s9 s11 s12 s13 s8 s10 hx
  refine ⟨f', t', p', c', m', s', h', b', dd', s8', s9', s10', s11', s12', s13', ?_, iv'⟩
  simp only [Lw] at e2 ⊢
  simp [l_law_2, hx, e, e2]
end
theorem rI {n i : Nat} (hi : i < (min 63 (n : Int) - 3).toNat) : 3 + i < n := by omega
theorem rZ {n i : Nat} (hi : i < (min 63 (n : Int) - 3).toNat) (z : n ≤ 3) : False := by omega
theorem rM (n : Nat) : -4611686018427387904 ≤ min 63 (n : Int) ∧ min 63 (n : Int) < 4611686018427387904 := by omega
theorem mN (z : Int) : (if z < 63 then z else 63) = min 63 z := by split <;> omega
theorem law_eq (ns : List Int) (hn : ns.length ≤ 63) : m_law [.lst (ns.map D.int)] = pure (.v (.bl true)) := by
  have q0 : m_law_cell_at [.lst (ns.map D.int), .int 0] = _ := cell_at ns 0
  have q1 : m_law_cell_at [.lst (ns.map D.int), .int 1] = _ := cell_at ns 1
  have q2 : m_law_cell_at [.lst (ns.map D.int), .int 2] = _ := cell_at ns 2
  generalize ns.getD 0 0 = x0 at q0
  generalize ns.getD 1 0 = x1 at q1
  generalize ns.getD 2 0 = x2 at q2
  obtain ⟨span, es, hs1, hs2⟩ := span_eq x0
  obtain ⟨a, b, ha, hb, en⟩ := names_eq x2
  obtain ⟨f, m, est⟩ := start_eq x2
  have c9 : CDivB x1 9 := divB (by decide) (by decide)
  have m1 := mod_lt (a := x1) (b := 9) (by decide)
  have m2 := mod_lt (a := x1 / 9) (b := 100000000000000000000) (by decide)
  generalize hsl : 1 + x1 % 9 = slow
  generalize hfa : slow + x1 / 9 % 100000000000000000000 = fast
  have i0 := init_eq (a : Int) (span := span) (slow := slow) (fast := fast) (by omega) (by omega) (by omega) (by omega) hs1 hs2
  have i1 := init_eq (b : Int) (span := span) (slow := slow) (fast := fast) (by omega) (by omega) (by omega) (by omega) hs1 hs2
  generalize waitF span slow fast = wait at i0 i1
  have loop : ∃ f' t' p' c' m' s' h' b' dd' s7 s8 s9 s10 s11 s12 s13, fLoop (fun d σ => l_law_2 (σ.set 7 (.val d))) (rngD 3 (min 63 (ns.length : Int) - 3).toNat) (Lw ns a b span slow fast wait f none (fun _ => none) (fun _ => none) (fun _ => false) m (fun _ => none) (fun _ => none) (fun _ => 0) .emp .emp .emp .emp .emp .emp .emp) =
      pure (.nx (Lw ns a b span slow fast wait f' t' dd' p' c' m' s' h' b' s7 s8 s9 s10 s11 s12 s13)) ∧ (ns.length ≤ 3 → h' false = none) := by
    obtain ⟨σ', e, f', t', p', c', m', s', h', b', dd', s7, s8, s9, s10, s11, s12, s13, rfl, _, hz⟩ := for_inv (b := fun d σ => l_law_2 (σ.set 7 (.val d))) (ds := rngD 3 (min 63 (ns.length : Int) - 3).toNat) (σ := Lw ns a b span slow fast wait f none (fun _ => none) (fun _ => none) (fun _ => false) m (fun _ => none) (fun _ => none) (fun _ => 0) .emp .emp .emp .emp .emp .emp .emp)
      (fun _ σ => ∃ f' t' p' c' m' s' h' b' dd' s7 s8 s9 s10 s11 s12 s13, σ = Lw ns a b span slow fast wait f' t' dd' p' c' m' s' h' b' s7 s8 s9 s10 s11 s12 s13 ∧ Ivr f' t' p' s' dd' ∧ (ns.length ≤ 3 → h' false = none)) ⟨_, _, _, _, _, _, _, _, _, _, _, _, _, _, _, _, rfl, ivr0 f, fun _ => rfl⟩ (fun i d σ hd hI => by
        obtain ⟨f', t', p', c', m', s', h', b', dd', s7, s8, s9, s10, s11, s12, s13, es, iv, hz⟩ := hI
        obtain ⟨hi, rfl⟩ := rngD_get hd
        subst es
        obtain ⟨f2, t2, p2, c2, m2, s2, h2, b2, dd2, u8, u9, u10, u11, u12, u13, e, iv2⟩ := turns ha hb (ns := ns) (i := i) (rI hi) hn span slow fast wait f' t' dd' p' c' m' s' h' b' s8 s9 s10 s11 s12 s13 iv hs1
        exact ⟨_, .inl e, f2, t2, p2, c2, m2, s2, h2, b2, dd2, _, u8, u9, u10, u11, u12, u13, rfl, iv2, fun z => (rZ hi z).elim⟩)
    exact ⟨f', t', p', c', m', s', h', b', dd', s7, s8, s9, s10, s11, s12, s13, e, hz⟩
  obtain ⟨f', t', p', c', m', s', h', b', dd', s7, s8, s9, s10, s11, s12, s13, e, hz⟩ := loop
  have r1 := rM ns.length
  have mn := mN
  have e1 := holds_eq (meB a b false) span wait (b' false) (dd' false) (s' false) (h' false)
  simp only [ten, me0, me1, sD0, hD0, oD0] at i0 i1 e1
  simp only [Lw, tens, ten, sta, two, lsD, me0, me1, sD0, hD0, oD0] at e est
  have pre : ∀ r, b_law_6 [.vw (ns.map D.int), .val (.int span), .val (.int slow), .val (.int fast), .val (.lst [.int a, .int b]), .tr .own (tens (meB a b) span wait (fun _ => none) (fun _ => 0) (fun _ => none) (fun _ => none)), .tr .own (sta f none (fun _ => none) (fun _ => false) m (fun _ => none) (fun _ => none) (fun _ => 0)), .emp, .emp, .emp, .emp, .emp, .emp, .emp] = pure (.rt (.v r)) → m_law [.lst (ns.map D.int)] = pure (.v r) := fun r hr => by
    simp only [Lw, tens, ten, sta, two, lsD, me0, me1, sD0, hD0, oD0] at hr
    simp [m_law, b_law, b_law_1, b_law_2, b_law_3, b_law_4, b_law_5, q0, q1, q2, es, en, est, c9, hsl, hfa, i0, i1, a20, a21, hr]
  refine pre _ ?_
  simp only [tens, ten, sta, two, lsD, me0, me1, sD0, hD0, oD0]
  by_cases h3 : (3 : Int) < (ns.length : Int)
  · simp [b_law_6, b_law_7, mn, r1, e, e1, h3]
  · have hz' := hz (by omega)
    simp only [hz', hD0] at e1 e
    simp [b_law_6, b_law_7, mn, r1, e, e1, h3]
theorem law_true (ns : List Int) (hn : ns.length ≤ 63) : ∃ S', (m_law [.lst (ns.map D.int)]).run [] = .ok (.v (.bl true)) S' := ⟨[], by rw [law_eq ns hn]; rfl⟩
end K64

open PySem PySem.W PyProof.Rows
set_option maxRecDepth 100000 in
set_option maxHeartbeats 0 in
theorem PySem.Challenge.cw_oneslate_k64_a_tenant_believes_holds : PySem.Challenge.rw_oneslate_k64_a_tenant_believes.Holds := by
  w_on; o_law; k_head; (case hw => w_witness2)
  k_fill
  letI : L2.TabP := ⟨fun _ => False, fun _ => ""⟩
  refine L3.walk (l := PySem.Challenge.rw_oneslate_k64_a_tenant_believes) (k := 5) rfl rfl ⟨rfl, by decide, by decide⟩ (fun _ h => h) (fun w h Y => PySem.W.kIn_of Y) ?F
  case F =>
    intro w mg fa h KX G hmg
    have c_Tenant : L3.ClsT (L2.KOf KX) mg "Tenant" K64.ns_Tenant := by
      dsimp only [L2.KOf]
      refine' L3.clsT_mk KX G ?a ?pg ?hd ?po ?sa ?mk ?kc ?na
      (case a => k_is); (case pg => k_is); (case hd => k_is); (case po => k_is); (case sa => k_is); (case mk => k_is); (case kc => k_is)
      case na =>
        simp only [List.forall_mem_cons]
        refine ⟨by k_is, by k_is, by k_is, by k_is, by k_is, by k_is, by k_is, fun _ h => nomatch h⟩
    have d_wait_for : L2.Df (L2.KOf KX) mg "wait_for" K64.s_wait_for ["span", "slow", "fast"] := by
      dsimp only [L2.KOf]
      refine' L3.df_mk KX G ?a ?l ?c ?k (fun _ _ _ _ _ _ => L3.us3 fun _ _ _ => rfl)
      (case a => k_is); (case l => k_is); (case c => k_is); (case k => k_is)
    have d_lease_of : L2.Df (L2.KOf KX) mg "lease_of" K64.s_lease_of ["slate"] := by
      dsimp only [L2.KOf]
      refine' L3.df_mk KX G ?a ?l ?c ?k (fun _ _ _ _ _ _ => L3.us1 fun _ => rfl)
      (case a => k_is); (case l => k_is); (case c => k_is); (case k => k_is)
    have d_Tenant___init__ : L3.DfM (L2.KOf KX) mg "Tenant" "__init__" "Tenant.__init__" K64.s_Tenant___init__ ["self", "me", "span", "slow", "fast"] := by
      dsimp only [L2.KOf] at c_Tenant ⊢
      refine' L3.dfm_mk KX G c_Tenant ?a ?f ?i ?l ?c ?k (fun _ _ _ _ _ _ => L3.us5 fun _ _ _ _ _ => rfl)
      (case a => k_is); (case f => k_is); (case i => k_is); (case l => k_is); (case c => k_is); (case k => k_is)
    have d_Tenant_began : L3.DfM (L2.KOf KX) mg "Tenant" "began" "Tenant.began" K64.s_Tenant_began ["self", "deed", "time"] := by
      dsimp only [L2.KOf] at c_Tenant ⊢
      refine' L3.dfm_mk KX G c_Tenant ?a ?f ?i ?l ?c ?k (fun _ _ _ _ _ _ => L3.us3 fun _ _ _ => rfl)
      (case a => k_is); (case f => k_is); (case i => k_is); (case l => k_is); (case c => k_is); (case k => k_is)
    have d_Tenant_ended : L3.DfM (L2.KOf KX) mg "Tenant" "ended" "Tenant.ended" K64.s_Tenant_ended ["self", "outcome", "time"] := by
      dsimp only [L2.KOf] at c_Tenant ⊢
      refine' L3.dfm_mk KX G c_Tenant ?a ?f ?i ?l ?c ?k (fun _ _ _ _ _ _ => L3.us3 fun _ _ _ => rfl)
      (case a => k_is); (case f => k_is); (case i => k_is); (case l => k_is); (case c => k_is); (case k => k_is)
    have d_Tenant_wish : L3.DfM (L2.KOf KX) mg "Tenant" "wish" "Tenant.wish" K64.s_Tenant_wish ["self", "time"] := by
      dsimp only [L2.KOf] at c_Tenant ⊢
      refine' L3.dfm_mk KX G c_Tenant ?a ?f ?i ?l ?c ?k (fun _ _ _ _ _ _ => L3.us2 fun _ _ => rfl)
      (case a => k_is); (case f => k_is); (case i => k_is); (case l => k_is); (case c => k_is); (case k => k_is)
    have d_Tenant_believes : L3.DfM (L2.KOf KX) mg "Tenant" "believes" "Tenant.believes" K64.s_Tenant_believes ["self", "time"] := by
      dsimp only [L2.KOf] at c_Tenant ⊢
      refine' L3.dfm_mk KX G c_Tenant ?a ?f ?i ?l ?c ?k (fun _ _ _ _ _ _ => L3.us2 fun _ _ => rfl)
      (case a => k_is); (case f => k_is); (case i => k_is); (case l => k_is); (case c => k_is); (case k => k_is)
    have d_Tenant_seen : L3.DfM (L2.KOf KX) mg "Tenant" "seen" "Tenant.seen" K64.s_Tenant_seen ["self"] := by
      dsimp only [L2.KOf] at c_Tenant ⊢
      refine' L3.dfm_mk KX G c_Tenant ?a ?f ?i ?l ?c ?k (fun _ _ _ _ _ _ => L3.us1 fun _ => rfl)
      (case a => k_is); (case f => k_is); (case i => k_is); (case l => k_is); (case c => k_is); (case k => k_is)
    have d_Tenant_holds : L3.DfM (L2.KOf KX) mg "Tenant" "holds" "Tenant.holds" K64.s_Tenant_holds ["self"] := by
      dsimp only [L2.KOf] at c_Tenant ⊢
      refine' L3.dfm_mk KX G c_Tenant ?a ?f ?i ?l ?c ?k (fun _ _ _ _ _ _ => L3.us1 fun _ => rfl)
      (case a => k_is); (case f => k_is); (case i => k_is); (case l => k_is); (case c => k_is); (case k => k_is)
    have d_Tenant_begun_word : L3.DfM (L2.KOf KX) mg "Tenant" "begun_word" "Tenant.begun_word" K64.s_Tenant_begun_word ["self"] := by
      dsimp only [L2.KOf] at c_Tenant ⊢
      refine' L3.dfm_mk KX G c_Tenant ?a ?f ?i ?l ?c ?k (fun _ _ _ _ _ _ => L3.us1 fun _ => rfl)
      (case a => k_is); (case f => k_is); (case i => k_is); (case l => k_is); (case c => k_is); (case k => k_is)
    have d_Tenant_hear_answer : L3.DfM (L2.KOf KX) mg "Tenant" "hear_answer" "Tenant.hear_answer" K64.s_Tenant_hear_answer ["self", "answer", "time"] := by
      dsimp only [L2.KOf] at c_Tenant ⊢
      refine' L3.dfm_mk KX G c_Tenant ?a ?f ?i ?l ?c ?k (fun _ _ _ _ _ _ => L3.us3 fun _ _ _ => rfl)
      (case a => k_is); (case f => k_is); (case i => k_is); (case l => k_is); (case c => k_is); (case k => k_is)
    have d_Tenant_see : L3.DfM (L2.KOf KX) mg "Tenant" "see" "Tenant.see" K64.s_Tenant_see ["self", "lease", "time"] := by
      dsimp only [L2.KOf] at c_Tenant ⊢
      refine' L3.dfm_mk KX G c_Tenant ?a ?f ?i ?l ?c ?k (fun _ _ _ _ _ _ => L3.us3 fun _ _ _ => rfl)
      (case a => k_is); (case f => k_is); (case i => k_is); (case l => k_is); (case c => k_is); (case k => k_is)
    have d_law_cell_at : L2.Df (L2.KOf KX) mg "_law_cell_at" K64.s_law_cell_at ["script", "k"] := by
      dsimp only [L2.KOf]
      refine' L3.df_mk KX G ?a ?l ?c ?k (fun _ _ _ _ _ _ => L3.us2 fun _ _ => rfl)
      (case a => k_is); (case l => k_is); (case c => k_is); (case k => k_is)
    have d_law_whole : L2.Df (L2.KOf KX) mg "_law_whole" K64.s_law_whole ["found"] := by
      dsimp only [L2.KOf]
      refine' L3.df_mk KX G ?a ?l ?c ?k (fun _ _ _ _ _ _ => L3.us1 fun _ => rfl)
      (case a => k_is); (case l => k_is); (case c => k_is); (case k => k_is)
    have d_law_triple : L2.Df (L2.KOf KX) mg "_law_triple" K64.s_law_triple ["found", "due"] := by
      dsimp only [L2.KOf]
      refine' L3.df_mk KX G ?a ?l ?c ?k (fun _ _ _ _ _ _ => L3.us2 fun _ _ => rfl)
      (case a => k_is); (case l => k_is); (case c => k_is); (case k => k_is)
    have d_law_span : L2.Df (L2.KOf KX) mg "_law_span" K64.s_law_span ["number"] := by
      dsimp only [L2.KOf]
      refine' L3.df_mk KX G ?a ?l ?c ?k (fun _ _ _ _ _ _ => L3.us1 fun _ => rfl)
      (case a => k_is); (case l => k_is); (case c => k_is); (case k => k_is)
    have d_law_deed : L2.Df (L2.KOf KX) mg "_law_deed" K64.s_law_deed ["number", "me", "lease"] := by
      dsimp only [L2.KOf]
      refine' L3.df_mk KX G ?a ?l ?c ?k (fun _ _ _ _ _ _ => L3.us3 fun _ _ _ => rfl)
      (case a => k_is); (case l => k_is); (case c => k_is); (case k => k_is)
    have d_law_outcome : L2.Df (L2.KOf KX) mg "_law_outcome" K64.s_law_outcome ["deed", "lease", "me", "number"] := by
      dsimp only [L2.KOf]
      refine' L3.df_mk KX G ?a ?l ?c ?k (fun _ _ _ _ _ _ => L3.us4 fun _ _ _ _ => rfl)
      (case a => k_is); (case l => k_is); (case c => k_is); (case k => k_is)
    have d_law_lent_on : L2.Df (L2.KOf KX) mg "_law_lent_on" K64.s_law_lent_on ["lease", "number", "names"] := by
      dsimp only [L2.KOf]
      refine' L3.df_mk KX G ?a ?l ?c ?k (fun _ _ _ _ _ _ => L3.us3 fun _ _ _ => rfl)
      (case a => k_is); (case l => k_is); (case c => k_is); (case k => k_is)
    have d_law_ended : L2.Df (L2.KOf KX) mg "_law_ended" K64.s_law_ended ["state", "who", "me", "deed", "outcome"] := by
      dsimp only [L2.KOf]
      refine' L3.df_mk KX G ?a ?l ?c ?k (fun _ _ _ _ _ _ => L3.us5 fun _ _ _ _ _ => rfl)
      (case a => k_is); (case l => k_is); (case c => k_is); (case k => k_is)
    have d_law_event : L2.Df (L2.KOf KX) mg "_law_event" K64.s_law_event ["state", "tenants", "names", "number", "k", "span"] := by
      dsimp only [L2.KOf]
      refine' L3.df_mk KX G ?a ?l ?c ?k (fun _ _ _ _ _ _ => L3.us6 fun _ _ _ _ _ _ => rfl)
      (case a => k_is); (case l => k_is); (case c => k_is); (case k => k_is)
    have d_law_names : L2.Df (L2.KOf KX) mg "_law_names" K64.s_law_names ["number"] := by
      dsimp only [L2.KOf]
      refine' L3.df_mk KX G ?a ?l ?c ?k (fun _ _ _ _ _ _ => L3.us1 fun _ => rfl)
      (case a => k_is); (case l => k_is); (case c => k_is); (case k => k_is)
    have d_law_start : L2.Df (L2.KOf KX) mg "_law_start" K64.s_law_start ["number"] := by
      dsimp only [L2.KOf]
      refine' L3.df_mk KX G ?a ?l ?c ?k (fun _ _ _ _ _ _ => L3.us1 fun _ => rfl)
      (case a => k_is); (case l => k_is); (case c => k_is); (case k => k_is)
    have d_law : L2.Df (L2.KOf KX) mg "law" K64.s_law ["script"] := by
      dsimp only [L2.KOf]
      refine' L3.df_mk KX G ?a ?l ?c ?k (fun _ _ _ _ _ _ => L3.us1 fun _ => rfl)
      (case a => k_is); (case l => k_is); (case c => k_is); (case k => k_is)
    have kt : L2.Kit (L2.KOf KX) := L2.kit_all _
    have Bx : L3.Bl3 mg := by
      refine' ⟨PySem.W.mg_none_of KX G ?z0, PySem.W.mg_none_of KX G ?z1, PySem.W.mg_none_of KX G ?z2, PySem.W.mg_none_of KX G ?z3, PySem.W.mg_none_of KX G ?z4, PySem.W.mg_none_of KX G ?z5, PySem.W.mg_none_of KX G ?z6, PySem.W.mg_none_of KX G ?z7, PySem.W.mg_none_of KX G ?z8, PySem.W.mg_none_of KX G ?z9, PySem.W.mg_none_of KX G ?z10, PySem.W.mg_none_of KX G ?z11, PySem.W.mg_none_of KX G ?z12, PySem.W.mg_none_of KX G ?z13, PySem.W.mg_none_of KX G ?z14, PySem.W.mg_none_of KX G ?z15, PySem.W.mg_none_of KX G ?z16, PySem.W.mg_none_of KX G ?z17, PySem.W.mg_none_of KX G ?z18⟩
      (case z0 => k_is); (case z1 => k_is); (case z2 => k_is); (case z3 => k_is); (case z4 => k_is); (case z5 => k_is); (case z6 => k_is); (case z7 => k_is); (case z8 => k_is); (case z9 => k_is); (case z10 => k_is); (case z11 => k_is); (case z12 => k_is); (case z13 => k_is); (case z14 => k_is); (case z15 => k_is); (case z16 => k_is); (case z17 => k_is); (case z18 => k_is)
    exact L3.all_mk hmg d_law (fun _ _ _ _ _ _ _ => rfl) K64.law_true (fun base f fd F => K64.ok_law ⟨d_wait_for, d_lease_of, d_Tenant___init__, d_Tenant_began, d_Tenant_ended, d_Tenant_wish, d_Tenant_believes, d_Tenant_seen, d_Tenant_holds, d_Tenant_begun_word, d_Tenant_hear_answer, d_Tenant_see, d_law_cell_at, d_law_whole, d_law_triple, d_law_span, d_law_deed, d_law_outcome, d_law_lent_on, d_law_ended, d_law_event, d_law_names, d_law_start, d_law, c_Tenant, Bx, kt⟩ F)


