import PyProof.Rows.All
import Wide.All
import OpenK.AllK
import Wide.FinOn
import Lean
import PyProof.EqAt
import PyProof.EqKinds
import PyProof.TupleCall
import KE.KSortTup
import PyProof.ZipIter
import KE.KMinKey
import KE.KRevSl
import KE.KSortedM
import PyProof.Rows.EnumRows
import PyProof.EnumStmt
import PyProof.StationsW
import PyProof.ExcClass3
import PyProof.RulesTry
import OpenK.KOwn
import KE.KIntText
import PySem.Challenge.RW_oneslate_k82_numbers_read
set_option Elab.async false
set_option linter.all false
set_option maxRecDepth 100000
/-! THE HAND LAYER, for ints, bools, texts, own classes, LISTS and tuples (index, slices, in, append, pop ..), calls, loops. Paste it whole ahead of your own text; what your proof does not reach may be deleted. -/
namespace L2
open PySem PySem.Spec PyProof.Rows

/-- a key: an int or a str -/
abbrev Key := Sum Int Str
def keyIs : Key → Value → Bool
  | .inl k, v => Value.isInt k v
  | .inr x, v => Value.isStrOf x v
def keyH (w : World) : Key → Int
  | .inl k => hashInt k
  | .inr x => hashStr w x
theorem keyIs_shape : ∀ {k : Key} {v : Value}, keyIs k v = true → (∃ i t, k = Sum.inl i ∧ v = Value.int i t) ∨ (∃ x t, k = Sum.inr x ∧ v = Value.str x t)
  | .inl i, v, h => by
    obtain ⟨t, e⟩ := Value.isInt_shape (k := i) (v := v) h
    exact .inl ⟨i, t, rfl, e⟩
  | .inr x, v, h => by
    obtain ⟨t, e⟩ := Value.isStrOf_shape (x := x) (v := v) h
    exact .inr ⟨x, t, rfl, e⟩
theorem key_ll (a b : Int) : decide ((Sum.inl a : Key) = Sum.inl b) = (a == b) := by
  by_cases e : a = b
  · subst e; simp
  · have h : ¬ (Sum.inl a : Key) = Sum.inl b := fun q => e (Sum.inl.inj q)
    rw [decide_eq_false h]
    exact (beq_eq_false_iff_ne.mpr e).symm
theorem key_rr (a b : Str) : decide ((Sum.inr a : Key) = Sum.inr b) = decide (a = b) := by
  by_cases e : a = b
  · subst e; simp
  · have h : ¬ (Sum.inr a : Key) = Sum.inr b := fun q => e (Sum.inr.inj q)
    rw [decide_eq_false h, decide_eq_false e]
theorem key_lr (a : Int) (b : Str) : decide ((Sum.inl a : Key) = Sum.inr b) = false := decide_eq_false (fun q => nomatch q)
theorem key_rl (a : Str) (b : Int) : decide ((Sum.inr a : Key) = Sum.inl b) = false := decide_eq_false (fun q => nomatch q)

def mixKind (prog : Program) (w : World) : PySem.KeyKind prog w Key where
  is := keyIs
  hash := keyH w
  inj := fun v a b ha hb => by
    rcases keyIs_shape ha with ⟨i, t, rfl, rfl⟩ | ⟨x, t, rfl, rfl⟩
    · rcases keyIs_shape hb with ⟨j, u, rfl, e⟩ | ⟨y, u, rfl, e⟩
      · injection e with e1 _; rw [e1]
      · exact nomatch e
    · rcases keyIs_shape hb with ⟨j, u, rfl, e⟩ | ⟨y, u, rfl, e⟩
      · exact nomatch e
      · injection e with e1 _; rw [e1]
  byValue := fun k v h => by
    rcases keyIs_shape h with ⟨i, t, rfl, rfl⟩ | ⟨x, t, rfl, rfl⟩ <;> rfl
  pyHash := fun hv h => by
    rcases keyIs_shape hv with ⟨i, t, rfl, rfl⟩ | ⟨x, t, rfl, rfl⟩
    · exact wpAny_pyHash_int h
    · exact wpAny_pyHash_str h
  eqBool := fun hu hv h => by
    rcases keyIs_shape hu with ⟨i, t, rfl, rfl⟩ | ⟨x, t, rfl, rfl⟩
    · rcases keyIs_shape hv with ⟨j, u, rfl, rfl⟩ | ⟨y, u, rfl, rfl⟩
      · rw [key_ll] at h; exact wpAny_eqBool_int h
      · rw [key_lr] at h; exact SeqAt.EqAt.int_str i t y u _ _ _ _ h
    · rcases keyIs_shape hv with ⟨j, u, rfl, rfl⟩ | ⟨y, u, rfl, rfl⟩
      · rw [key_rl] at h; exact SeqAt.EqAt.str_int x t j u _ _ _ _ h
      · rw [key_rr] at h; exact wpAny_eqBool_str h
  «strs» := fun k x t v h => by
    rcases keyIs_shape h with ⟨i, u, rfl, e⟩ | ⟨y, u, rfl, e⟩
    · exact nomatch e
    · injection e with e1 _
      subst e1
      cases v <;> rfl

end L2

namespace L2
open PySem PySem.Spec PyProof.Rows

/-- a value, without the heap -/
inductive V where
  | non | bl (b : Bool) | int (i : Int) | str (x : Str) | byt (b : Array UInt8) | flt (b : UInt64) | ref (a : Addr) | ty (n : String)
  deriving DecidableEq

def RelV : V → Value → Prop
  | .non, u => u = Value.none
  | .bl b, u => u = Value.bool b
  | .int i, u => ∃ t, u = Value.int i t
  | .str x, u => ∃ t, u = Value.str x t
  | .byt b, u => ∃ t, u = Value.bytes b t
  | .flt b, u => ∃ t, u = Value.float b t
  | .ref a, u => u = Value.ref a
  | .ty n, u => u = Value.type n

abbrev Vals : List V → List Value → Prop := Paired RelV
theorem Vals.length {xs : List V} {us : List Value} (r : Vals xs us) : xs.length = us.length := Paired.length r
theorem Vals.get : ∀ {xs : List V} {us : List Value} {i : Nat} {x : V}, Vals xs us → xs[i]? = some x → ∃ u, us[i]? = some u ∧ RelV x u
  | _, _, _, _, .nil, e => by simp at e
  | _, _, 0, _, .cons r _, e => by simp at e; subst e; exact ⟨_, rfl, r⟩
  | _, _, i + 1, x, .cons _ t, e => by
    obtain ⟨u, h1, h2⟩ := Vals.get (i := i) (x := x) t (by simpa using e)
    exact ⟨u, by simpa using h1, h2⟩
theorem Vals.append : ∀ {xs ys : List V} {us ws : List Value}, Vals xs us → Vals ys ws → Vals (xs ++ ys) (us ++ ws)
  | _, _, _, _, .nil, s => s
  | _, _, _, _, .cons r t, s => .cons r (Vals.append t s)
theorem Vals.take : ∀ {xs : List V} {us : List Value} (n : Nat), Vals xs us → Vals (xs.take n) (us.take n)
  | _, _, 0, _ => .nil
  | _, _, _ + 1, .nil => .nil
  | _, _, n + 1, .cons r t => .cons r (Vals.take n t)
theorem Vals.drop : ∀ {xs : List V} {us : List Value} (n : Nat), Vals xs us → Vals (xs.drop n) (us.drop n)
  | _, _, 0, r => r
  | _, _, _ + 1, .nil => .nil
  | _, _, n + 1, .cons _ t => Vals.drop n t

def RelO : Option V → Option Value → Prop
  | some v, some u => RelV v u
  | none, none => True
  | _, _ => False
def KV {κ : Type} : List (κ × V) → List (κ × Value) → Prop := Paired fun (p : κ × V) (q : κ × Value) => p.1 = q.1 ∧ RelV p.2 q.2

/-- a key of a dict (00_mix): an int or a text -/
def kV : Key → V
  | .inl i => .int i
  | .inr x => .str x

/-- what stands at a tracked address -/
inductive HO where
  /-- a list -/
  | lst (xs : List V)
  /-- a tuple (never changes) -/
  | tup (xs : List V)
  /-- a dict whose keys are ints and texts; one whose keys are tuples of ints and texts (the empty one is both) -/
  | dK (kvs : List (Key × V)) | dT (kvs : List (List Key × V))
  /-- a set of ints: its members, its size -/
  | set (S : Int → Bool) (n : Nat)
  /-- an instance of the class at C, its dict at dx, its attributes -/
  | ins (C dx : Addr) (fs : List (Str × V))
  /-- the dict of the instance at x -/
  | own (x : Addr)
  /-- the dict of an exception -/
  | xd (fs : List (Str × V))
  /-- a bound method, f of x -/
  | met (f x : Addr)
  /-- a range object lo, lo + 1, .. below hi -/
  | rng (lo hi : Int)
  /-- a thing that is known to the object (the script; a dict while a loop walks it): read, never written while it is so -/
  | frz (o : Obj) (u : HO)
  /-- a code object's table -/
  | tbl (ps : Array Value)
  /-- any other thing, by what is true of its one object (a def of one's own: SetO a S n := HO.ext fun h => ..) -/
  | ext (φ : Heap → Prop)

abbrev Hp := Addr → Option HO
def upd (H : Hp) (a : Addr) (o : HO) : Hp := fun b => if b = a then some o else H b
theorem upd_same {H : Hp} {a : Addr} {o : HO} : upd H a o a = some o := by unfold upd; rw [if_pos rfl]
theorem upd_ne {H : Hp} {a b : Addr} {o : HO} (h : b ≠ a) : upd H a o b = H b := by unfold upd; rw [if_neg h]
/-- two objects of different content stand apart -/
theorem ne_of {H : Hp} {a b : Addr} {o u : HO} (h : H a = some o) (h' : H b = some u) (d : o ≠ u) : a ≠ b := by
  intro e; subst e; rw [h] at h'; exact d (Option.some.inj h')
theorem ne_of_none {H : Hp} {a b : Addr} {o : HO} (h : H a = some o) (h' : H b = none) : a ≠ b := by
  intro e; subst e; rw [h] at h'; cases h'

section
variable (P : Program) (w : World)
def ObjOk (H : Hp) (h : Heap) (a : Addr) : HO → Prop
  | .lst xs => xs.length ≤ sizeLine ∧ ∃ (its : List Value) (n : Nat), Vals xs its ∧ h.get? a = some { cls := .type "list", data := .seq its.toArray n }
  | .tup xs => xs.length ≤ sizeLine ∧ ∃ its : List Value, Vals xs its ∧ IsTup h a its.toArray
  | .dK kvs => kvs.length ≤ sizeLine ∧ (a == sysModules) = false ∧ ∃ vs, KV kvs vs ∧ h.DictOf (mixKind P w) a vs
  | .dT kvs => kvs.length ≤ sizeLine ∧ (a == sysModules) = false ∧ ∃ xs : List (List Key × Addr × Value),
      Paired (fun (p : List Key × V) (q : List Key × Addr × Value) => p.1 = q.1 ∧ H q.2.1 = some (.tup (p.1.map kV)) ∧ RelV p.2 q.2.2) kvs xs ∧
      ∃ o es ep, h.get? a = some o ∧ o.ExactDict ∧ o.data = .dict es ep ∧ es.toList = xs.map (entryOfKey (tupleKind (mixKind P w))) ∧ (xs.map (·.1)).Nodup
  | .set S n => h.SetOf (intKind P w) a S n
  | .ins C dx fs => H dx = some (.own a) ∧ fs.length ≤ 1000 ∧ dx ≠ a ∧ h.get? a = some (PySem.W.instObj C dx) ∧
      ∃ mA, h.Ns1 dx mA ∧ (∀ f, RelO (fs.lookup f) (mA f)) ∧ PySem.Within mA (fs.map (·.1))
  | .own _ => ∃ o, h.get? a = some o
  | .xd fs => ∃ mA, h.Ns1 a mA ∧ ∀ f, RelO (fs.lookup f) (mA f)
  | .rng lo hi => ∃ t u v, h.get? a = some { cls := .type "range", data := .fields #[.int lo t, .int hi u, .int 1 v] }
  | .frz o u => h.get? a = some o ∧ ObjOk H h a u
  | .tbl ps => h.get? a = some { cls := .none, data := .fields ps }
  | .met f x => h.get? a = some (PySem.W.methodObj (.ref f) (.ref x))
  | .ext φ => φ h ∧ (∃ o, h.get? a = some o) ∧ ∀ h1 h2 : Heap, φ h1 → (∀ o, h1.get? a = some o → h2.get? a = some o) → φ h2
/-- the abstract heap is held -/
def HOk (H : Hp) (h : Heap) : Prop := ∀ a o, H a = some o → ObjOk P w H h a o
end

section
variable {P : Program} {w : World} {H H' : Hp} {h h' : Heap} {a : Addr} {o : HO}
theorem ObjOk.lt (x : ObjOk P w H h a o) : a < h.objs.size := by
  cases o with
  | lst xs => obtain ⟨_, _, _, _, e⟩ := x; exact Heap.lt_size e
  | tup xs => obtain ⟨_, _, _, p⟩ := x; exact p.lt
  | dK kvs => obtain ⟨_, _, _, _, o, _, _, e, _⟩ := x; exact Heap.lt_size e
  | dT kvs => obtain ⟨_, _, _, _, o, _, _, e, _⟩ := x; exact Heap.lt_size e
  | set S n => obtain ⟨o, _, _, _, e, _⟩ := x; exact Heap.lt_size e
  | ins C dx fs => obtain ⟨_, _, _, e, _⟩ := x; exact Heap.lt_size e
  | own y => obtain ⟨_, e⟩ := x; exact Heap.lt_size e
  | xd fs => obtain ⟨_, ⟨_, _, _, e, _⟩, _⟩ := x; exact Heap.lt_size e
  | rng lo hi => obtain ⟨_, _, _, e⟩ := x; exact Heap.lt_size e
  | frz ob u => obtain ⟨e, _⟩ := x; exact Heap.lt_size e
  | tbl ps => exact Heap.lt_size (show h.get? a = some _ from x)
  | met f y => exact Heap.lt_size (show h.get? a = some _ from x)
  | ext φ => obtain ⟨_, ⟨_, e⟩, _⟩ := x; exact Heap.lt_size e
theorem Paired.mapP {α β : Type} {F G : α → β → Prop} : ∀ {l₁ : List α} {l₂ : List β}, Paired F l₁ l₂ → (∀ a b, F a b → G a b) → Paired G l₁ l₂
  | _, _, .nil, _ => .nil
  | _, _, .cons r t, f => .cons (f _ _ r) (Paired.mapP t f)
/-- what an object's description leans on: its own object, its own dict, the tuples -/
theorem ObjOk.stay (x : ObjOk P w H h a o) (k : ∀ b u, (b = a ∨ H b = some (.own a)) → h.get? b = some u → h'.get? b = some u)
    (ho : ∀ b, H b = some (.own a) → H' b = some (.own a)) (ht : ∀ b xs, H b = some (.tup xs) → H' b = some (.tup xs)) : ObjOk P w H' h' a o := by
  induction o with
  | lst xs => obtain ⟨z, its, n, r, e⟩ := x; exact ⟨z, its, n, r, k _ _ (.inl rfl) e⟩
  | tup xs => obtain ⟨z, its, r, ob, e, c⟩ := x; exact ⟨z, its, r, ob, k _ _ (.inl rfl) e, c⟩
  | dK kvs => obtain ⟨z, y, vs, r, ob, es, ep, e, c⟩ := x; exact ⟨z, y, vs, r, ob, es, ep, k _ _ (.inl rfl) e, c⟩
  | dT kvs =>
    obtain ⟨z, y, xs, r, ob, es, ep, e, c⟩ := x
    exact ⟨z, y, xs, Paired.mapP r fun p q z => ⟨z.1, ht _ _ z.2.1, z.2.2⟩, ob, es, ep, k _ _ (.inl rfl) e, c⟩
  | set S n => obtain ⟨ob, es, ep, t, e, c⟩ := x; exact ⟨ob, es, ep, t, k _ _ (.inl rfl) e, c⟩
  | ins C dx fs =>
    obtain ⟨d, z, ne, e, mA, ⟨od, es, ep, e2, c⟩, r⟩ := x
    exact ⟨ho _ d, z, ne, k _ _ (.inl rfl) e, mA, ⟨od, es, ep, k _ _ (.inr d) e2, c⟩, r⟩
  | own y => obtain ⟨ob, e⟩ := x; exact ⟨ob, k _ _ (.inl rfl) e⟩
  | xd fs => obtain ⟨mA, ⟨od, es, ep, e, c⟩, r⟩ := x; exact ⟨mA, ⟨od, es, ep, k _ _ (.inl rfl) e, c⟩, r⟩
  | rng lo hi => obtain ⟨t, u, v, e⟩ := x; exact ⟨t, u, v, k _ _ (.inl rfl) e⟩
  | frz ob u ih => obtain ⟨e, q⟩ := x; exact ⟨k _ _ (.inl rfl) e, ih q⟩
  | tbl ps =>
    have e : h.get? a = some { cls := .none, data := .fields ps } := x
    show h'.get? a = some { cls := .none, data := .fields ps }
    exact k a _ (.inl rfl) e
  | met f y =>
    have e : h.get? a = some (PySem.W.methodObj (.ref f) (.ref y)) := x
    show h'.get? a = some (PySem.W.methodObj (.ref f) (.ref y))
    exact k a _ (.inl rfl) e
  | ext φ => obtain ⟨p, ⟨o, e⟩, st⟩ := x; exact ⟨st _ _ p fun o q => k _ _ (.inl rfl) q, ⟨o, k _ _ (.inl rfl) e⟩, st⟩
theorem HOk.lt (x : HOk P w H h) (e : H a = some o) : a < h.objs.size := (x a o e).lt
theorem HOk.fresh (x : HOk P w H h) (e : h.objs.size ≤ a) : H a = none := by
  cases q : H a with
  | none => rfl
  | some u => exact absurd (Nat.lt_of_lt_of_le (x.lt q) e) (Nat.lt_irrefl _)
/-- every object of the heap is kept -/
theorem HOk.kept (x : HOk P w H h) (k : ∀ b u, h.get? b = some u → h'.get? b = some u) : HOk P w H h' := fun a o e =>
  (x a o e).stay (fun b u _ q => k b u q) (fun _ q => q) fun _ _ q => q
/-- a new object is laid and tracked -/
theorem HOk.laid (x : HOk P w H h) (k : ∀ b u, h.get? b = some u → h'.get? b = some u) (hp : h.objs.size ≤ a) (new : ObjOk P w (upd H a o) h' a o) : HOk P w (upd H a o) h' := fun b u e => by
  have hn := x.fresh hp
  by_cases hb : b = a
  · subst hb; rw [upd_same] at e; cases e; exact new
  · rw [upd_ne hb] at e
    exact (x b u e).stay (fun c v _ q => k c v q) (fun c q => by rw [upd_ne (ne_of_none q hn)]; exact q) fun c xs q => by rw [upd_ne (ne_of_none q hn)]; exact q
end

/-- what may be read as u: it is u, or a known u -/
def Rd (H : Hp) (a : Addr) (u : HO) : Prop := H a = some u ∨ ∃ o, H a = some (.frz o u)
theorem Rd.ok {P : Program} {w : World} {H : Hp} {h : Heap} {a : Addr} {u : HO} (r : Rd H a u) (x : HOk P w H h) : ObjOk P w H h a u := by
  rcases r with r | ⟨o, r⟩
  · exact x a u r
  · obtain ⟨_, q⟩ := x a _ r
    exact q
/-- what may be written -/
def Mut : Option HO → Prop
  | some (.lst _) => True
  | some (.dK _) => True
  | some (.dT _) => True
  | some (.set _ _) => True
  | some (.ins _ _ _) => True
  | some (.ext _) => True
  | _ => False
section
variable {P : Program} {w : World} {H : Hp} {h h' : Heap} {x e : Addr} {o' : HO}
/-- the object at e is changed: x itself, or the dict of the instance x -/
theorem HOk.write (ok : HOk P w H h) (mu : Mut (H x)) (he : e = x ∨ H e = some (.own x)) (k : ∀ b u, b ≠ e → h.get? b = some u → h'.get? b = some u) (heo : ∃ u, h'.get? e = some u)
    (new : ObjOk P w (upd H x o') h' x o') : HOk P w (upd H x o') h' := fun b u q => by
  have nown : ∀ c y, H c = some (.own y) → c ≠ x := fun c y r z => by subst z; rw [r] at mu; exact mu
  have ntup : ∀ c xs, H c = some (.tup xs) → c ≠ x := fun c xs r z => by subst z; rw [r] at mu; exact mu
  by_cases hb : b = x
  · subst hb; rw [upd_same] at q; cases q; exact new
  · rw [upd_ne hb] at q
    by_cases hbe : b = e
    · have q' : H b = some (.own x) := by
        rcases he with z | z
        · exact absurd (hbe.trans z) hb
        · rw [hbe]; exact z
      rw [q] at q'; cases q'
      obtain ⟨v, hv⟩ := heo
      exact ⟨v, by rw [hbe]; exact hv⟩
    · refine (ok b u q).stay (fun c v hc r => k c v ?_ r) (fun c r => by rw [upd_ne (nown c b r)]; exact r) fun c xs r => by rw [upd_ne (ntup c xs r)]; exact r
      rcases hc with rfl | hc
      · exact hbe
      · rintro rfl
        rcases he with z | z
        · exact nown c b hc z
        · rw [hc] at z; cases z; exact hb rfl
end

/-! ### kept unless tracked; of the frames at fs (the callers') the slots may change (an exception that passes writes there); of the records at ex (iterators) nothing is said -/
structure Un (fs ex : List Addr) (H H' : Hp) (h h' : Heap) : Prop where
  keep : ∀ b o, h.get? b = some o → H b = none → b ∉ fs → b ∉ ex → h'.get? b = some o
  slot : ∀ b o, h.get? b = some o → H b = none → b ∈ fs → b ∉ ex → ∃ sl, h'.get? b = some { o with slots := sl }
  free : ∀ b o, h.get? b = some o → H b = none → b ∉ ex → H' b = none
  there : ∀ b o, h.get? b = some o → b ∉ ex → ∃ o', h'.get? b = some o'
  tups : ∀ b xs, H b = some (.tup xs) → H' b = some (.tup xs)
  frzs : ∀ b o u, H b = some (.frz o u) → H' b = some (.frz o u)
  tbls : ∀ b ps, H b = some (.tbl ps) → ∃ more, H' b = some (.tbl (ps ++ more))
section
variable {fs fs' ex ex' : List Addr} {H H1 H2 : Hp} {h h1 h2 h' : Heap} {a x e : Addr} {o : HO}
theorem Un.any (u : Un fs ex H H1 h h1) {b : Addr} {ob : Obj} (q : h.get? b = some ob) (n : H b = none) (hx : b ∉ ex) : ∃ sl, h1.get? b = some { ob with slots := sl } := by
  by_cases hb : b ∈ fs
  · exact u.slot b ob q n hb hx
  · exact ⟨ob.slots, u.keep b ob q n hb hx⟩
theorem Un.kept (k : ∀ b u, h.get? b = some u → h'.get? b = some u) : Un fs ex H H h h' :=
  ⟨fun b ob q _ _ _ => k b ob q, fun b ob q _ _ _ => ⟨ob.slots, k b ob q⟩, fun _ _ _ n _ => n, fun b ob q _ => ⟨ob, k b ob q⟩, fun _ _ q => q, fun _ _ _ q => q, fun _ ps q => ⟨#[], by rw [q]; simp⟩⟩
theorem Un.refl : Un fs ex H H h h := Un.kept fun _ _ q => q
theorem Un.laid (k : ∀ b u, h.get? b = some u → h'.get? b = some u) (hp : h.objs.size ≤ a) (hn : H a = none) : Un fs ex H (upd H a o) h h' where
  keep := fun b u q _ _ _ => k b u q
  slot := fun b u q _ _ _ => ⟨u.slots, k b u q⟩
  free := fun b u q n _ => by rw [upd_ne (Nat.ne_of_lt (Nat.lt_of_lt_of_le (Heap.lt_size q) hp))]; exact n
  there := fun b u q _ => ⟨u, k b u q⟩
  tups := fun b xs q => by rw [upd_ne (ne_of_none q hn)]; exact q
  frzs := fun b u xs q => by rw [upd_ne (ne_of_none q hn)]; exact q
  tbls := fun b ps q => ⟨#[], by rw [upd_ne (ne_of_none q hn), q]; simp⟩
theorem Un.write (mu : Mut (H x)) (he : e = x ∨ H e = some (.own x)) (k : ∀ b u, b ≠ e → h.get? b = some u → h'.get? b = some u) (heo : ∃ u, h'.get? e = some u) : Un fs ex H (upd H x o) h h' := by
  have hx : ∀ b, H b = none → b ≠ x := fun b n z => by subst z; rw [n] at mu; exact mu
  have hb : ∀ b, H b = none → b ≠ e := fun b n z => by
    subst z
    rcases he with r | r
    · exact hx b n r
    · rw [n] at r; cases r
  have hm : ∀ b u, H b = some u → ¬ Mut (some u) → b ≠ x := fun b u q nm z => by subst z; rw [q] at mu; exact nm mu
  refine ⟨fun b u q n _ _ => k b u (hb b n) q, fun b u q n _ _ => ⟨u.slots, k b u (hb b n) q⟩, fun b u q n _ => by rw [upd_ne (hx b n)]; exact n, fun b u q _ => ?_,
    fun b xs q => by rw [upd_ne (hm b _ q fun z => z)]; exact q, fun b u xs q => by rw [upd_ne (hm b _ q fun z => z)]; exact q, fun b ps q => ⟨#[], by rw [upd_ne (hm b _ q fun z => z), q]; simp⟩⟩
  by_cases hbe : b = e
  · subst hbe; exact heo
  · exact ⟨u, k b u hbe q⟩
end

/-! ### the heap without what is tracked -/
def trk (h : Heap) (H : Hp) : List Addr := (List.range h.objs.size).filter fun a => (H a).isSome
def hidT (h : Heap) (H : Hp) : Heap := PySem.W.hideAll h (trk h H)
theorem hidT_size (h : Heap) (H : Hp) : (hidT h H).objs.size = h.objs.size := PySem.W.hideAll_size _ _
theorem hidT_get {h : Heap} {H : Hp} {b : Addr} {o : Obj} (e : h.get? b = some o) (n : H b = none) : (hidT h H).get? b = some o :=
  PySem.W.hideAll_get _ e fun hm => by
    have q : (H b).isSome = true := (List.mem_filter.mp hm).2
    rw [n] at q; simp at q
theorem of_hidT {h : Heap} {H : Hp} {b : Addr} {o : Obj} (e : (hidT h H).get? b = some o) : h.get? b = some o ∧ H b = none := by
  have e' : h.get? b = some o := PySem.W.of_hideAll (trk h H) e
  refine ⟨e', ?_⟩
  cases q : H b with
  | none => rfl
  | some x =>
    have hm : b ∈ trk h H := List.mem_filter.mpr ⟨List.mem_range.mpr (Heap.lt_size e'), by simp [q]⟩
    have z : (hidT h H).get? b = none := PySem.W.hideAll_none (trk h H) hm
    rw [z] at e; cases e

/-! ### OpenK's ledger, filled with every new object but one -/
def allNews (g h : Heap) (L : Addr) : List (Addr × Obj) := (List.range h.objs.size).filterMap fun a => if a = L ∨ (g.get? a).isSome = true then none else (h.get? a).map fun o => (a, o)
def rest (g h : Heap) (L d : Addr) : List (Addr × Obj) := (allNews g h L).filter fun p => decide (p.1 ≠ d)
end L2

namespace L2
open PySem PySem.Spec PyProof.Rows

/-- the module's facts, over the base: the heap at the law's entry without what is tracked there -/
structure Mod (K : PySem.W.Frag) (mg : Str → Option Value) (base : Heap) : Prop where
  kin : K.In base
  glob : base.Ns mainGlobals mg
  blt : ∃ mb, base.Ns builtinsNs mb ∧ ∀ x : Str, x ≠ "__name__" → mb x = bootBuiltins x
  nolimit : base.NoLimit

/-- the context: a def's body (or a comprehension's block) running. base: fixed through the whole law; s₀, H₀: the entry; outer: the frames whose slots others may change (a def's callers); stack: all frames that run;
   ex: iterators that were made ahead of the entry and are walked here (a comprehension's); fn: the names whose cells were made at the entry (a def: all; a comprehension's block: its own); calm: not within an except suite; pn: pins that every state bears; xe: what is wanted of an exception that leaves the code -/
structure Cx where
  prog : Program
  w : World
  K : PySem.W.Frag
  mg : Str → Option Value
  base : Heap
  A : Around
  N : List Str
  s₀ : Shared
  H₀ : Hp
  env : Env
  outer : List Env
  stack : List Env
  ex : List Addr
  fn : Str → Bool
  calm : Bool
  pn : List (Addr × Obj)
  xe : Value → Shared → Prop
/-- the callers' frames -/
def frs (l : List Env) : List Addr := l.filterMap (·.frame)
abbrev Cx.fs (X : Cx) : List Addr := frs X.outer

def Vis (sc : Scope) (x : Str) : Prop := sc.names.lookup x = some .local ∨ sc.names.lookup x = some .cell ∨ sc.names.lookup x = some .free
def Loc (sc : Scope) (x : Str) : Prop := sc.names.lookup x = some .local ∨ sc.names.lookup x = some .cell
def Look (env : Env) (h : Heap) (m : Str → Option Value) (x : Str) (u : Value) : Prop :=
  (env.kindOf x = some .local ∧ m x = some u) ∨ ((env.kindOf x = some .cell ∨ env.kindOf x = some .free) ∧ ∃ c, env.cells.lookup x = some c ∧ h.IsCell c (some u))

structure Cx.Ok (X : Cx) : Prop where
  mod : Mod X.K X.mg X.base
  kind : X.env.scope.kind = .function
  glob : X.env.globals = mainGlobals
  blt : X.env.builtins = builtinsNs
  above : X.s₀.heap.objs.size ≤ X.env.locals
  inj : ∀ x y c, X.env.cells.lookup x = some c → X.env.cells.lookup y = some c → x = y
  has : ∀ x, (X.env.kindOf x = some .cell ∨ X.env.kindOf x = some .free) → ∃ c, X.env.cells.lookup x = some c
  cab : ∀ x c, X.fn x = true → X.env.cells.lookup x = some c → X.s₀.heap.objs.size ≤ c
  hd : X.calm = true → X.A.handled = none
  frames : X.A.frames = some X.stack
  stk : X.stack = X.outer ∨ (X.stack = X.env :: X.outer ∧ X.env.frame = some X.env.locals)
  exf : ∀ b ∈ X.ex, b ≠ X.env.locals ∧ ∀ x c, X.env.cells.lookup x = some c → c ≠ b
  bs : ∀ b o, X.base.get? b = some o → X.s₀.heap.get? b = some o ∧ X.H₀ b = none
  bsz : X.base.objs.size ≤ X.s₀.heap.objs.size
  noex : ∀ b o, X.base.get? b = some o → b ∉ X.ex
  exfs : ∀ b ∈ X.ex, b ∉ X.fs
  funs : X.s₀.heap.FunFrames X.base X.outer
  frf : ∀ b ∈ X.fs, X.H₀ b = none

structure Inv (X : Cx) (pins : List (Addr × Obj)) (σ : List (Option V)) (H : Hp) (s : Shared) : Prop where
  ok : X.Ok
  os : s.os = X.s₀.os
  bare : AllBare s.gens
  base : Un X.fs X.ex X.H₀ H X.s₀.heap s.heap
  loc : ∃ m, s.heap.Ns X.env.locals m ∧ ∀ (i : Nat) (x : Str) (v : V), X.N[i]? = some x → σ[i]? = some (some v) → Vis X.env.scope x → ∃ u, RelV v u ∧ Look X.env s.heap m x u
  cell : ∀ x c, X.env.cells.lookup x = some c → ∃ v, s.heap.IsCell c v
  free : H X.env.locals = none
  freeC : ∀ x c, X.env.cells.lookup x = some c → H c = none
  pin : ∀ p ∈ X.pn ++ pins, s.heap.get? p.1 = some p.2 ∧ H p.1 = none ∧ p.1 ≠ X.env.locals ∧ p.1 ∉ X.fs ∧ ∀ v, p.2.data ≠ .cell v
  hok : HOk X.prog X.w H s.heap
  len : σ.length = X.N.length

section
variable {X : Cx} {pins : List (Addr × Obj)} {σ : List (Option V)} {H H' : Hp} {s : Shared} {h' : Heap}

theorem Cx.Ok.nofr (ok : X.Ok) {b : Addr} {o : Obj} (e : X.base.get? b = some o) : b ∉ X.fs := fun hb => by
  have := (ok.funs.mem hb).1
  rw [e] at this; cases this
theorem Inv.bs (I : Inv X pins σ H s) : ∀ b o, X.base.get? b = some o → s.heap.get? b = some o ∧ H b = none := fun b o e =>
  ⟨I.base.keep b o (I.ok.bs b o e).1 (I.ok.bs b o e).2 (I.ok.nofr e) (I.ok.noex b o e), I.base.free b o (I.ok.bs b o e).1 (I.ok.bs b o e).2 (I.ok.noex b o e)⟩
theorem Inv.bk (I : Inv X pins σ H s) : ∀ b o, X.base.get? b = some o → s.heap.get? b = some o := fun b o e => (I.bs b o e).1
theorem Inv.mod (I : Inv X pins σ H s) : Mod X.K X.mg X.base := I.ok.mod
theorem Inv.kIn (I : Inv X pins σ H s) : X.K.In s.heap := I.ok.mod.kin.keeps I.bk
/-- the frame over the base: for OpenK's rules (K.In X.base is I.mod.kin) -/
theorem Inv.fr (I : Inv X pins σ H s) : ∃ m, Fr X.base X.env.locals s.heap m :=
  let ⟨m, hn, _⟩ := I.loc
  ⟨m, hn, I.bk, Nat.le_trans I.ok.bsz I.ok.above⟩
theorem Inv.lt (I : Inv X pins σ H s) : X.env.locals < s.heap.objs.size := let ⟨_, hn, _⟩ := I.loc; hn.lt
theorem Inv.sz (I : Inv X pins σ H s) : X.s₀.heap.objs.size ≤ s.heap.objs.size := Nat.le_trans I.ok.above (Nat.le_of_lt I.lt)
theorem Inv.nofs (I : Inv X pins σ H s) {a : Addr} (h : s.heap.objs.size ≤ a) : a ∉ X.fs := fun hb => by
  obtain ⟨_, o, ho, _⟩ := I.ok.funs.mem hb
  exact absurd (Nat.lt_of_lt_of_le (Heap.lt_size ho) (Nat.le_trans I.sz h)) (Nat.lt_irrefl _)
theorem Inv.cne (I : Inv X pins σ H s) : ∀ x c, X.env.cells.lookup x = some c → c ≠ X.env.locals := fun x c e z => by
  obtain ⟨v, o, ho, hd⟩ := I.cell x c e
  obtain ⟨m, ⟨o', es, ep, ho', hd', _⟩, _⟩ := I.loc
  rw [z, ho'] at ho; cases ho; rw [hd'] at hd; cases hd
theorem Inv.funs (I : Inv X pins σ H s) : s.heap.FunFrames X.base X.outer := by
  have all : ∀ (l : List Env), (∀ b ∈ frs l, b ∈ X.fs) → X.s₀.heap.FunFrames X.base l → s.heap.FunFrames X.base l := by
    intro l
    induction l with
    | nil => intro _ _; trivial
    | cons env r ih =>
      intro hs hl
      obtain ⟨hk, ⟨L, o, hf, hn, ho, hd⟩, hr⟩ := hl
      have hL : L ∈ X.fs := hs L (by unfold frs; rw [List.filterMap_cons, hf]; exact List.mem_cons_self)
      obtain ⟨sl, e⟩ := I.base.slot L o ho (I.ok.frf L hL) hL fun z => I.ok.exfs L z hL
      exact ⟨hk, ⟨L, _, hf, hn, e, hd⟩, ih (fun b hb => hs b (by unfold frs; rw [List.filterMap_cons, hf]; exact List.mem_cons_of_mem _ hb)) hr⟩
  exact all X.outer (fun _ hb => hb) I.ok.funs

/-- the frames that run, for a call -/
theorem Inv.stack (I : Inv X pins σ H s) : s.heap.FunFrames X.base X.stack := by
  rcases I.ok.stk with e | ⟨e, hf⟩
  · rw [e]; exact I.funs
  · rw [e]
    obtain ⟨m, hn, _⟩ := I.loc
    refine .cons (by rw [I.ok.kind]; decide) hf hn ?_ I.funs
    exact Heap.get?_none_of_le (Nat.le_trans I.ok.bsz I.ok.above)
theorem Inv.stkSub (I : Inv X pins σ H s) : ∀ b ∈ frs X.stack, b ∈ X.env.locals :: X.fs := fun b hb => by
  rcases I.ok.stk with e | ⟨e, hf⟩
  · rw [e] at hb; exact List.mem_cons_of_mem _ hb
  · rw [e] at hb
    unfold frs at hb
    rw [List.filterMap_cons, hf] at hb
    exact hb
theorem Inv.stkFree (I : Inv X pins σ H s) : ∀ b ∈ frs X.stack, H b = none := fun b hb => by
  rcases List.mem_cons.mp (I.stkSub b hb) with e | hb
  · rw [e]; exact I.free
  · obtain ⟨_, o, ho, _⟩ := I.ok.funs.mem hb
    exact I.base.free b o ho (I.ok.frf b hb) fun z => I.ok.exfs b z hb

/-- THE STEP: the untracked objects but the frame and the records at ch are kept (the callers' frames up to slots), the frame's map is kept, the new abstract heap is held -/
theorem Inv.step {g' : Array GenState} {t' : Nat} {d' : Drawn} {ch : List Addr} (I : Inv X pins σ H s)
    (hch : ∀ b ∈ ch, (b ∈ X.ex ∨ X.s₀.heap.objs.size ≤ b) ∧ b ≠ X.env.locals ∧ (∀ x c, X.env.cells.lookup x = some c → c ≠ b) ∧ ∀ p ∈ X.pn ++ pins, p.1 ≠ b)
    (keep : ∀ b o, b ≠ X.env.locals → b ∉ X.fs → b ∉ ch → s.heap.get? b = some o → H b = none → h'.get? b = some o)
    (slot : ∀ b o, b ≠ X.env.locals → b ∈ X.fs → b ∉ ch → s.heap.get? b = some o → H b = none → ∃ sl, h'.get? b = some { o with slots := sl }) (free : ∀ b o, b ∉ ch → s.heap.get? b = some o → H b = none → H' b = none)
    (there : ∀ b o, b ∉ ch → s.heap.get? b = some o → ∃ o', h'.get? b = some o')
    (tups : ∀ b xs, H b = some (.tup xs) → H' b = some (.tup xs)) (frzs : ∀ b o u, H b = some (.frz o u) → H' b = some (.frz o u)) (tbls : ∀ b ps, H b = some (.tbl ps) → ∃ more, H' b = some (.tbl (ps ++ more)))
    (ns : ∀ m, s.heap.Ns X.env.locals m → h'.Ns X.env.locals m) (hok : HOk X.prog X.w H' h') (hg : AllBare g') :
    Inv X pins σ H' { s with heap := h', gens := g', drawn := d', toks := t' } := by
  have neL : ∀ b o, X.s₀.heap.get? b = some o → b ≠ X.env.locals := fun b o e => Nat.ne_of_lt (Nat.lt_of_lt_of_le (Heap.lt_size e) I.ok.above)
  have neC : ∀ b o, X.s₀.heap.get? b = some o → b ∉ X.ex → b ∉ ch := fun b o e hx hb => by
    rcases (hch b hb).1 with z | z
    · exact hx z
    · exact absurd (Nat.lt_of_lt_of_le (Heap.lt_size e) z) (Nat.lt_irrefl _)
  have cellK : ∀ x c, X.env.cells.lookup x = some c → ∀ v, s.heap.IsCell c v → h'.IsCell c v := fun x c e v ⟨o, ho, hd⟩ => by
    have nch : c ∉ ch := fun z => (hch c z).2.2.1 x c e rfl
    by_cases hc : c ∈ X.fs
    · obtain ⟨sl, q⟩ := slot c o (I.cne x c e) hc nch ho (I.freeC x c e)
      exact ⟨_, q, hd⟩
    · exact ⟨o, keep c o (I.cne x c e) hc nch ho (I.freeC x c e), hd⟩
  refine ⟨I.ok, I.os, hg, ⟨fun b o e n hb hx => ?_, fun b o e n hb hx => ?_, fun b o e n hx => ?_, fun b o e hx => ?_, fun b xs e => tups b xs (I.base.tups b xs e), fun b o xs e => frzs b o xs (I.base.frzs b o xs e), fun b ps e => ?_⟩, ?_, fun x c e => ?_, ?_, fun x c e => ?_, fun p hp => ?_, hok, I.len⟩
  · exact keep b o (neL b o e) hb (neC b o e hx) (I.base.keep b o e n hb hx) (I.base.free b o e n hx)
  · obtain ⟨sl, e1⟩ := I.base.slot b o e n hb hx
    obtain ⟨sl', e2⟩ := slot b _ (neL b o e) hb (neC b o e hx) e1 (I.base.free b o e n hx)
    exact ⟨sl', e2⟩
  · obtain ⟨o', e1⟩ := I.base.there b o e hx
    exact free b o' (neC b o e hx) e1 (I.base.free b o e n hx)
  · obtain ⟨o', e1⟩ := I.base.there b o e hx
    exact there b o' (neC b o e hx) e1
  · obtain ⟨m1, e1⟩ := I.base.tbls b ps e
    obtain ⟨m2, e2⟩ := tbls b _ e1
    exact ⟨m1 ++ m2, by rw [e2, Array.append_assoc]⟩
  · obtain ⟨m, hn, hl⟩ := I.loc
    refine ⟨m, ns m hn, fun i x v e1 e2 e3 => ?_⟩
    obtain ⟨u, r, l⟩ := hl i x v e1 e2 e3
    refine ⟨u, r, ?_⟩
    rcases l with l | ⟨k, c, e, z⟩
    · exact .inl l
    · exact .inr ⟨k, c, e, cellK x c e _ z⟩
  · obtain ⟨v, z⟩ := I.cell x c e
    exact ⟨v, cellK x c e v z⟩
  · obtain ⟨m, ⟨o, _, _, ho, _⟩, _⟩ := I.loc
    exact free _ o (fun z => (hch _ z).2.1 rfl) ho I.free
  · obtain ⟨v, o, ho, hd⟩ := I.cell x c e
    exact free c o (fun z => (hch c z).2.2.1 x c e rfl) ho (I.freeC x c e)
  · obtain ⟨e, n, ne, nf, d⟩ := I.pin p hp
    have nch : p.1 ∉ ch := fun z => (hch p.1 z).2.2.2 p hp rfl
    exact ⟨keep p.1 p.2 ne nf nch e n, free p.1 p.2 nch e n, ne, nf, d⟩
/-- .. where the frame's own object is kept too -/
theorem Inv.un {t' : Nat} (I : Inv X pins σ H s) (u : Un X.fs [] H H' s.heap h') (hok : HOk X.prog X.w H' h') : Inv X pins σ H' { s with heap := h', toks := t' } := by
  obtain ⟨m, ⟨o, es, ep, ho, r⟩, _⟩ := id I.loc
  obtain ⟨sl, hL⟩ := u.any ho I.free (by simp)
  exact I.step (g' := s.gens) (d' := s.drawn) (ch := []) (fun _ z => nomatch z) (fun b o _ hb _ e n => u.keep b o e n hb (by simp)) (fun b o _ hb _ e n => u.slot b o e n hb (by simp)) (fun b o _ e n => u.free b o e n (by simp)) (fun b o _ e => u.there b o e (by simp)) u.tups u.frzs u.tbls (fun m' hm => by
    obtain ⟨o', es', ep', ho', r'⟩ := hm
    rw [ho] at ho'; cases ho'
    exact ⟨_, es', ep', hL, r'⟩) hok I.bare
/-- behind a call (or a comprehension's block): the slots of this frame may have changed too, the records at ch may have turned -/
theorem Inv.call {g' : Array GenState} {t' : Nat} {d' : Drawn} {ch : List Addr} (I : Inv X pins σ H s) (u : Un (frs X.stack) ch H H' s.heap h') (hok : HOk X.prog X.w H' h') (hg : AllBare g')
    (hch : ∀ b ∈ ch, (b ∈ X.ex ∨ X.s₀.heap.objs.size ≤ b) ∧ b ≠ X.env.locals ∧ (∀ x c, X.env.cells.lookup x = some c → c ≠ b) ∧ ∀ p ∈ X.pn ++ pins, p.1 ≠ b) :
    Inv X pins σ H' { s with heap := h', gens := g', drawn := d', toks := t' } := by
  obtain ⟨m, ⟨o, es, ep, ho, r⟩, _⟩ := id I.loc
  obtain ⟨sl, hL⟩ := u.any ho I.free fun z => (hch _ z).2.1 rfl
  exact I.step (ch := ch) hch (fun b o hL hb hc e n => u.keep b o e n (fun z => (List.mem_cons.mp (I.stkSub b z)).elim hL hb) hc) (fun b o _ _ hc e n => u.any e n hc) (fun b o hc e n => u.free b o e n hc) (fun b o hc e => u.there b o e hc) u.tups u.frzs u.tbls (fun m' hm => by
    obtain ⟨o', es', ep', ho', r'⟩ := hm
    rw [ho] at ho'; cases ho'
    exact ⟨_, es', ep', hL, r'⟩) hok hg
/-- an untracked record of ours (an iterator) has turned -/
theorem Inv.turned {t' : Nat} {it : Addr} (I : Inv X pins σ H s) (k : ∀ b o, b ≠ it → s.heap.get? b = some o → h'.get? b = some o) (hn : H it = none) (hL : it ≠ X.env.locals)
    (h1 : it ∈ X.ex ∨ X.s₀.heap.objs.size ≤ it) (h2 : ∀ x c, X.env.cells.lookup x = some c → c ≠ it) (h3 : ∀ p ∈ X.pn ++ pins, p.1 ≠ it) : Inv X pins σ H { s with heap := h', toks := t' } := by
  have nit : ∀ b u, H b = some u → b ≠ it := fun b u e z => by rw [z, hn] at e; cases e
  refine I.step (g' := s.gens) (d' := s.drawn) (ch := [it]) (fun b hb => ?_) (fun b o _ _ hc e _ => k b o (fun z => hc (by simp [z])) e) (fun b o _ _ hc e _ => ⟨o.slots, k b o (fun z => hc (by simp [z])) e⟩) (fun _ _ _ _ n => n)
    (fun b o hc e => ⟨o, k b o (fun z => hc (by simp [z])) e⟩) (fun _ _ e => e) (fun _ _ _ e => e) (fun b ps e => ⟨#[], by rw [e]; simp⟩) (fun m hm => ?_) (fun b u e => ?_) I.bare
  · have e : b = it := by simpa using hb
    subst e
    exact ⟨h1, hL, h2, h3⟩
  · obtain ⟨o, es, ep, ho, r⟩ := hm
    exact ⟨o, es, ep, k _ o (Ne.symm hL) ho, r⟩
  · refine (I.hok b u e).stay (fun c v hc q => k c v ?_ q) (fun _ q => q) fun _ _ q => q
    rcases hc with z | z
    · rw [z]; exact nit b u e
    · exact nit c _ z
theorem Inv.tok (I : Inv X pins σ H s) (t : Nat) : Inv X pins σ H { s with toks := t } := I.un (h' := s.heap) (t' := t) Un.refl I.hok
/-- all objects kept -/
theorem Inv.kept {t' : Nat} (I : Inv X pins σ H s) (k : ∀ b u, s.heap.get? b = some u → h'.get? b = some u) : Inv X pins σ H { s with heap := h', toks := t' } := I.un (Un.kept k) (I.hok.kept k)
/-- a new object laid and tracked -/
theorem Inv.laid {a : Addr} {o : HO} {t' : Nat} (I : Inv X pins σ H s) (k : ∀ b u, s.heap.get? b = some u → h'.get? b = some u) (hp : s.heap.objs.size ≤ a) (new : ObjOk X.prog X.w (upd H a o) h' a o) :
    Inv X pins σ (upd H a o) { s with heap := h', toks := t' } := I.un (Un.laid k hp (I.hok.fresh hp)) (I.hok.laid k hp new)
/-- an object written -/
theorem Inv.write {x e : Addr} {o : HO} {t' : Nat} (I : Inv X pins σ H s) (mu : Mut (H x)) (he : e = x ∨ H e = some (.own x)) (k : ∀ b u, b ≠ e → s.heap.get? b = some u → h'.get? b = some u) (heo : ∃ u, h'.get? e = some u)
    (new : ObjOk X.prog X.w (upd H x o) h' x o) : Inv X pins σ (upd H x o) { s with heap := h', toks := t' } := I.un (Un.write mu he k heo) (I.hok.write mu he k heo new)
/-- forgetting slots, pins -/
theorem Inv.weak {σ' : List (Option V)} (I : Inv X pins σ H s) (hl : σ'.length = σ.length) (w : ∀ (i : Nat) v, σ'[i]? = some (some v) → σ[i]? = some (some v)) : Inv X pins σ' H s :=
  ⟨I.ok, I.os, I.bare, I.base, let ⟨m, hn, hl'⟩ := I.loc; ⟨m, hn, fun i x v e1 e2 e3 => hl' i x v e1 (w i v e2) e3⟩, I.cell, I.free, I.freeC, I.pin, I.hok, hl.trans I.len⟩
theorem Inv.pins_of {pins' : List (Addr × Obj)} (I : Inv X pins σ H s) (h : ∀ p ∈ pins', s.heap.get? p.1 = some p.2 ∧ H p.1 = none ∧ p.1 ≠ X.env.locals ∧ p.1 ∉ X.fs ∧ ∀ v, p.2.data ≠ .cell v) : Inv X pins' σ H s :=
  ⟨I.ok, I.os, I.bare, I.base, I.loc, I.cell, I.free, I.freeC, fun p hp => (List.mem_append.mp hp).elim (fun z => I.pin p (List.mem_append_left _ z)) (h p), I.hok, I.len⟩

theorem nodup_ix {N : List Str} (hN : N.Nodup) {i j : Nat} {x : Str} (a : N[i]? = some x) (b : N[j]? = some x) : i = j := by
  obtain ⟨h1, e1⟩ := List.getElem?_eq_some_iff.mp a
  obtain ⟨h2, e2⟩ := List.getElem?_eq_some_iff.mp b
  exact (List.getElem_inj hN).mp (e1.trans e2.symm)

/-- a name is stored; what changed -/
theorem store_ok2 {M : Model} {A : Around} {E : Value → Shared → Prop} {i : Nat} {x : Str} {v : V} {u : Value} {Q : Unit → Shared → Prop} (I : Inv X pins σ H s) (hN : X.N.Nodup) (hi : X.N[i]? = some x) (hx : Loc X.env.scope x) (r : RelV v u)
    (h : ∀ s', Inv X pins (σ.set i (some v)) H s' → (∃ a, Heap.SameBut a s.heap s'.heap ∧ (a = X.env.locals ∨ X.env.cells.lookup x = some a)) → Q () s') (hf : X.fn x = true ∨ X.env.scope.names.lookup x = some .local := by first | exact .inl rfl | exact .inr rfl | assumption) : wpAny M A (storeName X.env x u) Q E s := by
  obtain ⟨m, hn, hl⟩ := id I.loc
  have hcls : (X.env.scope.kind == .class || (X.env.scope.kind == .module && X.env.locals != X.env.globals)) = false := by rw [I.ok.kind]; rfl
  have hiσ : i < σ.length := by rw [I.len]; exact (List.getElem?_eq_some_iff.mp hi).1
  have cne := I.cne
  have tracked : ∀ {a : Addr} {h' : Heap}, (∃ o, s.heap.get? a = some o ∧ H a = none) → Heap.SameBut a s.heap h' → HOk X.prog X.w H h' := fun {a h'} ha hs b ob e => by
    obtain ⟨_, _, hfree⟩ := ha
    refine (I.hok b ob e).stay (fun c w' hc q => (hs.2 c ?_).trans q) (fun _ q => q) fun _ _ q => q
    rintro rfl
    rcases hc with rfl | hc
    · rw [hfree] at e; cases e
    · rw [hfree] at hc; cases hc
  rcases hx with hk | hk
  · refine wpAny_storeName_local hk hn (fun h' hn' hs => ?_) hcls
    obtain ⟨oL, _, _, hoL, _⟩ := id hn
    refine h _ ⟨I.ok, I.os, I.bare, ⟨fun b o e n hb hx => ?_, fun b o e n hb hx => ?_, I.base.free, fun b o e hx => ?_, I.base.tups, I.base.frzs, I.base.tbls⟩, ⟨_, hn', fun j y v' e1 e2 e3 => ?_⟩, fun y c e => ?_, I.free, I.freeC, fun p hp => ?_, tracked ⟨oL, hoL, I.free⟩ hs, by simpa using I.len⟩ ⟨_, hs, .inl rfl⟩
    · exact (hs.2 b (Nat.ne_of_lt (Nat.lt_of_lt_of_le (Heap.lt_size e) I.ok.above))).trans (I.base.keep b o e n hb hx)
    · obtain ⟨sl, e1⟩ := I.base.slot b o e n hb hx
      exact ⟨sl, (hs.2 b (Nat.ne_of_lt (Nat.lt_of_lt_of_le (Heap.lt_size e) I.ok.above))).trans e1⟩
    · obtain ⟨o', e1⟩ := I.base.there b o e hx
      exact ⟨o', (hs.2 b (Nat.ne_of_lt (Nat.lt_of_lt_of_le (Heap.lt_size e) I.ok.above))).trans e1⟩
    · by_cases hj : j = i
      · subst hj
        rw [hi] at e1; cases e1
        rw [List.getElem?_set_self hiσ] at e2
        cases e2
        exact ⟨u, r, .inl ⟨hk, by simp⟩⟩
      · rw [List.getElem?_set_ne (Ne.symm hj)] at e2
        obtain ⟨u', r', q⟩ := hl j y v' e1 e2 e3
        refine ⟨u', r', ?_⟩
        rcases q with ⟨k, e⟩ | ⟨k, c, e, z⟩
        · refine .inl ⟨k, ?_⟩
          have : y ≠ x := fun e => hj (nodup_ix hN e1 (e ▸ hi))
          simp [this, e]
        · exact .inr ⟨k, c, e, z.sameBut hs (cne y c e)⟩
    · obtain ⟨w', z⟩ := I.cell y c e
      exact ⟨w', z.sameBut hs (cne y c e)⟩
    · obtain ⟨e, n, ne, nf, d⟩ := I.pin p hp
      exact ⟨(hs.2 p.1 ne).trans e, n, ne, nf, d⟩
  · have hfn : X.fn x = true := by
      rcases hf with z | z
      · exact z
      · rw [z] at hk; cases hk
    obtain ⟨c, hc⟩ := I.ok.has x (.inl hk)
    obtain ⟨w', z⟩ := I.cell x c hc
    refine wpAny_storeName_cell I.ok.kind hk hc z (fun h' hc' hs => ?_)
    obtain ⟨oc, hoc, hocd⟩ := id z
    refine h { s with heap := h' } ⟨I.ok, I.os, I.bare, ⟨fun b o e n hb hx => ?_, fun b o e n hb hx => ?_, I.base.free, fun b o e hx => ?_, I.base.tups, I.base.frzs, I.base.tbls⟩, ⟨m, hn.sameBut hs (Ne.symm (cne x c hc)), fun j y v' e1 e2 e3 => ?_⟩, fun y c' e => ?_, I.free, I.freeC, fun p hp => ?_, tracked ⟨oc, hoc, I.freeC x c hc⟩ hs, by simpa using I.len⟩ ⟨c, hs, .inr hc⟩
    · exact (hs.2 b (Nat.ne_of_lt (Nat.lt_of_lt_of_le (Heap.lt_size e) (I.ok.cab x c hfn hc)))).trans (I.base.keep b o e n hb hx)
    · obtain ⟨sl, e1⟩ := I.base.slot b o e n hb hx
      exact ⟨sl, (hs.2 b (Nat.ne_of_lt (Nat.lt_of_lt_of_le (Heap.lt_size e) (I.ok.cab x c hfn hc)))).trans e1⟩
    · obtain ⟨o', e1⟩ := I.base.there b o e hx
      exact ⟨o', (hs.2 b (Nat.ne_of_lt (Nat.lt_of_lt_of_le (Heap.lt_size e) (I.ok.cab x c hfn hc)))).trans e1⟩
    · by_cases hj : j = i
      · subst hj
        rw [hi] at e1; cases e1
        rw [List.getElem?_set_self hiσ] at e2
        cases e2
        exact ⟨u, r, .inr ⟨.inl hk, c, hc, hc'⟩⟩
      · rw [List.getElem?_set_ne (Ne.symm hj)] at e2
        obtain ⟨u', r', q⟩ := hl j y v' e1 e2 e3
        refine ⟨u', r', ?_⟩
        rcases q with q | ⟨k, c', e, z'⟩
        · exact .inl q
        · refine .inr ⟨k, c', e, z'.sameBut hs ?_⟩
          rintro rfl
          exact hj (nodup_ix hN e1 (I.ok.inj _ _ _ e hc ▸ hi))
    · by_cases hcc : c' = c
      · subst hcc; exact ⟨_, hc'⟩
      · obtain ⟨w2, z2⟩ := I.cell y c' e
        exact ⟨w2, z2.sameBut hs hcc⟩
    · obtain ⟨e, n, ne, nf, d⟩ := I.pin p hp
      refine ⟨(hs.2 p.1 ?_).trans e, n, ne, nf, d⟩
      intro q
      rw [q, hoc] at e
      have q' : oc = p.2 := Option.some.inj e
      exact d w' (by rw [← q']; exact hocd)
theorem store_ok {M : Model} {A : Around} {E : Value → Shared → Prop} {i : Nat} {x : Str} {v : V} {u : Value} {Q : Unit → Shared → Prop} (I : Inv X pins σ H s) (hN : X.N.Nodup) (hi : X.N[i]? = some x) (hx : Loc X.env.scope x) (r : RelV v u)
    (h : ∀ s', Inv X pins (σ.set i (some v)) H s' → Q () s') (hf : X.fn x = true ∨ X.env.scope.names.lookup x = some .local := by first | exact .inl rfl | exact .inr rfl | assumption) : wpAny M A (storeName X.env x u) Q E s :=
  store_ok2 I hN hi hx r (fun s' I' _ => h s' I') hf
/-- behind a call or a block, the state as it is -/
theorem Inv.call' {s' : Shared} {ch : List Addr} (I : Inv X pins σ H s) (ho : s'.os = s.os) (u : Un (frs X.stack) ch H H' s.heap s'.heap) (hok : HOk X.prog X.w H' s'.heap) (hg : AllBare s'.gens)
    (hch : ∀ b ∈ ch, (b ∈ X.ex ∨ X.s₀.heap.objs.size ≤ b) ∧ b ≠ X.env.locals ∧ (∀ x c, X.env.cells.lookup x = some c → c ≠ b) ∧ ∀ p ∈ X.pn ++ pins, p.1 ≠ b) : Inv X pins σ H' s' := by
  obtain ⟨h', g', d', t', o'⟩ := s'
  have e : o' = s.os := ho
  subst e
  exact I.call (g' := g') (t' := t') (d' := d') u hok hg hch
end

/-! ### the judgements -/
/-- an exception: its class, its own dict's address (where it has one), the abstract heap behind it -/
abbrev XK := Value → Option Addr → Hp → Prop
abbrev St := List (Option V)
abbrev VK := V → Hp → Prop
/-- an expression's reading; a test's; an argument list's -/
abbrev TE := St → Hp → VK → Prop
abbrev TT := St → Hp → (Bool → Hp → Prop) → Prop
abbrev TA := St → Hp → (List V → Hp → Prop) → Prop
/-- what is wanted behind a statement -/
structure Ends where
  nx : St → Hp → Prop
  rt : VK
  bk : St → Hp → Prop := fun _ _ => False
  ct : St → Hp → Prop := fun _ _ => False
abbrev TS := Ends → St → Hp → Prop

def EP (X : Cx) (pins : List (Addr × Obj)) (σ : St) (Q : VK) (u : Value) (s' : Shared) : Prop := ∃ v H', Inv X pins σ H' s' ∧ RelV v u ∧ Q v H'
def TP (X : Cx) (pins : List (Addr × Obj)) (σ : St) (Q : Bool → Hp → Prop) (b : Bool) (s' : Shared) : Prop := ∃ H', Inv X pins σ H' s' ∧ Q b H'
def AP (X : Cx) (pins : List (Addr × Obj)) (σ : St) (Q : List V → Hp → Prop) (us : List Value) (s' : Shared) : Prop := ∃ vs H', Inv X pins σ H' s' ∧ Vals vs us ∧ Q vs H'
def SP (X : Cx) (pins : List (Addr × Obj)) (D : Ends) (f : Flow) (s' : Shared) : Prop :=
  match f with
  | .next => ∃ σ' H', Inv X pins σ' H' s' ∧ D.nx σ' H'
  | .brk => ∃ σ' H', Inv X pins σ' H' s' ∧ D.bk σ' H'
  | .cont => ∃ σ' H', Inv X pins σ' H' s' ∧ D.ct σ' H'
  | .ret u => ∃ v σ' H', Inv X pins σ' H' s' ∧ RelV v u ∧ D.rt v H'

def PE (X : Cx) (e : Expr) (t : TE) : Prop :=
  ∀ (pins : List (Addr × Obj)) (s : Shared) (σ : St) (H : Hp) (Q : VK), Inv X pins σ H s → t σ H Q → wpAny (model X.prog X.w) X.A (eval e X.env) (EP X pins σ Q) X.xe s
def PT (X : Cx) (e : Expr) (t : TT) : Prop :=
  ∀ (pins : List (Addr × Obj)) (s : Shared) (σ : St) (H : Hp) (Q : Bool → Hp → Prop), Inv X pins σ H s → t σ H Q → wpAny (model X.prog X.w) X.A (isTrue e X.env (eval e X.env)) (TP X pins σ Q) X.xe s
/-- a test whatever its 'whole' is (and, or) -/
def PW (X : Cx) (e : Expr) (t : TT) : Prop :=
  ∀ (whole : Sem Value) (pins : List (Addr × Obj)) (s : Shared) (σ : St) (H : Hp) (Q : Bool → Hp → Prop), Inv X pins σ H s → t σ H Q → wpAny (model X.prog X.w) X.A (isTrue e X.env whole) (TP X pins σ Q) X.xe s
theorem PW.pt {X : Cx} {e : Expr} {t : TT} (h : PW X e t) : PT X e t := h _
/-- an argument list (no star), from the left -/
def PA (X : Cx) (es : List Expr) (t : TA) : Prop :=
  ∀ (pos : Pos) (pins : List (Addr × Obj)) (s : Shared) (σ : St) (H : Hp) (Q : List V → Hp → Prop), Inv X pins σ H s → t σ H Q → wpAny (model X.prog X.w) X.A (spliced (backTo pos (starEach es X.env))) (AP X pins σ Q) X.xe s
def PS (X : Cx) (st : Stmt) (t : TS) : Prop :=
  ∀ (pins : List (Addr × Obj)) (s : Shared) (σ : St) (H : Hp) (D : Ends), Inv X pins σ H s → t D σ H → wpAny (model X.prog X.w) X.A (exec st X.env) (SP X pins D) X.xe s
def PSs (X : Cx) (st : List Stmt) (t : TS) : Prop :=
  ∀ (pins : List (Addr × Obj)) (s : Shared) (σ : St) (H : Hp) (D : Ends), Inv X pins σ H s → t D σ H → wpAny (model X.prog X.w) X.A (execs st X.env) (SP X pins D) X.xe s
/-- weaken the end -/
theorem thn {α : Type} {t : Sem α} {Q Q' : α → Shared → Prop} {M : Model} {A : Around} {E : Value → Shared → Prop} {s : Shared} (h : wpAny M A t Q E s) (hQ : ∀ a s, Q a s → Q' a s) : wpAny M A t Q' E s := wpAny_mono h hQ fun _ _ x => x
end L2

namespace L2
open PySem PySem.Spec PyProof.Rows
section
variable {X : Cx}

/-- two expressions in a row -/
theorem bin {a b : Expr} {ta tb : TE} (ha : PE X a ta) (hb : PE X b tb) {pins : List (Addr × Obj)} {s : Shared} {σ : St} {H : Hp} {R : V → V → Hp → Prop} (I : Inv X pins σ H s) (h : ta σ H fun x H1 => tb σ H1 fun y H2 => R x y H2)
    {α : Type} {Q : α → Shared → Prop} {f : Value → Value → Sem α}
    (hf : ∀ v u s2 x y H2, Inv X pins σ H2 s2 → RelV x v → RelV y u → R x y H2 → wpAny (model X.prog X.w) X.A (f v u) Q X.xe s2) :
    wpAny (model X.prog X.w) X.A (eval a X.env) (fun v s₁ => wpAny (model X.prog X.w) X.A (eval b X.env) (fun u s₂ => wpAny (model X.prog X.w) X.A (f v u) Q X.xe s₂) X.xe s₁) X.xe s := by
  refine thn (ha pins s σ H _ I h) fun v s1 ⟨x, H1, I1, r1, q1⟩ => ?_
  refine thn (hb pins s1 σ H1 _ I1 q1) fun u s2 ⟨y, H2, I2, r2, q2⟩ => ?_
  exact hf v u s2 x y H2 I2 r1 r2 q2

/-! ### names and constants -/
def tVar (i : Nat) : TE := fun σ H Q => ∃ v, σ[i]? = some (some v) ∧ Q v H
def tC (v : V) : TE := fun _ H Q => Q v H
theorem pe_var {i : Nat} {x : Str} {pos : Pos} (hN : X.N[i]? = some x) (hv : Vis X.env.scope x) (hd : (x == ("__debug__" : Str)) = false := by decide) (hcd : (x == ("__classdict__" : Str)) = false := by decide) : PE X (.Name x pos) (tVar i) := by
  intro pins s σ H Q I h
  obtain ⟨v, e, h⟩ := h
  obtain ⟨m, hn, hl⟩ := I.loc
  obtain ⟨u, r, l⟩ := hl i x v hN e hv
  have fin : EP X pins σ Q u s := ⟨v, H, I, r, h⟩
  rcases l with ⟨hk, hm⟩ | ⟨hk, c, hc, hcell⟩
  · exact wpAny_Name (wpAny_loadName_local I.ok.kind hk hn hm fin) hd
  · rcases hk with hk | hk
    · exact wpAny_Name (wpAny_loadName_cell I.ok.kind hk hc hcell fin) hd
    · exact wpAny_Name (wpAny_loadName_free I.ok.kind hk hc hcell fin hcd) hd
theorem pe_int {i j pos} : PE X (.Constant (.int i) j pos) (tC (.int i)) := fun _ _ _ H _ I h => wpAny_Constant_int ⟨.int i, H, I.tok _, ⟨_, rfl⟩, h⟩
theorem pe_bl {b j pos} : PE X (.Constant (.bool b) j pos) (tC (.bl b)) := fun _ _ _ H _ I h => Constant_bool ⟨.bl b, H, I, rfl, h⟩
theorem pe_non {j pos} : PE X (.Constant .none j pos) (tC .non) := fun _ _ _ H _ I h => Constant_none ⟨.non, H, I, rfl, h⟩
theorem pe_str {x j pos} : PE X (.Constant (.str x) j pos) (tC (.str x)) := fun _ _ _ H _ I h => Calls.Constant_str ⟨.str x, H, I.tok _, ⟨_, rfl⟩, h⟩

/-- a global name of the def -/
def Gl (X : Cx) (x : Str) : Prop := X.env.kindOf x = some .globalImplicit
theorem ld_glob {E : Value → Shared → Prop} {pins : List (Addr × Obj)} {s : Shared} {σ : St} {H : Hp} {x : Str} {u : Value} {pos : Pos} {Q : Value → Shared → Prop} (I : Inv X pins σ H s) (hg : Gl X x) (hm : X.mg x = some u) (h : Q u s)
    (hd : (x == ("__debug__" : Str)) = false := by decide) : wpAny (model X.prog X.w) X.A (eval (.Name x pos) X.env) Q E s :=
  Calls.Name_function_global I.ok.kind hg (Calls.loadGlobal_global (by rw [I.ok.glob]; exact I.mod.glob.keeps I.bk) hm h) hd
theorem ld_blt {E : Value → Shared → Prop} {pins : List (Addr × Obj)} {s : Shared} {σ : St} {H : Hp} {x : Str} {u : Value} {pos : Pos} {Q : Value → Shared → Prop} (I : Inv X pins σ H s) (hg : Gl X x) (hm : X.mg x = none) (hv : bootBuiltins x = some u) (h : Q u s)
    (hn : x ≠ "__name__" := by decide) (hd : (x == ("__debug__" : Str)) = false := by decide) : wpAny (model X.prog X.w) X.A (eval (.Name x pos) X.env) Q E s := by
  obtain ⟨mb, h1, h2⟩ := I.mod.blt
  exact Calls.Name_function_global I.ok.kind hg (Calls.loadGlobal_builtin (by rw [I.ok.glob]; exact I.mod.glob.keeps I.bk) hm (by rw [I.ok.blt]; exact h1.keeps I.bk) ((h2 x hn).trans hv) h) hd
/-- a module's constant, a class, a function, as a value -/
theorem pe_glob {x : Str} {v : V} {u : Value} {pos : Pos} (hg : Gl X x) (hm : X.mg x = some u) (r : RelV v u) (hd : (x == ("__debug__" : Str)) = false := by decide) : PE X (.Name x pos) (tC v) :=
  fun _ _ _ H _ I h => ld_glob I hg hm ⟨v, H, I, r, h⟩ hd
theorem pe_bltn {x : Str} {v : V} {u : Value} {pos : Pos} (hg : Gl X x) (hm : X.mg x = none) (hv : bootBuiltins x = some u) (r : RelV v u) (hn : x ≠ "__name__" := by decide) (hd : (x == ("__debug__" : Str)) = false := by decide) : PE X (.Name x pos) (tC v) :=
  fun _ _ _ H _ I h => ld_blt I hg hm hv ⟨v, H, I, r, h⟩ hn hd

/-! ### arithmetic -/
variable {a b : Expr} {ta tb : TE} {pos : Pos}

/-! ### comparisons -/
def PC (X : Cx) (op : CmpOp) (a b : Expr) (t : TE) : Prop :=
  ∀ (pins : List (Addr × Obj)) (s : Shared) (σ : St) (H : Hp) (Q : VK), Inv X pins σ H s → t σ H Q →
    wpAny (model X.prog X.w) X.A (eval a X.env) (fun v s₁ => wpAny (model X.prog X.w) X.A (eval b X.env) (fun u s₂ => wpAny (model X.prog X.w) X.A (compareOp op v u) (EP X pins σ Q) X.xe s₂) X.xe s₁) X.xe s
theorem nobehind (b : Expr) {op : CmpOp} (h : op ≠ .In) (h2 : op ≠ .NotIn) : behindInMarks op b = false := by
  have e1 : (op == CmpOp.In) = false := by cases op <;> first | rfl | exact absurd rfl h
  have e2 : (op == CmpOp.NotIn) = false := by cases op <;> first | rfl | exact absurd rfl h2
  cases b <;> simp [behindInMarks, e1, e2]
/-- a comparison as a value, as a test -/
def tB (t : TE) : TT := fun σ H Q => t σ H fun x H1 => ∃ c, x = .bl c ∧ Q c H1
theorem pt_cmp {op : CmpOp} {t : TE} (h : PC X op a b t) (h1 : behindInMarks op b = false := by first | exact nobehind _ (by decide) (by decide) | rfl) : PT X (.Compare a [op] [b] pos) (tB t) := by
  intro pins s σ H Q I hw
  refine wpAny_isTrue_Compare1 (thn (h pins s σ H _ I hw) fun v s1 h1 => thn h1 fun u s2 h2 => thn h2 fun c s3 ⟨x, H1, I1, r1, q1⟩ => ?_) h1
  obtain ⟨d, rfl, q⟩ := q1
  cases r1
  exact wpAny_truthy_bool ⟨H1, I1, q⟩
/-- an expression whose value is a bool, as a test -/
theorem pt_val {e : Expr} {t : TE} (h : PE X e t) (he : ∀ whole, isTrue e X.env whole = (do let v ← whole; standAt e.pos; holding [v] (truthy v)) := by intro _; rfl) : PT X e (tB t) := by
  intro pins s σ H Q I hw
  refine isTrue_plain (thn (h pins s σ H _ I hw) fun v s1 ⟨x, H1, I1, r1, q1⟩ => ?_) (he _)
  obtain ⟨d, rfl, q⟩ := q1
  cases r1
  exact wpAny_truthy_bool ⟨H1, I1, q⟩

/-! ### and, or, not -/
variable {tA tB' : TT} {rest : List Expr}
def tAnd (t u : TT) : TT := fun σ H Q => t σ H fun c H1 => if c = true then u σ H1 Q else Q false H1
def tOr (t u : TT) : TT := fun σ H Q => t σ H fun c H1 => if c = true then Q true H1 else u σ H1 Q
def tNot (t : TT) : TT := fun σ H Q => t σ H fun c H1 => Q (!c) H1
theorem pw_and1 (ha : PT X a tA) : PW X (.BoolOp .And [a] pos) tA := by
  intro wh pins s σ H Q I h
  refine isTrue_and (thn (ha pins s σ H Q I h) fun c s1 e => ?_)
  cases c with
  | true => exact isTrue_and_nil e
  | false => exact e
theorem pw_or1 (ha : PT X a tA) : PW X (.BoolOp .Or [a] pos) tA := by
  intro wh pins s σ H Q I h
  refine isTrue_or (thn (ha pins s σ H Q I h) fun c s1 e => ?_)
  cases c with
  | false => exact isTrue_or_nil e
  | true => exact e
theorem pw_and (ha : PT X a tA) (hb : PW X (.BoolOp .And (b :: rest) pos) tB') : PW X (.BoolOp .And (a :: b :: rest) pos) (tAnd tA tB') := by
  intro wh pins s σ H Q I h
  refine isTrue_and (thn (ha pins s σ H _ I h) fun c s1 ⟨H1, I1, q1⟩ => ?_)
  cases c with
  | true => exact hb wh pins s1 σ H1 Q I1 q1
  | false => exact ⟨H1, I1, q1⟩
theorem pw_or (ha : PT X a tA) (hb : PW X (.BoolOp .Or (b :: rest) pos) tB') : PW X (.BoolOp .Or (a :: b :: rest) pos) (tOr tA tB') := by
  intro wh pins s σ H Q I h
  refine isTrue_or (thn (ha pins s σ H _ I h) fun c s1 ⟨H1, I1, q1⟩ => ?_)
  cases c with
  | true => exact ⟨H1, I1, q1⟩
  | false => exact hb wh pins s1 σ H1 Q I1 q1
theorem pt_not (ha : PT X a tA) : PT X (.UnaryOp .Not a pos) (tNot tA) := by
  intro pins s σ H Q I h
  exact isTrue_not (ha pins s σ H (fun c H1 => Q (!c) H1) I h)
/-- .. as values (bools) -/
def tAndV (ta tb : TE) : TE := fun σ H Q => ta σ H fun x H1 => ∃ c, x = .bl c ∧ if c = true then tb σ H1 Q else Q (.bl false) H1
def tNotV (ta : TE) : TE := fun σ H Q => ta σ H fun x H1 => ∃ c, x = .bl c ∧ Q (.bl (!c)) H1
theorem pe_one {op} {t : TE} (h : PE X a t) : PE X (.BoolOp op [a] pos) t := fun pins s σ H Q I hw => BoolOp_one (h pins s σ H Q I hw)
theorem pe_and (ha : PE X a ta) (hb : PE X (.BoolOp .And (b :: rest) pos) tb) : PE X (.BoolOp .And (a :: b :: rest) pos) (tAndV ta tb) := by
  intro pins s σ H Q I h
  refine BoolOp_and (thn (ha pins s σ H _ I h) fun v s1 ⟨x, H1, I1, r1, q1⟩ => ?_)
  obtain ⟨c, rfl, q1⟩ := q1
  cases r1
  refine wpAny_truthy_bool ?_
  cases c with
  | true => exact hb pins s1 σ H1 Q I1 q1
  | false => exact ⟨.bl false, H1, I1, rfl, q1⟩
theorem pe_not (ha : PE X a ta) : PE X (.UnaryOp .Not a pos) (tNotV ta) := by
  intro pins s σ H Q I h
  refine UnaryOp_ (thn (ha pins s σ H _ I h) fun v s1 ⟨x, H1, I1, r1, q1⟩ => ?_)
  obtain ⟨c, rfl, q1⟩ := q1
  cases r1
  exact not_of (wpAny_truthy_bool ⟨.bl (!c), H1, I1, rfl, q1⟩)
end
end L2

namespace L2
open PySem PySem.Spec PyProof.Rows

/-! ### a list, a tuple that is read: tracked, frozen, or an object of the module -/
def SqL (K : PySem.W.Frag) (H : Hp) (a : Addr) (xs : List V) : Prop :=
  Rd H a (.lst xs) ∨
    ∃ (o : Obj) (its : Array Value) (n : Nat), K.lookup a = some o ∧ o.cls = .type "list" ∧ o.dict = none ∧ o.data = .seq its n ∧ its.size ≤ sizeLine ∧ Vals xs its.toList
def SqT (K : PySem.W.Frag) (H : Hp) (a : Addr) (xs : List V) : Prop :=
  Rd H a (.tup xs) ∨
    ∃ (o : Obj) (its : Array Value) (n : Nat), K.lookup a = some o ∧ o.cls = .type "tuple" ∧ o.data = .seq its n ∧ its.size ≤ sizeLine ∧ Vals xs its.toList
def absV : Value → Option V
  | .none => some .non
  | .bool b => some (.bl b)
  | .int i _ => some (.int i)
  | .str x _ => some (.str x)
  | .bytes b _ => some (.byt b)
  | .float b _ => some (.flt b)
  | .ref a => some (.ref a)
  | .type n => some (.ty n)
  | _ => none
theorem RelV.abs {x : V} {u : Value} (r : RelV x u) : absV u = some x := by
  cases x with
  | non => cases r; rfl
  | bl _ => cases r; rfl
  | int _ => obtain ⟨t, rfl⟩ := r; rfl
  | str _ => obtain ⟨t, rfl⟩ := r; rfl
  | byt _ => obtain ⟨t, rfl⟩ := r; rfl
  | flt _ => obtain ⟨t, rfl⟩ := r; rfl
  | ref _ => cases r; rfl
  | ty _ => cases r; rfl
theorem RelV.inj {x y : V} {u : Value} (r : RelV x u) (q : RelV y u) : x = y := Option.some.inj (r.abs.symm.trans q.abs)
theorem Vals.inj : ∀ {xs ys : List V} {us : List Value}, Vals xs us → Vals ys us → xs = ys
  | _, _, _, .nil, .nil => rfl
  | _, _, _, .cons r t, .cons r' t' => by rw [r.inj r', Vals.inj t t']
section
variable {X : Cx} {pins : List (Addr × Obj)} {σ : St} {H : Hp} {s : Shared} {a : Addr} {xs ys : List V}
theorem SqL.of {K : PySem.W.Frag} (h : H a = some (.lst xs)) : SqL K H a xs := .inl (.inl h)
theorem SqT.of {K : PySem.W.Frag} (h : H a = some (.tup xs)) : SqT K H a xs := .inl (.inl h)
theorem Inv.list (I : Inv X pins σ H s) (h : SqL X.K H a xs) : ∃ its : List Value, Vals xs its ∧ PlainL s.heap a its.toArray ∧ xs.length ≤ sizeLine := by
  rcases h with h | ⟨o, its, n, hk, hc, hd, hs, hz, r⟩
  · obtain ⟨z, its, n, r, e⟩ := h.ok I.hok
    exact ⟨its, r, ⟨_, n, e, rfl, rfl, rfl⟩, z⟩
  · refine ⟨its.toList, r, ⟨o, n, I.kIn a o hk, hc, hd, by simpa using hs⟩, ?_⟩
    have e := r.length
    simp only [Array.length_toList] at e
    omega
theorem Inv.tuple (I : Inv X pins σ H s) (h : SqT X.K H a xs) : ∃ its : List Value, Vals xs its ∧ IsTup s.heap a its.toArray ∧ xs.length ≤ sizeLine := by
  rcases h with h | ⟨o, its, n, hk, hc, hs, hz, r⟩
  · obtain ⟨z, its, r, p⟩ := h.ok I.hok
    exact ⟨its, r, p, z⟩
  · refine ⟨its.toList, r, ⟨o, I.kIn a o hk, hc, n, by simpa using hs⟩, ?_⟩
    have e := r.length
    simp only [Array.length_toList] at e
    omega
theorem Inv.list_inj (I : Inv X pins σ H s) (h : SqL X.K H a xs) (h' : SqL X.K H a ys) : xs = ys := by
  obtain ⟨its, r, ⟨o, n, e, _, _, d⟩, _⟩ := I.list h
  obtain ⟨its', r', ⟨o', n', e', _, _, d'⟩, _⟩ := I.list h'
  rw [e] at e'; cases e'
  rw [d] at d'
  injection d' with d1 _
  have : its = its' := by simpa using congrArg Array.toList d1
  subst this
  exact r.inj r'
theorem Inv.tuple_inj (I : Inv X pins σ H s) (h : SqT X.K H a xs) (h' : SqT X.K H a ys) : xs = ys := by
  obtain ⟨its, r, ⟨o, e, _, n, d⟩, _⟩ := I.tuple h
  obtain ⟨its', r', ⟨o', e', _, n', d'⟩, _⟩ := I.tuple h'
  rw [e] at e'; cases e'
  rw [d] at d'
  injection d' with d1 _
  have : its = its' := by simpa using congrArg Array.toList d1
  subst this
  exact r.inj r'
end

/-! ### another wish about exceptions -/
abbrev Cx.wish (X : Cx) (E : Value → Shared → Prop) : Cx := { X with xe := E }
/-- no exception leaves -/
abbrev Cx.nox (X : Cx) : Cx := X.wish fun _ _ => False
theorem Cx.Ok.wish {X : Cx} (ok : X.Ok) (E : Value → Shared → Prop) : (X.wish E).Ok :=
  ⟨ok.mod, ok.kind, ok.glob, ok.blt, ok.above, ok.inj, ok.has, ok.cab, ok.hd, ok.frames, ok.stk, ok.exf, ok.bs, ok.bsz, ok.noex, ok.exfs, ok.funs, ok.frf⟩
theorem Cx.Ok.unwish {X : Cx} {E : Value → Shared → Prop} (ok : (X.wish E).Ok) : X.Ok :=
  ⟨ok.mod, ok.kind, ok.glob, ok.blt, ok.above, ok.inj, ok.has, ok.cab, ok.hd, ok.frames, ok.stk, ok.exf, ok.bs, ok.bsz, ok.noex, ok.exfs, ok.funs, ok.frf⟩
section
variable {X : Cx} {pins : List (Addr × Obj)} {σ : St} {H : Hp} {s : Shared} {E : Value → Shared → Prop}
theorem Inv.wish (I : Inv X pins σ H s) (E : Value → Shared → Prop) : Inv (X.wish E) pins σ H s := ⟨I.ok.wish E, I.os, I.bare, I.base, I.loc, I.cell, I.free, I.freeC, I.pin, I.hok, I.len⟩
theorem Inv.unwish (I : Inv (X.wish E) pins σ H s) : Inv X pins σ H s := ⟨I.ok.unwish, I.os, I.bare, I.base, I.loc, I.cell, I.free, I.freeC, I.pin, I.hok, I.len⟩
theorem SP.unwish {D : Ends} {f : Flow} {s' : Shared} (h : SP (X.wish E) pins D f s') : SP X pins D f s' := by
  cases f with
  | next => obtain ⟨σ', H', I, q⟩ := h; exact ⟨σ', H', I.unwish, q⟩
  | brk => obtain ⟨σ', H', I, q⟩ := h; exact ⟨σ', H', I.unwish, q⟩
  | cont => obtain ⟨σ', H', I, q⟩ := h; exact ⟨σ', H', I.unwish, q⟩
  | ret u => obtain ⟨v, σ', H', I, r, q⟩ := h; exact ⟨v, σ', H', I.unwish, r, q⟩
theorem PSs.nox {st : List Stmt} {t : TS} (h : PSs X.nox st t) : PSs X st t := fun pins s σ H D I hw =>
  wpAny_mono (h pins s σ H D (I.wish _) hw) (fun _ _ q => q.unwish) fun _ _ z => False.elim z
end

/-! ### blocks and small statements -/
section
variable {X : Cx} {st : Stmt} {rest : List Stmt} {t u : TS} {e : Expr} {te : TE} {pos : Pos}
def tNext : TS := fun D σ H => D.nx σ H
def tSeq (t u : TS) : TS := fun D σ H => t { D with nx := u D } σ H
theorem pss_nil : PSs X [] tNext := fun _ _ σ H _ I h => wpAny_execs_nil ⟨σ, H, I, h⟩
theorem pss_cons (h1 : PS X st t) (h2 : PSs X rest u) : PSs X (st :: rest) (tSeq t u) := by
  intro pins s σ H D I h
  refine wpAny_execs_cons (thn (h1 pins s σ H { D with nx := u D } I h) fun f s1 q => ?_)
  cases f with
  | next =>
    obtain ⟨σ', H', I', q⟩ := q
    exact h2 pins s1 σ' H' D I' q
  | ret v => exact q
  | brk => exact q
  | cont => exact q
theorem pss_one (h1 : PS X st t) : PSs X [st] t := by
  intro pins s σ H D I h
  refine wpAny_execs_cons (thn (h1 pins s σ H D I h) fun f s1 q => ?_)
  cases f with
  | next => exact wpAny_execs_nil q
  | ret v => exact q
  | brk => exact q
  | cont => exact q
theorem ps_pass : PS X (.Pass pos) tNext := fun _ _ σ H _ I h => wpAny_Pass ⟨σ, H, I, h⟩
def tRet (te : TE) : TS := fun D σ H => te σ H D.rt
theorem ps_ret (he : PE X e te) : PS X (.Return (some e) pos) (tRet te) := by
  intro pins s σ H D I h
  exact wpAny_Return_some (thn (he pins s σ H _ I h) fun v s1 ⟨x, H1, I1, r1, q1⟩ => ⟨x, σ, H1, I1, r1, q1⟩)
def tIfS (c : TT) (t u : TS) : TS := fun D σ H => c σ H fun b H1 => if b = true then t D σ H1 else u D σ H1
theorem ps_if {c : Expr} {a b : List Stmt} {tc : TT} (hc : PT X c tc) (ha : PSs X a t) (hb : PSs X b u) : PS X (.If c a b pos) (tIfS tc t u) := by
  intro pins s σ H D I h
  refine wpAny_If (thn (hc pins s σ H _ I h) fun d s1 ⟨H1, I1, q1⟩ => ?_)
  cases d with
  | true => exact ha pins s1 σ H1 D I1 q1
  | false => exact hb pins s1 σ H1 D I1 q1
end

/-! ### targets -/
abbrev TG := V → St → Hp → (St → Hp → Prop) → Prop
abbrev TGs := List V → St → Hp → (St → Hp → Prop) → Prop
def PG (X : Cx) (target : Expr) (t : TG) : Prop :=
  ∀ (pins : List (Addr × Obj)) (s : Shared) (σ : St) (H : Hp) (v : V) (u : Value) (Q : St → Hp → Prop), Inv X pins σ H s → RelV v u → t v σ H Q →
    wpAny (model X.prog X.w) X.A (assign target X.env u) (fun _ s' => ∃ σ' H', Inv X pins σ' H' s' ∧ Q σ' H') X.xe s
/-- several targets, one after another -/
def PGs (X : Cx) (ts : List Expr) (t : TGs) : Prop :=
  ∀ (pins : List (Addr × Obj)) (s : Shared) (σ : St) (H : Hp) (vs : List V) (us : List Value) (Q : St → Hp → Prop), Inv X pins σ H s → Vals vs us → t vs σ H Q →
    wpAny (model X.prog X.w) X.A (assignInOrder ((assignEach ts X.env).map (·.2)) us) (fun _ s' => ∃ σ' H', Inv X pins σ' H' s' ∧ Q σ' H') X.xe s
section
variable {X : Cx} {pos : Pos}
def gName (i : Nat) : TG := fun v σ H Q => Q (σ.set i (some v)) H
theorem pg_name {i : Nat} {x : Str} (hN : X.N.Nodup) (hi : X.N[i]? = some x) (hx : Loc X.env.scope x) (hf : X.fn x = true ∨ X.env.scope.names.lookup x = some .local := by first | exact .inl rfl | exact .inr rfl | assumption) : PG X (.Name x pos) (gName i) := by
  intro pins s σ H v u Q I r h
  exact wpAny_assign_Name (store_ok I hN hi hx r (fun s' I' => ⟨_, H, I', h⟩) hf)
def gNil : TGs := fun vs σ H Q => vs = [] ∧ Q σ H
def gCons (t : TG) (u : TGs) : TGs := fun vs σ H Q => ∃ v r, vs = v :: r ∧ t v σ H fun σ' H' => u r σ' H' Q
theorem pgs_nil : PGs X [] gNil := by
  intro pins s σ H vs us Q I r h
  obtain ⟨e, h⟩ := h
  subst e
  cases r
  exact assignInOrder_nil ⟨σ, H, I, h⟩
theorem pgs_cons {e : Expr} {es : List Expr} {t : TG} {u : TGs} (h1 : PG X e t) (h2 : PGs X es u)
    (hs : (assignEach (e :: es) X.env).map (·.2) = assign e X.env :: (assignEach es X.env).map (·.2) := by rfl) : PGs X (e :: es) (gCons t u) := by
  intro pins s σ H vs us Q I r h
  obtain ⟨v, vr, e1, h⟩ := h
  subst e1
  cases r with
  | cons r rr =>
    rw [hs]
    refine assignInOrder_cons (thn (h1 pins s σ H _ _ _ I r h) fun _ s1 ⟨σ1, H1, I1, q1⟩ => ?_)
    exact h2 pins s1 σ1 H1 _ _ Q I1 rr q1
/-- (a, b, ..) = a tuple of that length -/
def gTup (K : PySem.W.Frag) (n : Nat) (t : TGs) : TG := fun v σ H Q => ∃ a xs, v = .ref a ∧ SqT K H a xs ∧ xs.length = n ∧ t xs σ H Q
theorem pg_tup {es : List Expr} {k : Nat} {t : TGs} {n : Nat} (hc : X.calm = true) (h : PGs X es t)
    (hn : (assignEach es X.env).length = n := by rfl) (hst : (assignEach es X.env).findIdx? (·.1) = none := by rfl) : PG X (.Tuple es k pos) (gTup X.K n t) := by
  intro pins s σ H v u Q I r hw
  obtain ⟨a, xs, e1, hq, hl, hw⟩ := hw
  subst e1
  cases r
  obtain ⟨its, rv, ht, hz⟩ := I.tuple hq
  refine assign_Tuple_tuple (I.ok.hd hc) ht (by simp [hn, ← hl, rv.length]) hst fun h' hx => ?_
  have I1 : Inv X pins σ H { s with heap := h' } := I.kept (t' := s.toks) fun b o e => hx b o (Nat.ne_of_lt (Heap.lt_size e)) e
  exact h pins _ σ H xs _ Q I1 (by simpa using rv) hw
/-- target = value -/
def tAsg (te : TE) (g : TG) : TS := fun D σ H => te σ H fun x H1 => g x σ H1 D.nx
/-- name = value -/
theorem ps_set {i : Nat} {x : Str} {e : Expr} {te : TE} {pos' : Pos} (hN : X.N.Nodup) (hi : X.N[i]? = some x) (hx : Loc X.env.scope x) (he : PE X e te) (hs : swapsWith e (some (.Name x pos')) pos.line X.env = pure false := by rfl) (hf : X.fn x = true ∨ X.env.scope.names.lookup x = some .local := by first | exact .inl rfl | exact .inr rfl | assumption) :
    PS X (.Assign [.Name x pos'] e pos) (tAsg te (gName i)) := by
  intro pins s σ H D I h
  refine wpAny_Assign_Name (thn (he pins s σ H _ I h) fun v s1 ⟨y, H1, I1, r1, q1⟩ => ?_) hs
  exact store_ok I1 hN hi hx r1 (fun s2 I2 => ⟨_, H1, I2, q1⟩) hf
end

/-! ### while -/
section
variable {X : Cx} {pos : Pos}
end

/-! ### what a loop or a comprehension walks -/
/-- at turn i: it yields x (the heap may grow), or it stops -/
structure It where
  go : Nat → Hp → Prop
  yld : Nat → Hp → V → Hp → Prop
  stop : Nat → Hp → Prop
/-- the iterator's own objects may turn: they are not the frame's, not pinned, younger than the entry (or a comprehension's own) -/
def FpOk (X : Cx) (pins : List (Addr × Obj)) (H : Hp) (b : Addr) : Prop :=
  H b = none ∧ b ≠ X.env.locals ∧ b ∉ X.fs ∧ (b ∈ X.ex ∨ X.s₀.heap.objs.size ≤ b) ∧ (∀ x c, X.env.cells.lookup x = some c → c ≠ b) ∧ ∀ p ∈ X.pn ++ pins, p.1 ≠ b
theorem Inv.fpOk {X : Cx} {pins : List (Addr × Obj)} {σ : St} {H H' : Hp} {s : Shared} {b : Addr} (I : Inv X pins σ H s) (hb : s.heap.objs.size ≤ b) (hn : H' b = none) : FpOk X pins H' b := by
  refine ⟨hn, Nat.ne_of_gt (Nat.lt_of_lt_of_le I.lt hb), I.nofs hb, .inr (Nat.le_trans I.sz hb), fun x c e z => ?_, fun p hp z => ?_⟩
  · obtain ⟨v, q⟩ := I.cell x c e
    exact absurd (Nat.lt_of_lt_of_le q.lt (by rw [z]; exact hb)) (Nat.lt_irrefl _)
  · exact absurd (Nat.lt_of_lt_of_le (Heap.lt_size (I.pin p hp).1) (by rw [z]; exact hb)) (Nat.lt_irrefl _)
structure Turn (P : Program) (w : World) (K : PySem.W.Frag) (tg : Expr) (J : It) (fp : List Addr) (it : Addr) (tn : Nat → Heap → Prop) : Prop where
  mem : it ∈ fp
  obj : ∀ i h, tn i h → ∀ b ∈ fp, ∃ o, h.get? b = some o ∧ ∀ v, o.data ≠ .cell v
  keep : ∀ i h h', tn i h → (∀ b ∈ fp, ∀ o, h.get? b = some o → h'.get? b = some o) → tn i h'
  item : ∀ (X : Cx), X.prog = P → X.w = w → X.K = K → X.calm = true → ∀ (i : Nat) (pins : List (Addr × Obj)) (s : Shared) (σ : St) (H : Hp) (E : Value → Shared → Prop), Inv X pins σ H s → (∀ b ∈ fp, FpOk X pins H b) → tn i s.heap → J.go i H →
    wpAny (model P w) X.A (pyNext (.ref it)) (fun r s1 => ∃ u, r = some u ∧
      wpAny (model P w) X.A (letOwnedTupleGo tg (.ref it) u) (fun _ s2 => ∃ x H', Inv X pins σ H' s2 ∧ RelV x u ∧ J.yld i H x H' ∧ tn (i + 1) s2.heap ∧ ∀ b ∈ fp, H' b = none) E s1) E s
  done : ∀ (X : Cx), X.prog = P → X.w = w → X.K = K → X.calm = true → ∀ (i : Nat) (pins : List (Addr × Obj)) (s : Shared) (σ : St) (H : Hp) (E : Value → Shared → Prop), Inv X pins σ H s → (∀ b ∈ fp, FpOk X pins H b) → tn i s.heap → J.stop i H →
    wpAny (model P w) X.A (pyNext (.ref it)) (fun r s1 => r = none ∧ Inv X pins σ H s1) E s
  self : ∀ (A : Around) (i : Nat) (s : Shared) (Q : Value → Shared → Prop) (E : Value → Shared → Prop), tn i s.heap → Q (.ref it) s → wpAny (model P w) A (pyIter (.ref it)) Q E s
abbrev TI := St → Hp → (It → Hp → Prop) → Prop
/-- an iterator has come -/
def PIE (X : Cx) (pins : List (Addr × Obj)) (σ : St) (tg : Expr) (R : It → Hp → Prop) (itv : Value) (s2 : Shared) : Prop :=
  ∃ (it : Addr) (fp : List Addr) (tn : Nat → Heap → Prop) (J : It) (H' : Hp), itv = .ref it ∧ Inv X pins σ H' s2 ∧ Turn X.prog X.w X.K tg J fp it tn ∧ tn 0 s2.heap ∧ (∀ b ∈ fp, FpOk X pins H' b) ∧ R J H'
def PI (X : Cx) (tg iter : Expr) (wi : TI) : Prop :=
  ∀ (pins : List (Addr × Obj)) (s : Shared) (σ : St) (H : Hp) (R : It → Hp → Prop), Inv X pins σ H s → wi σ H R →
    wpAny (model X.prog X.w) X.A (eval iter X.env) (fun v s1 => wpAny (model X.prog X.w) X.A (pyIter v) (PIE X pins σ tg R) X.xe s1) X.xe s

/-- the step ahead of the store is nothing for an iterator that keeps no tuple -/
theorem go_of {M : Model} {A : Around} {E : Value → Shared → Prop} {s : Shared} {tg : Expr} {it : Addr} {u : Value} {o : Obj} {n : String} {vs : Array Value} {Q : Unit → Shared → Prop} (ho : s.heap.get? it = some o) (hc : o.cls = .type n) (hd : o.data = .fields vs)
    (hn : ["enumerate", "zip", "dict_itemiterator", "dict_reverseitemiterator", "odict_iterator", "itertools.zip_longest", "itertools.pairwise"].contains n = false) (hQ : Q () s) : wpAny M A (letOwnedTupleGo tg (.ref it) u) Q E s := by
  unfold letOwnedTupleGo
  cases tg <;> first
    | exact wpAny_pure hQ
    | (cases u <;> first
        | exact wpAny_pure hQ
        | (refine wpAny_bind (wpAny_load ho ?_)
           rw [hc, hd]
           show wpAny M A (if (["enumerate", "zip", "dict_itemiterator", "dict_reverseitemiterator", "odict_iterator", "itertools.zip_longest", "itertools.pairwise"].contains n && vs[0]? == some (rawInt _)) = true then _ else _) Q E s
           rw [if_neg (by intro h; rw [hn, Bool.false_and] at h; cases h)]
           exact wpAny_pure hQ))

/-- the list at a, as it stands at each turn (a loop may append to it) -/
def Itl (K : PySem.W.Frag) (a : Addr) : It :=
  ⟨fun i H => ∃ xs x, SqL K H a xs ∧ xs[i]? = some x, fun i H x H' => H' = H ∧ ∀ xs, SqL K H a xs → xs[i]? = some x, fun i H => ∃ xs, SqL K H a xs ∧ xs.length ≤ i⟩
theorem turn_list {P : Program} {w : World} {K : PySem.W.Frag} {tg : Expr} (a it : Addr) : Turn P w K tg (Itl K a) [it] it (fun i h => h.IsListIter it a i) where
  mem := by simp
  obj := fun i h st b hb => by
    have e : b = it := by simpa using hb
    subst e
    obtain ⟨o, e, c, d⟩ := st
    exact ⟨o, e, fun v z => by rw [d] at z; cases z⟩
  keep := fun i h h' st k => st.at fun o e => k it (by simp) o e
  item := by
    intro X hP hw hK hc i pins s σ H E I hf st hg
    subst hP hw hK
    obtain ⟨xs, x, hq, hx⟩ := hg
    obtain ⟨its, rv, p, hz⟩ := I.list hq
    obtain ⟨u, hu, ru⟩ := rv.get hx
    obtain ⟨f0, f1, f2, f3, f4, f5⟩ := hf it (by simp)
    refine wpAny_pyNext_list_item st p.isList (x := u) (by simpa using hu) fun h' st' sb => ?_
    have I1 : Inv X pins σ H { s with heap := h' } := I.turned (t' := s.toks) (fun b o hb e => (sb.2 b hb).trans e) f0 f1 f3 f4 f5
    obtain ⟨o, e, c, d⟩ := id st'
    exact ⟨u, rfl, go_of (s := { s with heap := h' }) e c d (by decide) ⟨x, H, I1, ru, ⟨rfl, fun ys hy => by rw [I.list_inj hy hq]; exact hx⟩, st', fun b hb => (hf b hb).1⟩⟩
  done := by
    intro X hP hw hK hc i pins s σ H E I hf st hg
    subst hP hw hK
    obtain ⟨xs, hq, hx⟩ := hg
    obtain ⟨its, rv, p, hz⟩ := I.list hq
    obtain ⟨f0, f1, f2, f3, f4, f5⟩ := hf it (by simp)
    have hl := rv.length
    exact wpAny_pyNext_list_end (I.ok.hd hc) st p.isList (by simp; omega) fun h' eb => ⟨rfl, I.turned (t' := s.toks) (fun b o hb e => eb b o hb e) f0 f1 f3 f4 f5⟩
  self := fun _ _ _ _ _ st h => wpAny_pyIter_listiter st h
end L2

namespace L2
open PySem PySem.Spec PyProof.Rows
section
variable {X : Cx} {tg : Expr}
def iList (K : PySem.W.Frag) (tl : TE) : TI := fun σ H R => tl σ H fun x H1 => ∃ a, x = .ref a ∧ (∃ xs, SqL K H1 a xs) ∧ R (Itl K a) H1
theorem pi_list {l : Expr} {tl : TE} (hl : PE X l tl) : PI X tg l (iList X.K tl) := by
  intro pins s σ H R I h
  refine thn (hl pins s σ H _ I h) fun v s1 ⟨x, H1, I1, r1, q1⟩ => ?_
  obtain ⟨a, e, ⟨xs, hq⟩, q⟩ := q1
  subst e
  cases r1
  obtain ⟨its, rv, p, hz⟩ := I1.list hq
  refine wpAny_pyIter_list p.isList ?_
  refine ⟨s1.heap.objs.size, [s1.heap.objs.size], _, _, H1, rfl, I1.kept (t' := s1.toks) fun b o e => Heap.get?_push_of_some _ e, turn_list a _, ⟨_, Heap.get?_push_size _ rfl, rfl, rfl⟩, fun b hb => ?_, q⟩
  have e : b = s1.heap.objs.size := by simpa using hb
  subst e
  exact I1.fpOk (Nat.le_refl _) (I1.hok.fresh (Nat.le_refl _))

/-! ### for -/
/-- W: the invariant by the turn and a measure; N: what the body is to reach -/
def tFor (wi : TI) (g : TG) (tb : TS) : TS := fun D σ H => wi σ H fun J H1 => ∃ W : Nat → Nat → St → Hp → Prop, (∃ m, W 0 m σ H1) ∧ ∀ i m σ H, W i m σ H →
  (J.stop i H ∧ D.nx σ H) ∨ (J.go i H ∧ ∃ N : St → Hp → Prop, (∀ σ' H', N σ' H' → ∃ m', m' < m ∧ W (i + 1) m' σ' H') ∧ ∀ x H', J.yld i H x H' → g x σ H' fun σ2 H2 => tb { D with nx := N, ct := N, bk := D.nx } σ2 H2)
/-- the records at fp as they stand -/
def pinsAt (fp : List Addr) (h : Heap) : List (Addr × Obj) := fp.filterMap fun b => (h.get? b).map fun o => (b, o)
theorem mem_pinsAt {fp : List Addr} {h : Heap} {b : Addr} {o : Obj} (hb : b ∈ fp) (e : h.get? b = some o) : (b, o) ∈ pinsAt fp h := List.mem_filterMap.mpr ⟨b, hb, by rw [e]; rfl⟩
theorem of_pinsAt {fp : List Addr} {h : Heap} {p : Addr × Obj} (hp : p ∈ pinsAt fp h) : p.1 ∈ fp ∧ h.get? p.1 = some p.2 := by
  obtain ⟨b, hb, e⟩ := List.mem_filterMap.mp hp
  cases q : h.get? b with
  | none => rw [q] at e; cases e
  | some o =>
    rw [q] at e
    have e' : (b, o) = p := Option.some.inj e
    subst e'
    exact ⟨hb, q⟩
theorem Inv.pinned {pins : List (Addr × Obj)} {σ : St} {H : Hp} {s : Shared} {fp : List Addr} (I : Inv X pins σ H s) (hf : ∀ b ∈ fp, FpOk X pins H b) (ho : ∀ b ∈ fp, ∃ o, s.heap.get? b = some o ∧ ∀ v, o.data ≠ .cell v) : Inv X (pins ++ pinsAt fp s.heap) σ H s :=
  I.pins_of fun p hp => (List.mem_append.mp hp).elim (fun z => I.pin p (List.mem_append_right _ z)) fun z => by
    obtain ⟨hb, e⟩ := of_pinsAt z
    obtain ⟨f0, f1, f2, _⟩ := hf p.1 hb
    obtain ⟨o, e', d⟩ := ho p.1 hb
    rw [e] at e'; cases e'
    exact ⟨e, f0, f1, f2, d⟩
theorem Inv.unpinned {pins pl : List (Addr × Obj)} {σ : St} {H : Hp} {s : Shared} (I : Inv X (pins ++ pl) σ H s) : Inv X pins σ H s := I.pins_of fun p hp => I.pin p (List.mem_append_right _ (List.mem_append_left _ hp))
theorem ps_for {iter : Expr} {body : List Stmt} {wi : TI} {g : TG} {tb : TS} {pos : Pos} (hp : PassesOwn (model X.prog X.w) X.A X.env X.xe) (hc : X.calm = true) (hi : PI X tg iter wi) (hg : PG X tg g) (hb : PSs X body tb)
    (hs : ∀ x, foldedSetIterable iter X.env x = pure x := by intro _; rfl) : PS X (.For tg iter body [] pos) (tFor wi g tb) := by
  intro pins s σ H D I h
  refine wpAny_For (thn (hi pins s σ H _ I h) fun v s1 h1 => thn h1 fun itv s2 h2 => ?_) hs
  obtain ⟨it, fp, tn, J, H2, e, I2, T, st2, f2, W, ⟨m0, w0⟩, turn⟩ := h2
  subst e
  -- what stays true of the iterator's objects through the loop
  have stat : ∀ {H' : Hp}, (∀ b ∈ fp, H' b = none) → ∀ b ∈ fp, FpOk X pins H' b := fun hn b hb => ⟨hn b hb, (f2 b hb).2⟩
  refine codeAny_forLoop_any (fun n s' => ∃ i σ' H', Inv X pins σ' H' s' ∧ tn i s'.heap ∧ (∀ b ∈ fp, H' b = none) ∧ W i n σ' H') ?_ m0 ⟨0, σ, H2, I2, st2, fun b hb => (f2 b hb).1, w0⟩
  rintro n s3 ⟨i, σ3, H3, I3, st3, fr3, w3⟩
  rcases turn i n σ3 H3 w3 with ⟨stop, qn⟩ | ⟨go, N, hN, step⟩
  · refine wpAny_passesOwn hp (thn (T.done X rfl rfl rfl hc i pins s3 σ3 H3 X.xe I3 (stat fr3) st3 stop) fun r s4 ⟨hr, I4⟩ => ?_)
    subst hr
    exact wpAny_execs_nil ⟨σ3, H3, I4, qn⟩
  · refine wpAny_passesOwn hp (thn (T.item X rfl rfl rfl hc i pins s3 σ3 H3 X.xe I3 (stat fr3) st3 go) fun r s4 ⟨u, hr, h4⟩ => ?_)
    subst hr
    refine wpAny_passesOwn hp (thn h4 fun _ s5 ⟨x, H5, I5, r5, y5, st5, fr5⟩ => ?_)
    have I5' := I5.pinned (stat fr5) (T.obj _ _ st5)
    refine wpAny_passesOwn hp (thn (hg _ s5 σ3 H5 x u _ I5' r5 (step x H5 y5)) fun _ s6 ⟨σ6, H6, I6, q6⟩ => ?_)
    refine wpAny_passesOwn hp (thn (hb _ s6 σ6 H6 _ I6 q6) fun f s7 q7 => ?_)
    have again : ∀ {σ7 : St} {H7 : Hp}, Inv X (pins ++ pinsAt fp s5.heap) σ7 H7 s7 → N σ7 H7 → ∃ m, m < n ∧ ∃ i σ' H', Inv X pins σ' H' s7 ∧ tn i s7.heap ∧ (∀ b ∈ fp, H' b = none) ∧ W i m σ' H' := fun {σ7 H7} I7 n7 => by
      obtain ⟨m', hm, w7⟩ := hN σ7 H7 n7
      refine ⟨m', hm, i + 1, σ7, H7, I7.unpinned, T.keep _ _ _ st5 fun b hb o e => (I7.pin (b, o) (List.mem_append_right _ (List.mem_append_right _ (mem_pinsAt hb e)))).1, fun b hb => ?_, w7⟩
      obtain ⟨o, e, d⟩ := T.obj _ _ st5 b hb
      exact (I7.pin (b, o) (List.mem_append_right _ (List.mem_append_right _ (mem_pinsAt hb e)))).2.1
    cases f with
    | next => obtain ⟨σ7, H7, I7, n7⟩ := q7; exact again I7 n7
    | cont => obtain ⟨σ7, H7, I7, n7⟩ := q7; exact again I7 n7
    | brk => obtain ⟨σ7, H7, I7, q7⟩ := q7; exact ⟨σ7, H7, I7.unpinned, q7⟩
    | ret v => obtain ⟨x7, σ7, H7, I7, r7, q7⟩ := q7; exact ⟨x7, σ7, H7, I7.unpinned, r7, q7⟩
end

/-! ### the forms one uses -/
end L2

namespace L2
open PySem PySem.Spec PyProof.Rows

abbrev R2 := V → V → Hp → VK → Prop
/-- a two-place operation on values: f is binaryOp op, inplaceOp op or compareOp op -/
def OpR (X : Cx) (f : Value → Value → Sem Value) (r : R2) : Prop :=
  ∀ (pins : List (Addr × Obj)) (s : Shared) (σ : St) (H : Hp) (x y : V) (v u : Value) (Q : VK), Inv X pins σ H s → RelV x v → RelV y u → r x y H Q →
    wpAny (model X.prog X.w) X.A (f v u) (EP X pins σ Q) X.xe s
/-- a one-place operation -/
def UnR (X : Cx) (f : Value → Sem Value) (r : V → Hp → VK → Prop) : Prop :=
  ∀ (pins : List (Addr × Obj)) (s : Shared) (σ : St) (H : Hp) (x : V) (v : Value) (Q : VK), Inv X pins σ H s → RelV x v → r x H Q →
    wpAny (model X.prog X.w) X.A (f v) (EP X pins σ Q) X.xe s
/-- a call of a value that is known (a builtin, a type) with values -/
def CallR (X : Cx) (f : Value) (r : List V → Hp → VK → Prop) : Prop :=
  ∀ (pins : List (Addr × Obj)) (s : Shared) (σ : St) (H : Hp) (xs : List V) (us : List Value) (Q : VK), Inv X pins σ H s → Vals xs us → r xs H Q →
    wpAny (model X.prog X.w) X.A (call f us) (EP X pins σ Q) X.xe s

def tOp (r : R2) (ta tb : TE) : TE := fun σ H Q => ta σ H fun x H1 => tb σ H1 fun y H2 => r x y H2 Q
def tUn (r : V → Hp → VK → Prop) (ta : TE) : TE := fun σ H Q => ta σ H fun x H1 => r x H1 Q
/-- ints in, under C, and a value out -/
def rI (C : Int → Int → Prop) (g : Int → Int → V) : R2 := fun x y H Q => ∃ i j, x = .int i ∧ y = .int j ∧ C i j ∧ Q (g i j) H
def rI0 (g : Int → Int → V) : R2 := fun x y H Q => ∃ i j, x = .int i ∧ y = .int j ∧ Q (g i j) H
def rU (g : Int → V) : V → Hp → VK → Prop := fun x H Q => ∃ i, x = .int i ∧ Q (g i) H

section
variable {X : Cx} {a b c : Expr} {ta tb tc : TE} {pos : Pos}

theorem binT (ha : PE X a ta) (hb : PE X b tb) {pins : List (Addr × Obj)} {s : Shared} {σ : St} {H : Hp} {R : V → V → Hp → Prop} (I : Inv X pins σ H s)
    (h : ta σ H fun x H1 => tb σ H1 fun y H2 => R x y H2) {Q : Value → Shared → Prop} {f : Value → Value → Sem Value}
    (hf : ∀ v u s2 x y H2, Inv X pins σ H2 s2 → RelV x v → RelV y u → R x y H2 → wpAny (model X.prog X.w) X.A (f v u) Q X.xe s2) :
    wpAny (model X.prog X.w) X.A (eval a X.env) (fun v s₁ => wpAny (model X.prog X.w) X.A (eval b X.env) (fun u s₂ => wpAny (model X.prog X.w) X.A (f v u) Q X.xe s₂) X.xe s₁) X.xe s := by
  refine thn (ha pins s σ H _ I h) fun v s1 ⟨x, H1, I1, r1, q1⟩ => ?_
  refine thn (hb pins s1 σ H1 _ I1 q1) fun u s2 ⟨y, H2, I2, r2, q2⟩ => ?_
  exact hf v u s2 x y H2 I2 r1 r2 q2

theorem pe_op {op : Operator} {r : R2} (ho : OpR X (binaryOp op) r) (ha : PE X a ta) (hb : PE X b tb) : PE X (.BinOp a op b pos) (tOp r ta tb) := by
  intro pins s σ H Q I h
  exact wpAny_BinOp (binT ha hb I h fun v u s2 x y H2 I2 rx ry q => ho pins s2 σ H2 x y v u Q I2 rx ry q)
theorem pe_un {op : UnaryOp} {r : V → Hp → VK → Prop} (ho : UnR X (unaryOp op) r) (ha : PE X a ta) : PE X (.UnaryOp op a pos) (tUn r ta) := by
  intro pins s σ H Q I h
  exact UnaryOp_ (thn (ha pins s σ H _ I h) fun v s1 ⟨x, H1, I1, r1, q1⟩ => ho pins s1 σ H1 x v Q I1 r1 q1)

/-! ### ints -/
theorem opI {f : Value → Value → Sem Value} {C : Int → Int → Prop} {g : Int → Int → Int}
    (rule : ∀ (i j : Int) (t u : Tok) (s : Shared) (Q : Value → Shared → Prop) (E : Value → Shared → Prop), C i j → Q (.int (g i j) s.toks) { s with toks := s.toks + 1 } → wpAny (model X.prog X.w) X.A (f (.int i t) (.int j u)) Q E s) :
    OpR X f (rI C fun i j => .int (g i j)) := by
  intro pins s σ H x y v u Q I rx ry h
  obtain ⟨i, j, rfl, rfl, hc, q⟩ := h
  obtain ⟨t, rfl⟩ := rx
  obtain ⟨t', rfl⟩ := ry
  exact rule i j t t' s _ _ hc ⟨.int (g i j), H, I.tok _, ⟨_, rfl⟩, q⟩
theorem opI0 {f : Value → Value → Sem Value} {g : Int → Int → Int}
    (rule : ∀ (i j : Int) (t u : Tok) (s : Shared) (Q : Value → Shared → Prop) (E : Value → Shared → Prop), Q (.int (g i j) s.toks) { s with toks := s.toks + 1 } → wpAny (model X.prog X.w) X.A (f (.int i t) (.int j u)) Q E s) :
    OpR X f (rI0 fun i j => .int (g i j)) := by
  intro pins s σ H x y v u Q I rx ry h
  obtain ⟨i, j, rfl, rfl, q⟩ := h
  obtain ⟨t, rfl⟩ := rx
  obtain ⟨t', rfl⟩ := ry
  exact rule i j t t' s _ _ ⟨.int (g i j), H, I.tok _, ⟨_, rfl⟩, q⟩
theorem opB0 {f : Value → Value → Sem Value} {g : Int → Int → Bool}
    (rule : ∀ (i j : Int) (t u : Tok) (s : Shared) (Q : Value → Shared → Prop) (E : Value → Shared → Prop), Q (.bool (g i j)) s → wpAny (model X.prog X.w) X.A (f (.int i t) (.int j u)) Q E s) :
    OpR X f (rI0 fun i j => .bl (g i j)) := by
  intro pins s σ H x y v u Q I rx ry h
  obtain ⟨i, j, rfl, rfl, q⟩ := h
  obtain ⟨t, rfl⟩ := rx
  obtain ⟨t', rfl⟩ := ry
  exact rule i j t t' s _ _ ⟨.bl (g i j), H, I, rfl, q⟩

def CPow (i j : Int) : Prop := 0 ≤ j ∧ j ≤ 1000000 ∧ i.natAbs < 2 ^ 64
def CMul (i j : Int) : Prop := (-(2 ^ 64) < i ∧ i < 2 ^ 64) ∨ (-(2 ^ 64) < j ∧ j < 2 ^ 64)
theorem CMul.ok {i j : Int} (h : CMul i j) : IntMulOk i j := by
  rcases h with ⟨h1, h2⟩ | ⟨h1, h2⟩
  · exact .of_left (intBits_le_64 h1 h2)
  · exact .of_right (intBits_le_64 h1 h2)

theorem op_add : OpR X (binaryOp .Add) (rI0 fun i j => .int (i + j)) := opI0 fun _ _ _ _ _ _ _ q => add_int q
theorem op_sub : OpR X (binaryOp .Sub) (rI0 fun i j => .int (i - j)) := opI0 fun _ _ _ _ _ _ _ q => sub_int q
/-- % by a positive divisor of any size -/
theorem op_mod : OpR X (binaryOp .Mod) (rI (fun _ j => 0 < j) fun i j => .int (i % j)) := opI fun i j _ _ _ _ _ hc q => by
  have h1 : (0 : Int) < j := hc
  exact mod_int' (by omega) (by rw [Int.fmod_eq_emod_of_nonneg i (by omega)]; exact q)
theorem op_pow : OpR X (binaryOp .Pow) (rI CPow fun i j => .int (i ^ j.toNat)) := opI fun _ _ _ _ _ _ _ hc q => pow_int_small hc.1 hc.2.1 hc.2.2 q


theorem unI {f : Value → Sem Value} {g : Int → Int}
    (rule : ∀ (i : Int) (t : Tok) (s : Shared) (Q : Value → Shared → Prop) (E : Value → Shared → Prop), Q (.int (g i) s.toks) { s with toks := s.toks + 1 } → wpAny (model X.prog X.w) X.A (f (.int i t)) Q E s) :
    UnR X f (rU fun i => .int (g i)) := by
  intro pins s σ H x v Q I rx h
  obtain ⟨i, rfl, q⟩ := h
  obtain ⟨t, rfl⟩ := rx
  exact rule i t s _ _ ⟨.int (g i), H, I.tok _, ⟨_, rfl⟩, q⟩
theorem un_neg : UnR X (unaryOp .USub) (rU fun i => .int (-i)) := unI fun _ _ _ _ _ q => neg_int q

/-! ### bools among ints: n += (a < b) -/
end

/-! ### comparisons -/


section
variable {X : Cx} {a b c : Expr} {ta tb tc : TE} {pos : Pos}
theorem fin_bl {pins : List (Addr × Obj)} {σ : St} {H : Hp} {s : Shared} {Q : VK} {k k' : Bool} (I : Inv X pins σ H s) (q : Q (.bl k) H) (e : k = k') : EP X pins σ Q (.bool k') s := by
  subst e
  exact ⟨.bl k, H, I, rfl, q⟩

theorem op_lt : OpR X (compareOp .Lt) (rI0 fun i j => .bl (decide (i < j))) := opB0 fun _ _ _ _ _ _ _ q => lt_int q
theorem op_le : OpR X (compareOp .LtE) (rI0 fun i j => .bl (decide (i ≤ j))) := opB0 fun _ _ _ _ _ _ _ q => le_int q
theorem op_gt : OpR X (compareOp .Gt) (rI0 fun i j => .bl (decide (j < i))) := opB0 fun _ _ _ _ _ _ _ q => gt_int q

/-- is None, is not None: the right side a value none -/
theorem op_isN : OpR X (compareOp .Is) (fun x y H Q => y = .non ∧ Q (.bl (decide (x = .non))) H) := by
  intro pins s σ H x y v u Q I rx ry h
  obtain ⟨rfl, q⟩ := h
  cases ry
  refine is_none_gen (fin_bl I q ?_)
  cases x <;> first
    | (cases rx; rfl)
    | (obtain ⟨t, rfl⟩ := rx; rfl)

theorem op_notin_str : OpR X (compareOp .NotIn) (fun x y H Q => ∃ i j, x = .str i ∧ y = .str j ∧ Q (.bl (!(!(Builtin.Str.occurrences j i 0 j.length 1).isEmpty))) H) := by
  intro pins s σ H x y v u Q I rx ry h
  obtain ⟨i, j, rfl, rfl, q⟩ := h
  obtain ⟨t, rfl⟩ := rx
  obtain ⟨t', rfl⟩ := ry
  exact notIn_str (fin_bl I q rfl)


theorem nomark (b : Expr) {op : CmpOp} (h : op ≠ .In := by decide) (h2 : op ≠ .NotIn := by decide) : behindInMarks op b = false := by
  have e1 : (op == CmpOp.In) = false := by cases op <;> first | rfl | exact absurd rfl h
  have e2 : (op == CmpOp.NotIn) = false := by cases op <;> first | rfl | exact absurd rfl h2
  cases b <;> simp [behindInMarks, e1, e2]
/-- a comparison as a value; hm: nomark b, or (for in, not in) by with_unfolding_all rfl -/
theorem pe_cmpR {op : CmpOp} {r : R2} (ho : OpR X (compareOp op) r) (ha : PE X a ta) (hb : PE X b tb) (hm : behindInMarks op b = false) : PE X (.Compare a [op] [b] pos) (tOp r ta tb) := by
  intro pins s σ H Q I h
  exact wpAny_Compare1 (binT ha hb I h fun v u s2 x y H2 I2 rx ry q => ho pins s2 σ H2 x y v u Q I2 rx ry q) hm
/-- a reading of a value as a test -/
def tTest (t : TE) : TT := fun σ H Q => t σ H fun x H' => ∃ k, x = .bl k ∧ Q k H'
theorem pt_cmpR {op : CmpOp} {r : R2} (ho : OpR X (compareOp op) r) (ha : PE X a ta) (hb : PE X b tb) (hm : behindInMarks op b = false) : PT X (.Compare a [op] [b] pos) (tTest (tOp r ta tb)) := by
  intro pins s σ H Q I h
  refine wpAny_isTrue_Compare1 (thn (ha pins s σ H _ I h) fun v s1 ⟨x, H1, I1, r1, q1⟩ => thn (hb pins s1 σ H1 _ I1 q1) fun u s2 ⟨y, H2, I2, r2, q2⟩ =>
    thn (ho pins s2 σ H2 x y v u _ I2 r1 r2 q2) fun c s3 ⟨z, H3, I3, r3, k, e, q3⟩ => ?_) hm
  subst e
  cases r3
  exact wpAny_truthy_bool ⟨H3, I3, q3⟩
/-- a op1 b op2 c -/
def tChain (r r' : R2) (ta tb tc : TE) : TE := fun σ H Q => ta σ H fun x H1 => tb σ H1 fun y H2 => r x y H2 fun z H3 => ∃ k, z = .bl k ∧
  (if k = true then tc σ H3 fun w' H4 => r' y w' H4 Q else Q (.bl false) H3)
theorem pt_chain {op op' : CmpOp} {r r' : R2} (ho : OpR X (compareOp op) r) (ho' : OpR X (compareOp op') r') (ha : PE X a ta) (hb : PE X b tb) (hc : PE X c tc)
    (hm : lastMarks [op, op'] [b, c] = false := by with_unfolding_all rfl) : PT X (.Compare a [op, op'] [b, c] pos) (tTest (tChain r r' ta tb tc)) := by
  intro pins s σ H Q I h
  refine isTrue_chain (thn (ha pins s σ H _ I h) fun v s1 ⟨x, H1, I1, r1, q1⟩ => test_link (thn (hb pins s1 σ H1 _ I1 q1) fun u s2 ⟨y, H2, I2, r2, q2⟩ =>
    thn (ho pins s2 σ H2 x y v u _ I2 r1 r2 q2) fun d s3 ⟨z, H3, I3, r3, k, e, q3⟩ => ?_)) hm
  subst e
  cases r3
  refine wpAny_truthy_bool ?_
  cases k with
  | false =>
    obtain ⟨k', e', q'⟩ := q3
    cases e'
    exact ite_ff ⟨H3, I3, q'⟩
  | true =>
    refine ite_tt (test_last (thn (hc pins s3 σ H3 _ I3 q3) fun w' s4 ⟨z', H4, I4, r4, q4⟩ => thn (ho' pins s4 σ H4 y z' u w' _ I4 r2 r4 q4) fun d' s5 ⟨z2, H5, I5, r5, k2, e2, q5⟩ => ?_))
    subst e2
    cases r5
    exact wpAny_truthy_bool ⟨H5, I5, q5⟩

/-! ### truth -/
theorem line63 : (sizeLine : Nat) < 2 ^ 63 := by rw [sizeLine_eq]; decide

/-! ### strs and bytes -/
theorem op_add_str : OpR X (binaryOp .Add) (fun x y H Q => ∃ i j, x = .str i ∧ y = .str j ∧ i.length + j.length ≤ sizeLine ∧ Q (.str (i ++ j)) H) := by
  intro pins s σ H x y v u Q I rx ry h
  obtain ⟨i, j, rfl, rfl, hz, q⟩ := h
  obtain ⟨t, rfl⟩ := rx
  obtain ⟨t', rfl⟩ := ry
  exact add_str (fun t' tk => ⟨.str (i ++ j), H, I.tok _, ⟨_, rfl⟩, q⟩) hz


/-! ### scalar builtins, by CallR -/
theorem vals1 {x : V} {us : List Value} (r : Vals [x] us) : ∃ u, us = [u] ∧ RelV x u := by
  cases r with
  | cons r1 r2 => cases r2; exact ⟨_, rfl, r1⟩
theorem vals2 {x y : V} {us : List Value} (r : Vals [x, y] us) : ∃ u w', us = [u, w'] ∧ RelV x u ∧ RelV y w' := by
  cases r with
  | cons r1 r2 =>
    cases r2 with
    | cons r3 r4 => cases r4; exact ⟨_, _, rfl, r1, r3⟩
theorem call_str_int : CallR X (.type "str") (fun xs H Q => ∃ i, xs = [.int i] ∧ i.natAbs.log2 < 1920 ∧ Q (.str (toString i)) H) := by
  intro pins s σ H xs us Q I r h
  obtain ⟨i, rfl, hz, q⟩ := h
  obtain ⟨u, rfl, t, rfl⟩ := vals1 r
  exact PySem.P.str_of_int hz ⟨.str _, H, I.tok _, ⟨_, rfl⟩, q⟩
end
end L2

namespace L2
open PySem PySem.Spec PyProof.Rows

/-! ### an instance, its attributes a map -/
structure ObjM (h : Heap) (x dx C : Addr) (mA : Str → Option Value) : Prop where
  obj : h.get? x = some (PySem.W.instObj C dx)
  ns : h.Ns1 dx mA
  ne : dx ≠ x



section
variable {prog : Program} {w : World} {A : Around} {E : Value → Shared → Prop} {s : Shared} {K : PySem.W.Frag} {x dx C f : Addr} {mA : Str → Option Value} {name : Str} {v : Value}





end

/-! ### the attributes as a list of pairs -/


section
variable {P : Program} {w : World} {H H' : Hp} {h h' : Heap} {a C dx : Addr} {fs fs' : List (Str × V)}
end

/-! ### what of the text a class must have -/
structure Cls (K : PySem.W.Frag) (C : Addr) : Prop where
  pg : PySem.W.plainGet K C Str.empty = true
  hd : PySem.W.hasDictIn K C = true
  po : PySem.W.plainOver K C = true
  sa : PySem.W.findIn K (.ref C) "__setattr__" = some (some (.builtin "object.__setattr__"))
/-- no class of it has the name -/
def NoAttr (K : PySem.W.Frag) (C : Addr) (f : Str) : Prop := PySem.W.findIn K (.ref C) f = some none
/-- a constant of the class -/
structure Con (K : PySem.W.Frag) (C : Addr) (f : Str) (v : V) (u : Value) : Prop where
  at_ : PySem.W.findIn K (.ref C) f = some (some u)
  rel : RelV v u
  get : PySem.W.specialIn K u "__get__" = some none
  cp : PySem.W.copiedNames.contains f = false
/-- a method: a plain def of the class or of one above it -/
structure Meth (K : PySem.W.Frag) (C : Addr) (m : Str) (f : Addr) : Prop where
  at_ : PySem.W.findIn K (.ref C) m = some (some (.ref f))
  fn : PySem.W.isFn K (.ref f) = true
  kp : PySem.W.keepIn K (.ref f) = true

section
variable {X : Cx} {pins : List (Addr × Obj)} {σ : St} {H : Hp} {s : Shared} {a C dx : Addr} {fs : List (Str × V)} {f : Str} {v : V} {A : Around} {E : Value → Shared → Prop}






end

/-! ### readings and rules -/

section
variable {X : Cx} {o e value : Expr} {f : Str} {pos pos' tpos : Pos} {ta tv : TE}

end

/-! ### isinstance -/
section
variable {X : Cx} {pins : List (Addr × Obj)} {σ : St} {H : Hp} {s : Shared} {A : Around} {E : Value → Shared → Prop} {Q : Value → Shared → Prop} {c : Value} {b : Bool}
/-- the type of a value, as the fragment's deciders take it; for an instance its class -/
inductive TyOf (K : PySem.W.Frag) (H : Hp) : V → Value → Prop where
  | non : TyOf K H .non (.type "NoneType")
  | bl (x : Bool) : TyOf K H (.bl x) (.type "bool")
  | int (i : Int) : TyOf K H (.int i) (.type "int")
  | str (x : Str) : TyOf K H (.str x) (.type "str")
  | flt (x : UInt64) : TyOf K H (.flt x) (.type "float")
  | lst {a : Addr} {xs : List V} (e : H a = some (.lst xs)) : TyOf K H (.ref a) (.type "list")
  | frz {a : Addr} {o : Obj} {xs : List V} (e : H a = some (.frz o (.lst xs))) : TyOf K H (.ref a) (.type "list")
  | tup {a : Addr} {xs : List V} (e : H a = some (.tup xs)) : TyOf K H (.ref a) (.type "tuple")
  | dK {a : Addr} {kvs : List (Key × V)} (e : H a = some (.dK kvs)) : TyOf K H (.ref a) (.type "dict")
  | dT {a : Addr} {kvs : List (List Key × V)} (e : H a = some (.dT kvs)) : TyOf K H (.ref a) (.type "dict")
  | ins {a C dx : Addr} {fs : List (Str × V)} (e : H a = some (.ins C dx fs)) (cl : Cls K C) (ha : PySem.W.findIn K (.ref C) "__class__" = some (some (.builtin "object.__class__")))
      (hn : PySem.W.specialIn K (.builtin "object.__class__") "__get__" = some (some (.builtin "getset_descriptor.__get__"))) (htk : PySem.W.takesIn K (.builtin "object.__class__") = some true)
      (hm : PySem.W.mroIn K C (.type "object") = some true) : TyOf K H (.ref a) (.ref C)
end
end L2

namespace L2
open PySem PySem.Spec PyProof.Rows

/-! ### room -/
structure Room (k : Nat) (A : Around) : Prop where
  hd : A.handled = none
  dp : A.depth + 3 * k + 5 < recursionLimit
  un : A.units + 16 * k + 200 < cLine
theorem Room.mono {j k : Nat} {A : Around} (r : Room k A) (h : j ≤ k) : Room j A := ⟨r.hd, by have := r.dp; omega, by have := r.un; omega⟩
theorem Room.deeper {k : Nat} {A : Around} (r : Room (k + 1) A) (env : Env) : Room k (A.deeper env) :=
  ⟨r.hd, by have := r.dp; show A.depth + 1 + 3 * k + 5 < _; omega, by have := r.un; show A.units + 3 + 16 * k + 200 < _; omega⟩
theorem Room.depth {k : Nat} {A : Around} (r : Room k A) : A.depth < recursionLimit := by have := r.dp; omega
theorem Room.units {k : Nat} {A : Around} (r : Room k A) : A.units + 64 < cLine := by have := r.un; omega

/-! ### argument lists and displays -/
def tNil : TA := fun _ H Q => Q [] H
def tCons (ta : TE) (tr : TA) : TA := fun σ H Q => ta σ H fun x H1 => tr σ H1 fun xs H2 => Q (x :: xs) H2
section
variable {X : Cx} {e : Expr} {es : List Expr} {te : TE} {t : TA} {pos : Pos}
theorem pa_nil : PA X [] tNil := fun _ _ _ _ H Q I h => Calls.spliced_nil ⟨[], H, I, .nil, h⟩
theorem pa_cons (ha : PE X e te) (hr : PA X es t) (hs : starEach (e :: es) X.env = (false, eval e X.env) :: starEach es X.env := by rfl) : PA X (e :: es) (tCons te t) := by
  intro pos pins s σ H Q I h
  rw [hs]
  show wpAny _ _ (spliced ((false, eval e X.env) :: backTo pos (starEach es X.env))) _ _ s
  refine Calls.spliced_cons (thn (ha pins s σ H _ I h) fun u s1 ⟨x, H1, I1, r1, q1⟩ => ?_)
  exact thn (hr pos pins s1 σ H1 _ I1 q1) fun us s2 ⟨xs, H2, I2, r2, q2⟩ => ⟨x :: xs, H2, I2, .cons r1 r2, q2⟩

/-- a tuple, a list of written items -/
def tTup (t : TA) : TE := fun σ H Q => t σ H fun xs H1 => xs.length ≤ sizeLine ∧ ∀ p, H1 p = none → Q (.ref p) (upd H1 p (.tup xs))
def tLst (t : TA) : TE := fun σ H Q => t σ H fun xs H1 => xs.length ≤ sizeLine ∧ ∀ p, H1 p = none → Q (.ref p) (upd H1 p (.lst xs))
theorem pe_tup {x1} (h : PA X es t) : PE X (.Tuple es x1 pos) (tTup t) := by
  intro pins s σ H Q I hq
  refine wpAny_Tuple_spliced (thn (h pos pins s σ H _ I hq) fun us s1 ⟨xs, H1, I1, r, z, q⟩ => ⟨by rw [← r.length]; exact z, ?_⟩)
  have hf : H1 s1.heap.objs.size = none := I1.hok.fresh (Nat.le_refl _)
  refine ⟨.ref s1.heap.objs.size, upd H1 s1.heap.objs.size (.tup xs), I1.laid (t' := s1.toks) (fun b u e => Heap.get?_push_of_some _ e) (Nat.le_refl _) ?_, rfl, q _ hf⟩
  exact ⟨z, us, r, ⟨_, Heap.get?_push_size _ rfl, rfl, _, rfl⟩⟩
theorem pe_lst (h : PA X es t) : PE X (.List es pos) (tLst t) := by
  intro pins s σ H Q I hq
  refine wpAny_List_spliced (thn (h pos pins s σ H _ I hq) fun us s1 ⟨xs, H1, I1, r, z, q⟩ => ⟨by rw [← r.length]; exact z, ?_⟩)
  have hf : H1 s1.heap.objs.size = none := I1.hok.fresh (Nat.le_refl _)
  refine ⟨.ref s1.heap.objs.size, upd H1 s1.heap.objs.size (.lst xs), I1.laid (t' := s1.toks) (fun b u e => Heap.get?_push_of_some _ e) (Nat.le_refl _) ?_, rfl, q _ hf⟩
  exact ⟨z, us, 0, r, Heap.get?_push_size _ rfl⟩
end

/-! ### what a def promises -/
/-- a def's promise: the bound arguments in the parameters' order, the heap, the wanted end, the wanted exception -/
abbrev Sp := List V → Hp → VK → XK → Prop
/-- how an exception lies behind a call (file 08 gives it): the callers' frames, abstract heap and state ahead of the call, the wish, the exception, the state -/
abbrev CXT := List Env → Hp → Shared → XK → Value → Shared → Prop

/-- the state at a call -/
structure Env0 (P : Program) (w : World) (K : PySem.W.Frag) (mg : Str → Option Value) (base : Heap) (A : Around) (outer : List Env) (s : Shared) (H : Hp) : Prop where
  frames : A.frames = some outer
  mod : Mod K mg base
  bs : ∀ b o, base.get? b = some o → s.heap.get? b = some o ∧ H b = none
  bsz : base.objs.size ≤ s.heap.objs.size
  funs : s.heap.FunFrames base outer
  frf : ∀ b ∈ frs outer, H b = none
  hok : HOk P w H s.heap
  bare : AllBare s.gens
/-- a call's end -/
def CE (outer : List Env) (P : Program) (w : World) (H : Hp) (s : Shared) (Q : VK) (u : Value) (s' : Shared) : Prop :=
  ∃ v H', s'.os = s.os ∧ AllBare s'.gens ∧ Un (frs outer) [] H H' s.heap s'.heap ∧ HOk P w H' s'.heap ∧ RelV v u ∧ Q v H'
def CR (CX : CXT) (outer : List Env) (P : Program) (w : World) (H : Hp) (s : Shared) (Q : VK) (E : XK) (r : Result) (s' : Shared) : Prop :=
  match r with
  | .ok (.ret u) => CE outer P w H s Q u s'
  | .ok _ => False
  | .error e => CX outer H s E e s'
structure FnOk (P : Program) (w : World) (K : PySem.W.Frag) (mg : Str → Option Value) (base : Heap) (CX : CXT) (k : Nat) (f : Addr) (fd : FuncData) (ps : List Str) (sp : Sp) : Prop where
  len : ∀ vs H Q E, sp vs H Q E → vs.length = ps.length
  run : ∀ (A : Around) (outer : List Env) (s : Shared) (H : Hp) (args : Args) (us : List Value) (vs : List V) (Q : VK) (E : XK), Room k A → Env0 P w K mg base A outer s H → BindsTo s fd args (ps.zip us) → Vals vs us → sp vs H Q E →
    codeAny (model P w) A (.call (.ref f) args) (CR CX outer P w H s Q E) s
theorem FnOk.mono {P : Program} {w : World} {K : PySem.W.Frag} {mg : Str → Option Value} {base : Heap} {CX : CXT} {j k : Nat} {f : Addr} {fd : FuncData} {ps : List Str} {sp : Sp} (F : FnOk P w K mg base CX j f fd ps sp) (h : j ≤ k) :
    FnOk P w K mg base CX k f fd ps sp := ⟨F.len, fun A outer s H args us vs Q E hr => F.run A outer s H args us vs Q E (hr.mono h)⟩
/-- a weaker promise -/
theorem FnOk.imp {P : Program} {w : World} {K : PySem.W.Frag} {mg : Str → Option Value} {base : Heap} {CX : CXT} {k : Nat} {f : Addr} {fd : FuncData} {ps : List Str} {sp sp' : Sp} (F : FnOk P w K mg base CX k f fd ps sp)
    (h : ∀ vs H Q E, sp' vs H Q E → sp vs H Q E) : FnOk P w K mg base CX k f fd ps sp' :=
  ⟨fun vs H Q E q => F.len vs H Q E (h _ _ _ _ q), fun A outer s H args us vs Q E hr he hb hv hs => F.run A outer s H args us vs Q E hr he hb hv (h _ _ _ _ hs)⟩


section
variable {X : Cx} {pins : List (Addr × Obj)} {σ : St} {H : Hp} {s s' : Shared}
/-- from a body: what a callee wants -/
theorem Inv.env0 (I : Inv X pins σ H s) : Env0 X.prog X.w X.K X.mg X.base X.A X.stack s H :=
  ⟨I.ok.frames, I.ok.mod, I.bs, Nat.le_trans I.ok.bsz I.sz, I.stack, I.stkFree, I.hok, I.bare⟩
/-- behind a call -/
theorem Inv.after {Q : VK} {u : Value} (I : Inv X pins σ H s) (h : CE X.stack X.prog X.w H s Q u s') : EP X pins σ Q u s' := by
  obtain ⟨v, H', os, bare, un, hok, r, q⟩ := h
  obtain ⟨hh, g, d, t, os'⟩ := s'
  obtain rfl : os' = s.os := os
  exact ⟨v, H', I.call (h' := hh) (g' := g) (d' := d) (t' := t) (ch := []) un hok bare (fun b z => absurd z (by simp)), r, q⟩
end

/-! ### calls -/
/-- f(..): the written arguments, then the defaults dvs; E: what is wanted of an exception -/
def tCall (sp : Sp) (dvs : List V) (E : XK) (t : TA) : TE := fun σ H Q => t σ H fun vs H1 => sp (vs ++ dvs) H1 Q E

/-- how the parameters are bound: us the positional arguments, kw the keywords' values by name, ds the defaults that fill up -/
def Binds (K : PySem.W.Frag) (fd : FuncData) (ps : List Str) (ds : List Value) : Prop :=
  ∀ (s : Shared) (us : List Value), K.In s.heap → (us ++ ds).length = ps.length → BindsTo s fd ⟨us, []⟩ (ps.zip (us ++ ds))
/-- every parameter is given -/
theorem Binds.all {K : PySem.W.Frag} {fd : FuncData} {ps : List Str} (h : ∀ us : List Value, us.length = ps.length → bindArgs fd ⟨us, []⟩ = pure (ps.zip us)) : Binds K fd ps [] := fun s us _ hl => by
  rw [List.append_nil] at hl ⊢
  exact .of_eq (h us hl)

/-- an exception of a callee reaches what this body wants of exceptions -/
def Passes (CX : CXT) (X : Cx) (E : XK) : Prop := ∀ (pins : List (Addr × Obj)) (σ : St) (H : Hp) (s : Shared) (e : Value) (s' : Shared), Inv X pins σ H s → CX X.stack H s E e s' → X.xe e s'

section
variable {X : Cx} {CX : CXT} {k : Nat} {f C : Addr} {fd : FuncData} {ps : List Str} {sp : Sp} {dvs : List V} {ds : List Value} {E : XK} {x m : Str} {p pos apos : Pos} {e o : Expr} {es : List Expr} {ta : TE} {t : TA}

/-- the callee runs -/
theorem run_fn {pins : List (Addr × Obj)} {σ : St} {H : Hp} {s : Shared} {Q : VK} {us : List Value} {vs : List V} (F : FnOk X.prog X.w X.K X.mg X.base CX k f fd ps sp) (hr : Room k X.A) (hb : Binds X.K fd ps ds) (hd : Vals dvs ds) (hx : Passes CX X E)
    (I : Inv X pins σ H s) (r : Vals vs us) (h : sp (vs ++ dvs) H Q E) : wpAny (model X.prog X.w) X.A (call (.ref f) us) (EP X pins σ Q) X.xe s := by
  have r2 : Vals (vs ++ dvs) (us ++ ds) := r.append hd
  have hl : (us ++ ds).length = ps.length := by rw [← r2.length]; exact F.len _ _ _ _ h
  refine wpAny_call (codeAny_mono (F.run X.A X.stack s H ⟨us, []⟩ (us ++ ds) (vs ++ dvs) Q E hr I.env0 (hb s us I.kIn hl) r2 h) fun r s' hq => ?_)
  cases r with
  | error e => exact hx pins σ H s e s' I hq
  | ok fl =>
    cases fl with
    | ret u => exact I.after hq
    | next => exact False.elim hq
    | brk => exact False.elim hq
    | cont => exact False.elim hq

theorem pe_call (F : FnOk X.prog X.w X.K X.mg X.base CX k f fd ps sp) (hr : Room k X.A) (hg : Gl X x) (hm : X.mg x = some (.ref f)) (hk : PySem.W.keepIn X.K (.ref f) = true) (hb : Binds X.K fd ps ds) (hd : Vals dvs ds) (hx : Passes CX X E)
    (ha : PA X (e :: es) t) (hdb : (x == ("__debug__" : Str)) = false := by decide) (he : starEach (e :: es) X.env = (false, eval e X.env) :: starEach es X.env := by rfl) (hpl : (backTo pos (starEach es X.env)).any (·.1) = false := by rfl) :
    PE X (.Call (.Name x p) (e :: es) [] pos) (tCall sp dvs E t) := by
  intro pins s σ H Q I h
  refine wpAny_Call_Name_kw (ld_glob I hg hm ?_ hdb)
  refine PySem.W.callWith_K (h₀ := X.base) I.ok.mod.kin hk (thn (ha pos pins s σ H _ I h) fun us s1 ⟨vs, H1, I1, r, q⟩ => ⟨I1.kIn, ?_⟩) he hpl
  exact run_fn F hr hb hd hx I1 r q


/-- what a class must have to be made -/
structure Mk (K : PySem.W.Frag) (C f : Addr) : Prop where
  makes : PySem.W.makesIn K C = true
  init : PySem.W.findIn K (.ref C) "__init__" = some (some (.ref f))
  fn : PySem.W.isFn K (.ref f) = true
  kp : PySem.W.keepIn K (.ref C) = true

end

/-! ### keywords -/
section
variable {X : Cx} {CX : CXT} {k : Nat} {f C : Addr} {fd : FuncData} {ps ks : List Str} {sp : Sp} {E : XK} {x m : Str} {p pos apos kpos : Pos} {e o : Expr} {es : List Expr} {kws : List Keyword} {te ta : TE} {t tk : TA} {nm : Option Str}

/-- how a call with keywords binds: g puts the positional values us and the keywords' values ws (names ks) in the parameters' order, defaults among them -/
structure KBinds (K : PySem.W.Frag) (fd : FuncData) (ps ks : List Str) (g : List Value → List Value → List Value) (gV : List V → List V → List V) : Prop where
  to : ∀ (s : Shared) (us ws : List Value), K.In s.heap → (g us ws).length = ps.length → BindsTo s fd ⟨us, ks.zip ws⟩ (ps.zip (g us ws))
  rel : ∀ {vs : List V} {us : List Value} {zs : List V} {ws : List Value}, Vals vs us → Vals zs ws → Vals (gV vs zs) (g us ws)
variable {g : List Value → List Value → List Value} {gV : List V → List V → List V}
end

/-! ### a def's body keeps its promise -/
/-- names: the parameters first -/
structure FnScope (N P : List Str) (sc : Scope) : Prop where
  kind : sc.kind = .function
  co : sc.isCoroutine = false
  gen : sc.isGenerator = false
  nd : N.Nodup
  pre : N.take P.length = P
  par : ∀ x ∈ P, sc.names.lookup x = some .local ∨ sc.names.lookup x = some .cell
  nofree : ∀ y ∈ sc.names, y.2 ≠ .free

theorem bindL_out {kindOf : Str → Option NameKind} {x : Str} : ∀ {binds : List (Str × Value)} {m : Str → Option Value}, (∀ v, (x, v) ∉ binds) → bindL kindOf binds m x = m x
  | [], _, _ => rfl
  | (n, v) :: r, m, h => by
    unfold bindL
    rw [bindL_out fun w hw => h w (List.mem_cons_of_mem _ hw)]
    split
    · have : x ≠ n := by rintro rfl; exact h v List.mem_cons_self
      simp [this]
    · rfl
theorem bindC_out {kindOf : Str → Option NameKind} {x : Str} : ∀ {binds : List (Str × Value)} {m : Str → Option Value}, (∀ v, (x, v) ∉ binds) → bindC kindOf binds m x = m x
  | [], _, _ => rfl
  | (n, v) :: r, m, h => by
    unfold bindC
    rw [bindC_out fun w hw => h w (List.mem_cons_of_mem _ hw)]
    split
    · rfl
    · have : x ≠ n := by rintro rfl; exact h v List.mem_cons_self
      simp [this]
theorem bindL_get {kindOf : Str → Option NameKind} {x : Str} {v : Value} : ∀ {P : List Str} {vs : List Value} {i : Nat} {m : Str → Option Value}, P.Nodup → P[i]? = some x → vs[i]? = some v → kindOf x = some .local →
    bindL kindOf (P.zip vs) m x = some v
  | [], _, _, _, _, h, _, _ => by simp at h
  | _ :: _, [], _, _, _, _, h, _ => by simp at h
  | p :: P, w :: vs, 0, m, nd, h1, h2, hk => by
    simp at h1 h2; subst h1; subst h2
    show bindL kindOf ((p, w) :: P.zip vs) m p = _
    unfold bindL
    rw [bindL_out fun v hv => (List.nodup_cons.mp nd).1 (List.of_mem_zip hv).1, if_pos hk]
    simp
  | p :: P, w :: vs, i + 1, m, nd, h1, h2, hk => by
    show bindL kindOf ((p, w) :: P.zip vs) m x = _
    unfold bindL
    exact bindL_get (i := i) (List.nodup_cons.mp nd).2 (by simpa using h1) (by simpa using h2) hk
theorem bindC_get {kindOf : Str → Option NameKind} {x : Str} {v : Value} : ∀ {P : List Str} {vs : List Value} {i : Nat} {m : Str → Option Value}, P.Nodup → P[i]? = some x → vs[i]? = some v → kindOf x ≠ some .local →
    bindC kindOf (P.zip vs) m x = some v
  | [], _, _, _, _, h, _, _ => by simp at h
  | _ :: _, [], _, _, _, _, h, _ => by simp at h
  | p :: P, w :: vs, 0, m, nd, h1, h2, hk => by
    simp at h1 h2; subst h1; subst h2
    show bindC kindOf ((p, w) :: P.zip vs) m p = _
    unfold bindC
    rw [bindC_out fun v hv => (List.nodup_cons.mp nd).1 (List.of_mem_zip hv).1, if_neg hk]
    simp
  | p :: P, w :: vs, i + 1, m, nd, h1, h2, hk => by
    show bindC kindOf ((p, w) :: P.zip vs) m x = _
    unfold bindC
    exact bindC_get (i := i) (List.nodup_cons.mp nd).2 (by simpa using h1) (by simpa using h2) hk

/-- the names' values at the entry -/
def start (N : List Str) (vs : List V) : St := vs.map some ++ List.replicate (N.length - vs.length) none

/-- the context of a def's body, at its entry; an exception leaves the frame, then lies as CX says -/
def cxOf (CX : CXT) (P : Program) (w : World) (K : PySem.W.Frag) (mg : Str → Option Value) (base : Heap) (N : List Str) (qual : Str) (scope : Scope) (f : Addr) (cd : Value) (A : Around) (outer : List Env) (s : Shared) (H : Hp) (E : XK) : Cx where
  prog := P
  w := w
  K := K
  mg := mg
  base := base
  A := A.deeper (envOfC qual scope s.heap.objs.size f cd)
  N := N
  s₀ := s
  H₀ := H
  env := envOfC qual scope s.heap.objs.size f cd
  outer := outer
  stack := envOfC qual scope s.heap.objs.size f cd :: outer
  ex := []
  calm := true
  fn := fun _ => true
  pn := []
  xe := fun e s' => wpAny (model P w) (A.deeper (envOfC qual scope s.heap.objs.size f cd)) (leaving (envOfC qual scope s.heap.objs.size f cd) e) (fun _ s'' => CX outer H s E e s'') (fun e' s'' => CX outer H s E e' s'') s'

theorem cell_has {sc : Scope} {n : Nat} {x : Str} (h : sc.names.lookup x = some .cell) : ∃ c, (cellsFrom n sc.names []).lookup x = some c := by
  have q := PySem.W.cellsFrom_some sc.names n [] (.inl h)
  exact Option.isSome_iff_exists.mp q

theorem inv_start {CX : CXT} {P : Program} {w : World} {K : PySem.W.Frag} {mg : Str → Option Value} {base : Heap} {N ps : List Str} {qual : Str} {scope : Scope} {f : Addr} {cd : Value} {A : Around} {outer : List Env} {s s1 : Shared} {H : Hp} {E : XK} {us : List Value} {vs : List V}
    (S : FnScope N ps scope) (hd : A.handled = none) (e0 : Env0 P w K mg base A outer s H) (hl : vs.length = ps.length) (r : Vals vs us)
    (x : InCallC s s.heap.objs.size (bindL (envOfC qual scope s.heap.objs.size f cd).kindOf (ps.zip us) fun _ => none) (cellsFrom (s.heap.objs.size + 1) scope.names []) (bindC (envOfC qual scope s.heap.objs.size f cd).kindOf (ps.zip us) fun _ => none) s1) :
    Inv (cxOf CX P w K mg base N qual scope f cd A outer s H E) [] (start N vs) H s1 := by
  have hpl : ps.length ≤ N.length := by have := congrArg List.length S.pre; rw [List.length_take] at this; omega
  obtain ⟨h1, tk, rfl, hk⟩ := x.done
  have noA : ∀ b : Addr, b ∉ (cxOf CX P w K mg base N qual scope f cd A outer s H E).ex := fun b z => absurd (show b ∈ ([] : List Addr) from z) (by simp)
  refine ⟨⟨e0.mod, S.kind, rfl, rfl, Nat.le_refl _, fun y z c h1 h2 => ?_, fun y hy => ?_, fun y c _ h => ?_, fun _ => hd, Around.frames_deeper e0.frames, .inr ⟨rfl, rfl⟩, fun b z => absurd z (noA b), e0.bs, e0.bsz, fun b _ _ => noA b, fun b z => absurd z (noA b), e0.funs, e0.frf⟩,
    rfl, e0.bare, Un.kept hk, ⟨_, x.toInCall.ns, fun i y v h1 h2 h3 => ?_⟩, fun y c h => ⟨_, x.cell y c h⟩, e0.hok.fresh (Nat.le_refl _), fun y c h => ?_, fun p hp => absurd (show p ∈ ([] : List (Addr × Obj)) from hp) (by simp), e0.hok.kept hk, ?_⟩
  · exact name_of_addr x.apart (PySem.mem_of_lookup h1) (PySem.mem_of_lookup h2)
  · have hy : scope.names.lookup y = some .cell ∨ scope.names.lookup y = some .free := hy
    rcases hy with hy | hy
    · exact cell_has hy
    · exact absurd rfl (S.nofree _ (PySem.mem_of_lookup hy))
  · exact Nat.le_of_lt (x.above y c (PySem.mem_of_lookup h))
  · have hi : i < vs.length := by
      unfold start at h2
      by_cases hi : i < vs.length
      · exact hi
      · rw [List.getElem?_append_right (by simpa using hi)] at h2
        rw [List.getElem?_replicate] at h2
        split at h2 <;> cases h2
    have ha : vs[i]? = some v := by
      unfold start at h2
      rw [List.getElem?_append_left (by simpa using hi), List.getElem?_map] at h2
      cases e : vs[i]? with
      | none => rw [e] at h2; cases h2
      | some a => rw [e] at h2; cases h2; rfl
    obtain ⟨u, hu, rv⟩ := r.get ha
    have hp : ps[i]? = some y := by
      rw [← S.pre, List.getElem?_take_of_lt (by omega)]; exact h1
    have ndP : ps.Nodup := by rw [← S.pre]; exact S.nd.sublist (List.take_sublist _ _)
    refine ⟨u, rv, ?_⟩
    rcases S.par y (List.mem_of_getElem? hp) with k | k
    · exact .inl ⟨k, bindL_get ndP hp hu k⟩
    · obtain ⟨c, e⟩ := cell_has (n := s.heap.objs.size + 1) k
      refine .inr ⟨.inl k, c, e, ?_⟩
      have q := x.cell y c e
      rw [bindC_get ndP hp hu (by show scope.names.lookup y ≠ _; rw [k]; decide)] at q
      exact q
  · exact e0.hok.fresh (Nat.le_of_lt (x.above y c (PySem.mem_of_lookup h)))
  · unfold start
    show _ = N.length
    rw [List.length_append, List.length_map, List.length_replicate]
    omega

/-- THE RULE: a def (or a method) of the text, by its body. The body's reading t is chosen for each entry; it is run at the parameters' values -/
theorem fn_of {CX : CXT} {P : Program} {w : World} {K : PySem.W.Frag} {mg : Str → Option Value} {base : Heap} {k : Nat} {f : Addr} {name qual : Str} {params : Arguments} {body : List Stmt} {scope : Scope} {dV kV doc pm cdv ct oc : Value} {an od : Option Addr}
    {osl : Array (Option Value)} {N ps : List Str} {sp : Sp} (lk : K.lookup f = some ⟨oc, od, .func (PySem.W.fnOf name qual params body scope dV kV doc pm an cdv ct), osl⟩) (hcd : PySem.W.codeIn K cdv qual = true) (S : FnScope N ps scope)
    (len : ∀ vs H Q E, sp vs H Q E → vs.length = ps.length)
    (hbody : ∀ (A : Around) (outer : List Env) (s : Shared) (H : Hp) (vs : List V) (Q : VK) (E : XK), Room k (A.deeper (envOfC qual scope s.heap.objs.size f cdv)) → sp vs H Q E →
      ∃ t, PSs (cxOf CX P w K mg base N qual scope f cdv A outer s H E) body t ∧ t { nx := fun _ H' => Q .non H', rt := Q } (start N vs) H) :
    FnOk P w K mg base CX (k + 1) f (PySem.W.fnOf name qual params body scope dV kV doc pm an cdv ct) ps sp := by
  refine ⟨len, fun A outer s H args us vs Q E hr e0 hb r hsp => ?_⟩
  have hl := len _ _ _ _ hsp
  have KX : K.In s.heap := e0.mod.kin.keeps fun b o e => (e0.bs b o e).1
  have lim : s.heap.NoLimit := e0.mod.nolimit.keeps fun b o e => (e0.bs b o e).1
  have hkind : ∀ y ∈ ps.zip us, scope.names.lookup y.1 = some .local ∨ (scope.names.lookup y.1 = some .cell ∧ ((cellsFrom (s.heap.objs.size + 1) scope.names []).lookup y.1).isSome = true) := fun ⟨n, v⟩ hy => by
    rcases S.par n (List.of_mem_zip hy).1 with q | q
    · exact .inl q
    · exact .inr ⟨q, PySem.W.cellsFrom_some _ _ _ (.inl q)⟩
  refine codeAny_call_function hr.depth (KX _ _ lk) rfl S.co S.gen rfl (PySem.W.codeRec_of KX hcd) (hb _ _ _ _ ?_)
  refine wpAny_newFunctionEnv_cells S.kind hkind fun env he s1 x => ?_
  subst he
  refine ⟨lim.keeps x.toInCall.keep, codeAny_func ?_⟩
  obtain ⟨t, ht, hq⟩ := hbody A outer s H vs Q E (hr.deeper _) hsp
  have I : Inv (cxOf CX P w K mg base N qual scope f cdv A outer s H E) [] (start N vs) H s1 := inv_start S hr.hd e0 hl r x
  refine wpAny_mono (ht [] s1 (start N vs) H _ I hq) (fun fl s' hs => ?_) fun e s' hs => hs
  have fin : ∀ {σ' : St} {H' : Hp} {v : V} {u : Value}, Inv (cxOf CX P w K mg base N qual scope f cdv A outer s H E) [] σ' H' s' → RelV v u → Q v H' → CE outer P w H s Q u s' :=
    fun {σ' H' v u} J rv q => ⟨v, H', J.os, J.bare, J.base, J.hok, rv, q⟩
  cases fl with
  | ret u =>
    obtain ⟨v, σ', H', J, rv, q⟩ := hs
    exact fin J rv q
  | next =>
    obtain ⟨σ', H', J, q⟩ := hs
    exact fin (v := V.non) (u := Value.none) J rfl q
  | brk =>
    obtain ⟨_, _, _, q⟩ := hs
    exact False.elim q
  | cont =>
    obtain ⟨_, _, _, q⟩ := hs
    exact False.elim q
end L2

namespace L2
open PySem PySem.Spec PyProof.Rows
section
variable {X : Cx} {x : Str} {p pos : Pos} {e : Expr} {es : List Expr} {t : TA} {id T : String} {r : List V → Hp → VK → Prop}

def tCB (r : List V → Hp → VK → Prop) (t : TA) : TE := fun σ H Q => t σ H fun vs H1 => r vs H1 Q
/-- f(e, ..), f a built-in function -/
theorem pe_callB (hc : CallR X (.builtin id) r) (hg : Gl X x) (hm : X.mg x = none) (hv : bootBuiltins x = some (.builtin id)) (ha : PA X (e :: es) t) (hn : x ≠ "__name__" := by decide) (hdb : (x == ("__debug__" : Str)) = false := by decide)
    (he : starEach (e :: es) X.env = (false, eval e X.env) :: starEach es X.env := by rfl) (hpl : (backTo pos (starEach es X.env)).any (·.1) = false := by rfl) : PE X (.Call (.Name x p) (e :: es) [] pos) (tCB r t) := by
  intro pins s σ H Q I h
  refine wpAny_Call_Name_kw (ld_blt I hg hm hv ?_ hn hdb)
  exact PyProof.Rows.callWith_builtin1 (thn (ha pos pins s σ H _ I h) fun us s1 ⟨vs, H1, I1, r1, q1⟩ => hc pins s1 σ H1 vs us Q I1 r1 q1) he hpl
/-- T(e, ..), T a built-in type -/
theorem pe_callTy (hc : CallR X (.type T) r) (hg : Gl X x) (hm : X.mg x = none) (hv : bootBuiltins x = some (.type T)) (ha : PA X (e :: es) t) (hn : x ≠ "__name__" := by decide) (hdb : (x == ("__debug__" : Str)) = false := by decide)
    (he : starEach (e :: es) X.env = (false, eval e X.env) :: starEach es X.env := by rfl) (hpl : (backTo pos (starEach es X.env)).any (·.1) = false := by rfl) : PE X (.Call (.Name x p) (e :: es) [] pos) (tCB r t) := by
  intro pins s σ H Q I h
  refine wpAny_Call_Name_kw (ld_blt I hg hm hv ?_ hn hdb)
  exact PyProof.Rows.callWith_type1 (thn (ha pos pins s σ H _ I h) fun us s1 ⟨vs, H1, I1, r1, q1⟩ => hc pins s1 σ H1 vs us Q I1 r1 q1) he hpl
end
end L2

namespace HT
open PySem PyProof.Rows



section
open PySem.SeqAt
open PySem.AutoSeq1 (wpAny_loadPart')
open PySem.MeetsSeq PySem.MeetsSeq2 PySem.MeetsSeq3

end

section
variable {prog : Program} {w : World} {A : Around} {E : Value → Shared → Prop} {s : Shared}



/-! ### t[a:b], not the whole -/
/-- a slice's bound as a place among n (d where it is left out) -/
def sIx (n d : Nat) : Option Int → Nat
  | none => d
  | some v => if v < 0 then (v + (n : Int)).toNat else min v.toNat n
theorem sIx_none (n d : Nat) : sIx n d none = d := rfl
theorem sIx_nat (n d k : Nat) : sIx n d (some (k : Int)) = min k n := by
  show (if (k : Int) < 0 then ((k : Int) + (n : Int)).toNat else min (k : Int).toNat n) = min k n
  rw [if_neg (by omega), Int.toNat_natCast]
theorem sIx_le (n d : Nat) (hd : d ≤ n) (o : Option Int) : sIx n d o ≤ n := by
  cases o with
  | none => exact hd
  | some v =>
    show (if v < 0 then (v + (n : Int)).toNat else min v.toNat n) ≤ n
    by_cases hv : v < 0
    · rw [if_pos hv]; omega
    · rw [if_neg hv]; exact Nat.min_le_right _ _
theorem clip_eq (v : Int) (n d : Nat) : (if v < 0 then max (v + (n : Int)) 0 else min v (n : Int)) = ((sIx n d (some v) : Nat) : Int) := by
  show (if v < 0 then max (v + (n : Int)) 0 else min v (n : Int)) = (((if v < 0 then (v + (n : Int)).toNat else min v.toNat n) : Nat) : Int)
  by_cases hv : v < 0
  · simp only [if_pos hv]; omega
  · simp only [if_neg hv]; omega
theorem adjust_gen (lo hi : Option Int) (n : Nat) : Builtin.Slice.sliceAdjust lo hi 1 (n : Int) = (((sIx n 0 lo : Nat) : Int), ((sIx n n hi : Nat) : Int)) := by
  have h1 : ¬ ((1 : Int) < 0) := by omega
  unfold Builtin.Slice.sliceAdjust
  simp only [h1, if_false]
  refine Prod.ext ?_ ?_
  · cases lo with
    | none => rfl
    | some v => exact clip_eq v n 0
  · cases hi with
    | none => rfl
    | some v => exact clip_eq v n n
theorem places_gen (i j : Nat) : Builtin.Slice.slicePlaces (i : Int) (j : Int) 1 = j - i := by
  unfold Builtin.Slice.slicePlaces
  have h1 : (1 : Int) > 0 := by omega
  simp only [h1, if_true, Int.ediv_one]
  split <;> omega
theorem slicePart_ {v : Value} {o : Option Int} {Q : Option Int → Shared → Prop} (p : IsPart v o) (h : Q o s) : wpAny (model prog w) A (Builtin.Slice.slicePartIndex v) Q E s := by
  cases p with
  | none => exact slicePart_none h
  | int i t => exact slicePart_int h
theorem sliceApplied_gen {sl : Addr} {vl vu : Value} {lo hi : Option Int} {n : Nat} {Q : Int × Int × Nat → Shared → Prop} (hs : s.heap.IsSliceOf sl vl vu .none) (pl : IsPart vl lo) (pu : IsPart vu hi)
    (h : Q (((sIx n 0 lo : Nat) : Int), 1, sIx n n hi - sIx n 0 lo) s) : wpAny (model prog w) A (Builtin.Slice.sliceApplied (.ref sl) (pure (n : Int))) Q E s := by
  obtain ⟨os, hos, hcs, hds⟩ := id hs
  unfold Builtin.Slice.sliceApplied Builtin.Slice.sliceFields
  refine wpAny_bind (wpAny_bind (wpAny_field hos hds (x := vl) rfl (wpAny_bind (wpAny_field hos hds (x := vu) rfl (wpAny_bind (wpAny_field hos hds (x := .none) rfl (wpAny_pure ?_)))))))
  refine wpAny_bind (slicePart_none ?_)
  show wpAny _ _ (if ((1 : Int) == 0) = true then _ else _) _ _ s
  rw [if_neg (by decide)]
  refine wpAny_bind (slicePart_ pl (wpAny_bind (slicePart_ pu (wpAny_bind (wpAny_pure ?_)))))
  show wpAny _ _ (match Builtin.Slice.sliceAdjust lo hi 1 (n : Int) with | (lo, hi) => pure (lo, (1 : Int), Builtin.Slice.slicePlaces lo hi 1)) _ _ s
  rw [adjust_gen lo hi n]
  show wpAny _ _ (pure (((sIx n 0 lo : Nat) : Int), (1 : Int), Builtin.Slice.slicePlaces ((sIx n 0 lo : Nat) : Int) ((sIx n n hi : Nat) : Int) 1)) _ _ s
  rw [places_gen]
  exact wpAny_pure h
theorem pick_gen (xs : Array Value) (i k : Nat) : ((List.range k).filterMap fun (m : Nat) => xs[((i : Int) + (m : Int) * 1).toNat]?).toArray = ((xs.toList.drop i).take k).toArray := by
  have e : (fun (m : Nat) => xs[((i : Int) + (m : Int) * 1).toNat]?) = fun m => xs[i + m]? := by
    funext m
    have : ((i : Int) + (m : Int) * 1).toNat = i + m := by omega
    rw [this]
  rw [e]
  have := pick_run xs i k
  rw [List.filterMap_map] at this
  have e2 : ((fun x => xs[x]?) ∘ fun x => i + x) = fun m => xs[i + m]? := rfl
  rw [e2] at this
  rw [this]

theorem getItem_tuple_cut {t sl : Addr} {items : Array Value} {vl vu : Value} {lo hi : Option Int} {Q : Value → Shared → Prop} (ht : IsTup s.heap t items) (hs : s.heap.IsSliceOf sl vl vu .none) (pl : IsPart vl lo) (pu : IsPart vu hi)
    (hw : ¬ (sIx items.size 0 lo = 0 ∧ sIx items.size items.size hi = items.size))
    (h : Q (.ref s.heap.objs.size) { s with heap := s.heap.push { cls := .type "tuple", data := .seq ((items.toList.drop (sIx items.size 0 lo)).take (sIx items.size items.size hi - sIx items.size 0 lo)).toArray } })
    (hsz : items.size ≤ sizeLine) : wpAny (model prog w) A (getItem (.ref t) (.ref sl)) Q E s := by
  have htake : sizeOk (.seq ((items.toList.drop (sIx items.size 0 lo)).take (sIx items.size items.size hi - sIx items.size 0 lo)).toArray) := by
    show ((items.toList.drop (sIx items.size 0 lo)).take (sIx items.size items.size hi - sIx items.size 0 lo)).toArray.size ≤ sizeLine
    rw [List.size_toArray, List.length_take, List.length_drop, Array.length_toList]
    omega
  have hj : sIx items.size items.size hi ≤ items.size := sIx_le _ _ (Nat.le_refl _) hi
  obtain ⟨os, hos, hcs, hds⟩ := id hs
  have hTs : s.TypeIs (.ref sl) "slice" := ⟨os, hos, hcs⟩
  unfold getItem
  try with_reducible refine wpAny_holding ?_
  first | refine wpAny_bind (wpAny_pure ?_) | skip
  refine wpAny_bind (wpAny_sequenceKey ht.typeIs (by decide) ?_)
  refine wpAny_bind (wpAny_callSpecial?_slot (name := Str.ofString "__getitem__") ht.typeIs PyProof.Rows.slot_tuple_getitem
    (wpAny_call_entry PyProof.Rows.slot_tuple_getitem ht.typeIs entry_tuple_getitem ?_ (args_tuple_getitem _ _)))
  show wpAny _ _ (Builtin.Tuple.tupleItemsOf (.ref t) >>= _) _ _ s
  refine wpAny_bind (tupleItemsOf_ ht ?_)
  refine wpAny_bind (wpAny_typeOf hTs ?_)
  rw [if_pos (by decide)]
  refine wpAny_bind (sliceApplied_gen hs pl pu ?_)
  have hno : ¬ ((((sIx items.size 0 lo : Nat) : Int) == 0 && (1 : Int) == 1 && (sIx items.size items.size hi - sIx items.size 0 lo) == items.size) = true) := by
    intro q
    rw [Bool.and_eq_true, Bool.and_eq_true] at q
    have q1 : ((sIx items.size 0 lo : Nat) : Int) = 0 := eq_of_beq q.1.1
    have q2 : sIx items.size items.size hi - sIx items.size 0 lo = items.size := eq_of_beq q.2
    exact hw ⟨by omega, by omega⟩
  show wpAny _ _ (if (((sIx items.size 0 lo : Nat) : Int) == 0 && (1 : Int) == 1 && (sIx items.size items.size hi - sIx items.size 0 lo) == items.size) = true then _ else _) _ _ s
  rw [if_neg hno, pick_gen]
  first
    | exact wpAny_bind (m := Builtin.Tuple.tupleExact _) (wpAny_newObj_type (wpAny_pure ⟨_, rfl, wpAny_pure h⟩) htake)
    | exact wpAny_bind (m := Builtin.Tuple.tupleExact _) (wpAny_newObj_type (wpAny_bind (wpAny_pure (wpAny_pure ⟨_, rfl, wpAny_pure h⟩))) htake)
    | exact wpAny_bind (wpAny_bind (m := Builtin.Tuple.tupleExact _) (wpAny_newObj_type (wpAny_pure (wpAny_pure ⟨_, rfl, wpAny_pure h⟩)) htake))
    | exact wpAny_bind (wpAny_bind (m := Builtin.Tuple.tupleExact _) (wpAny_newObj_type (wpAny_pure ⟨_, rfl, wpAny_pure h⟩) htake))
end
end HT

namespace L2
open PySem PySem.Spec PyProof.Rows

/-! ### the parts of a slice -/
abbrev TO := St → Hp → (Option Int → Hp → Prop) → Prop
/-- a slice's part (left out, or an int) -/
def PO (X : Cx) (e : Option Expr) (t : TO) : Prop :=
  ∀ (pins : List (Addr × Obj)) (s : Shared) (σ : St) (H : Hp) (Q : Option Int → Hp → Prop), Inv X pins σ H s → t σ H Q →
    wpAny (model X.prog X.w) X.A (evalPart e X.env) (fun u s' => ∃ o H', Inv X pins σ H' s' ∧ IsPart u o ∧ Q o H') X.xe s
def tNoPart : TO := fun _ H Q => Q none H
def tPart (t : TE) : TO := fun σ H Q => t σ H fun x H1 => ∃ i, x = .int i ∧ Q (some i) H1


section
variable {X : Cx} {e : Expr} {te : TE} {lo hi : Option Expr} {tl th : TO} {pos p2 : Pos}

theorem po_none : PO X none tNoPart := by
  intro pins s σ H Q I h
  rw [evalPart_none]
  exact wpAny_pure ⟨none, H, I, .none, h⟩
theorem po_some (h : PE X e te) : PO X (some e) (tPart te) := by
  intro pins s σ H Q I hw
  rw [evalPart_some]
  refine thn (h pins s σ H _ I hw) fun u s1 ⟨x, H1, I1, r1, q1⟩ => ?_
  obtain ⟨i, rfl, q⟩ := q1
  obtain ⟨t, rfl⟩ := r1
  exact ⟨some i, H1, I1, .int i t, q⟩

/-- what a slice of a value is, by values: the slice object stands at sl -/
def SlR (X : Cx) (r : V → Option Int → Option Int → Hp → VK → Prop) : Prop :=
  ∀ (pins : List (Addr × Obj)) (s : Shared) (σ : St) (H : Hp) (x : V) (v vl vu : Value) (lo hi : Option Int) (sl : Addr) (Q : VK), Inv X pins σ H s → RelV x v → s.heap.IsSliceOf sl vl vu .none → IsPart vl lo → IsPart vu hi → r x lo hi H Q →
    ∃ T id, typeLookup (.type T) "__getitem__" = pure (some (.builtin id)) ∧ s.TypeIs v T ∧ wpAny (model X.prog X.w) X.A (getItem v (.ref sl)) (EP X pins σ Q) X.xe s
theorem SlR.or {r r' : V → Option Int → Option Int → Hp → VK → Prop} (h : SlR X r) (h' : SlR X r') : SlR X (fun x lo hi H Q => r x lo hi H Q ∨ r' x lo hi H Q) := by
  intro pins s σ H x v vl vu lo hi sl Q I rx hs pl pu q
  rcases q with q | q
  · exact h pins s σ H x v vl vu lo hi sl Q I rx hs pl pu q
  · exact h' pins s σ H x v vl vu lo hi sl Q I rx hs pl pu q
def tSl (r : V → Option Int → Option Int → Hp → VK → Prop) (te : TE) (tl th : TO) : TE := fun σ H Q => te σ H fun x H1 => tl σ H1 fun l H2 => th σ H2 fun u H3 => r x l u H3 Q
/-- a[lo:hi], any a -/
theorem pe_slice {r : V → Option Int → Option Int → Hp → VK → Prop} (hr : SlR X r) (he : PE X e te) (hl : PO X lo tl) (hu : PO X hi th) : PE X (.Subscript e (.Slice lo hi none p2) pos) (tSl r te tl th) := by
  intro pins s σ H Q I h
  refine Subscript_ (thn (he pins s σ H _ I h) fun v s1 ⟨x, H1, I1, r1, q1⟩ => ?_)
  refine wpAny_Slice (thn (hl pins s1 σ H1 _ I1 q1) fun vl s2 ⟨l, H2, I2, pl, q2⟩ => thn (hu pins s2 σ H2 _ I2 q2) fun vu s3 ⟨u, H3, I3, pu, q3⟩ => ?_)
  rw [evalPart_none]
  refine wpAny_pure ?_
  have I4 : Inv X pins σ H3 { s3 with heap := s3.heap.push { cls := .type "slice", data := .fields #[vl, vu, .none] } } := I3.kept (t' := s3.toks) fun b ob q => Heap.get?_push_of_some _ q
  obtain ⟨T, id, hT, ht, hg⟩ := hr pins { s3 with heap := s3.heap.push { cls := .type "slice", data := .fields #[vl, vu, .none] } } σ H3 x v vl vu l u s3.heap.objs.size Q I4 r1 (Heap.IsSliceOf.new ..) pl pu q3
  show wpAny (model X.prog X.w) X.A (subscriptTail e (.Slice lo hi none p2) v (.ref s3.heap.objs.size)) (EP X pins σ Q) X.xe { s3 with heap := s3.heap.push { cls := .type "slice", data := .fields #[vl, vu, .none] } }
  exact tail_any (ops := [.ref s3.heap.objs.size, v]) ht hT hg (by with_unfolding_all rfl)

/-- the items of xs[lo:hi] -/
def cutV (xs : List V) (lo hi : Option Int) : List V := (xs.drop (HT.sIx xs.length 0 lo)).take (HT.sIx xs.length xs.length hi - HT.sIx xs.length 0 lo)
theorem cutV_length (xs : List V) (lo hi : Option Int) : (cutV xs lo hi).length ≤ xs.length := by
  unfold cutV
  rw [List.length_take, List.length_drop]
  omega
/-- t[lo:hi], not the whole of it (the whole would be t itself) -/
def rSlT (K : PySem.W.Frag) : V → Option Int → Option Int → Hp → VK → Prop := fun x lo hi H Q => ∃ a xs, x = .ref a ∧ SqT K H a xs ∧
  ¬ (HT.sIx xs.length 0 lo = 0 ∧ HT.sIx xs.length xs.length hi = xs.length) ∧ ∀ p, H p = none → Q (.ref p) (upd H p (.tup (cutV xs lo hi)))
theorem sl_tup : SlR X (rSlT X.K) := by
  intro pins s σ H x v vl vu lo hi sl Q I rx hs pl pu h
  obtain ⟨a, xs, rfl, hx, hw, q⟩ := h
  cases rx
  obtain ⟨its, r, ht, hz⟩ := I.tuple hx
  have hlen : its.toArray.size = xs.length := by rw [List.size_toArray]; exact r.length.symm
  refine ⟨"tuple", _, PyProof.Rows.slot_tuple_getitem.lookup, ht.typeIs, ?_⟩
  refine HT.getItem_tuple_cut ht hs pl pu (by rw [hlen]; exact hw) ?_ (by rw [hlen]; exact hz)
  rw [hlen]
  refine ⟨.ref s.heap.objs.size, _, I.laid (t' := s.toks) (o := .tup (cutV xs lo hi)) (fun b ob q => Heap.get?_push_of_some _ q) (Nat.le_refl _) ?_, rfl, q _ (I.hok.fresh (Nat.le_refl _))⟩
  exact ⟨Nat.le_trans (cutV_length xs lo hi) hz, _, (r.drop (HT.sIx xs.length 0 lo)).take (HT.sIx xs.length xs.length hi - HT.sIx xs.length 0 lo), IsTup.new _ _⟩

/-! ### t < u, t + u -/
end
end L2

namespace L2
open PySem PySem.Spec PyProof.Rows

/-! ### places -/
/-- the place that an index of any sign means -/
def ixN (n : Nat) (i : Int) : Option Nat := if 0 ≤ i then (if i < n then some i.toNat else none) else if -(n : Int) ≤ i then some (i + n).toNat else none
def atI {α : Type} (xs : List α) (i : Int) : Option α := (ixN xs.length i).bind fun j => xs[j]?
theorem ixN_seq {n : Nat} {i : Int} {j : Nat} (h : ixN n i = some j) : seqIndex? i n = some j ∧ j < n ∧ -(n : Int) ≤ i ∧ i < n := by
  unfold ixN at h
  by_cases h0 : 0 ≤ i
  · rw [if_pos h0] at h
    by_cases h1 : i < n
    · rw [if_pos h1] at h
      have e : i.toNat = j := Option.some.inj h
      exact ⟨by rw [seqIndex_of h0 h1, e], by omega, by omega, h1⟩
    · rw [if_neg h1] at h; cases h
  · rw [if_neg h0] at h
    by_cases h1 : -(n : Int) ≤ i
    · rw [if_pos h1] at h
      have e : (i + n).toNat = j := Option.some.inj h
      exact ⟨by rw [seqIndex_neg (by omega) h1, e], by omega, h1, by omega⟩
    · rw [if_neg h1] at h; cases h
theorem atI_get {α : Type} {xs : List α} {i : Int} {v : α} (h : atI xs i = some v) : ∃ j, seqIndex? i xs.length = some j ∧ xs[j]? = some v ∧ j < xs.length ∧ -(xs.length : Int) ≤ i ∧ i < xs.length := by
  unfold atI at h
  cases e : ixN xs.length i with
  | none => rw [e] at h; cases h
  | some j =>
    rw [e] at h
    obtain ⟨h1, h2, h3, h4⟩ := ixN_seq e
    exact ⟨j, h1, h, h2, h3, h4⟩
theorem atI_nat {α : Type} {xs : List α} {j : Nat} {v : α} (h : xs[j]? = some v) : atI xs (j : Int) = some v := by
  have hj : j < xs.length := (List.getElem?_eq_some_iff.mp h).1
  have e : ixN xs.length (j : Int) = some j := by
    unfold ixN
    rw [if_pos (by omega), if_pos (by omega)]; simp
  unfold atI; rw [e]; exact h

/-! ### what may be subscripted -/
/-- what stands as an index of a plain subscript -/
def PlainIx (b : Expr) : Prop := ∀ o i, subscripted b false o i = operate [o, i] (getItem o i)
/-- a subscript by values -/
def IxR (X : Cx) (r : R2) : Prop :=
  ∀ (value slice : Expr) (pins : List (Addr × Obj)) (s : Shared) (σ : St) (H : Hp) (x y : V) (v u : Value) (Q : VK), Inv X pins σ H s → RelV x v → RelV y u → r x y H Q →
    subscripted slice false v u = operate [v, u] (getItem v u) → wpAny (model X.prog X.w) X.A (subscriptTail value slice v u) (EP X pins σ Q) X.xe s
/-- a call of a builtin's method by values: the receiver, the arguments -/
def MtR (X : Cx) (id : String) (r : V → List V → Hp → VK → Prop) : Prop :=
  ∀ (pins : List (Addr × Obj)) (s : Shared) (σ : St) (H : Hp) (x : V) (xs : List V) (v : Value) (us : List Value) (Q : VK), Inv X pins σ H s → RelV x v → Vals xs us → r x xs H Q →
    wpAny (model X.prog X.w) X.A (call (.builtin id) (v :: us)) (EP X pins σ Q) X.xe s
section
variable {X : Cx} {a b : Expr} {ta tb : TE} {pos : Pos}
theorem IxR.or {r r' : R2} (h : IxR X r) (h' : IxR X r') : IxR X (fun x y H Q => r x y H Q ∨ r' x y H Q) := by
  intro value slice pins s σ H x y v u Q I rx ry q hs
  rcases q with q | q
  · exact h value slice pins s σ H x y v u Q I rx ry q hs
  · exact h' value slice pins s σ H x y v u Q I rx ry q hs
/-- a[b] -/
theorem pe_ix {r : R2} (hr : IxR X r) (ha : PE X a ta) (hb : PE X b tb) (hs : PlainIx b) : PE X (.Subscript a b pos) (tOp r ta tb) := by
  intro pins s σ H Q I h
  exact Subscript_ (binT ha hb I h fun v u s2 x y H2 I2 rx ry q => hr a b pins s2 σ H2 x y v u Q I2 rx ry q (hs _ _))

def rIxL (K : PySem.W.Frag) : R2 := fun x y H Q => ∃ p xs i v, x = .ref p ∧ y = .int i ∧ SqL K H p xs ∧ atI xs i = some v ∧ Q v H
def rIxT (K : PySem.W.Frag) : R2 := fun x y H Q => ∃ p xs i v, x = .ref p ∧ y = .int i ∧ SqT K H p xs ∧ atI xs i = some v ∧ Q v H
def rIxS : R2 := fun x y H Q => ∃ z i c, x = .str z ∧ y = .int i ∧ z.length ≤ sizeLine ∧ atI z.cps.toList i = some c ∧ Q (.str ⟨#[c]⟩) H
theorem ix_list : IxR X (rIxL X.K) := by
  intro value slice pins s σ H x y v u Q I rx ry h hs
  obtain ⟨p, xs, i, z, rfl, rfl, hq, he, q⟩ := h
  cases rx
  obtain ⟨t, rfl⟩ := ry
  obtain ⟨its, r, pl, hz⟩ := I.list hq
  obtain ⟨j, h1, h2, h3, h4, h5⟩ := atI_get he
  obtain ⟨w, ew, rw'⟩ := r.get h2
  have hl := r.length
  have hn := line63
  have fin : EP X pins σ Q w s := ⟨z, H, I, rw', q⟩
  by_cases h0 : 0 ≤ i
  · have hj : i.toNat = j := by
      rw [seqIndex_of h0 h5] at h1
      exact Option.some.inj h1
    exact item_listR pl.isList h0 (by omega) (by rw [hj]; simpa using ew) fin hs
  · have hj : (i + (its.toArray.size : Int)).toNat = j := by
      rw [seqIndex_neg (by omega) h4] at h1
      rw [List.size_toArray, ← hl]
      exact Option.some.inj h1
    exact subscriptTail_builtinR (x := w) pl.isList.typeIs slot_list_getitem.lookup
      (wpAny_getItem_list_neg (Q := fun r s' => r = w ∧ EP X pins σ Q r s') pl.isList (by omega) (by rw [List.size_toArray] <;> omega) (by omega) (by rw [hj]; simpa using ew) ⟨rfl, fin⟩) hs
theorem ix_tup : IxR X (rIxT X.K) := by
  intro value slice pins s σ H x y v u Q I rx ry h hs
  obtain ⟨p, xs, i, z, rfl, rfl, hq, he, q⟩ := h
  cases rx
  obtain ⟨t, rfl⟩ := ry
  obtain ⟨its, r, pl, hz⟩ := I.tuple hq
  obtain ⟨j, h1, h2, h3, h4, h5⟩ := atI_get he
  obtain ⟨w, ew, rw'⟩ := r.get h2
  have hl := r.length
  have hn := line63
  have fin : EP X pins σ Q w s := ⟨z, H, I, rw', q⟩
  exact subscriptTail_builtinR (x := w) pl.typeIs slot_tuple_getitem.lookup
    (getItem_tuple (j := j) (Q := fun r s' => r = w ∧ EP X pins σ Q r s') pl (by omega) (by omega) (by rw [List.size_toArray, ← hl]; exact h1) (by simpa using ew) ⟨rfl, fin⟩) hs
theorem ix_str : IxR X rIxS := by
  intro value slice pins s σ H x y v u Q I rx ry h hs
  obtain ⟨z, i, c, rfl, rfl, hz, he, q⟩ := h
  obtain ⟨t, rfl⟩ := rx
  obtain ⟨t', rfl⟩ := ry
  obtain ⟨j, h1, h2, h3, h4, h5⟩ := atI_get he
  have hl : z.cps.toList.length = z.length := by simp [Str.length]
  rw [hl] at h1 h4 h5
  have hn := line63
  exact tail_any (typeIs_str s z t) slot_str_getitem.lookup (getItem_str (c := c) (by
    have e1 : decide (i < -(2 ^ 63 : Int)) = false := decide_eq_false (by omega)
    have e2 : decide (i ≥ 2 ^ 63) = false := decide_eq_false (by omega)
    rw [e1, e2, Bool.or_false]) (by rw [h1]; simpa using h2) ⟨.str ⟨#[c]⟩, H, I.tok _, ⟨_, rfl⟩, q⟩) hs
/-- list, tuple or str -/
def rIx (K : PySem.W.Frag) : R2 := fun x y H Q => rIxL K x y H Q ∨ rIxT K x y H Q ∨ rIxS x y H Q
theorem ix_seq : IxR X (rIx X.K) := ix_list.or (ix_tup.or ix_str)

/-! ### xs[i] = v, any sign -/

/-! ### slices -/
theorem slice_bounds (lo hi : Option Int) (n : Nat) : (sliceBounds lo hi none n).1 = ((HT.sIx n 0 lo : Nat) : Int) ∧ (sliceBounds lo hi none n).2.1 = ((HT.sIx n n hi : Nat) : Int) ∧ (sliceBounds lo hi none n).2.2 = 1 := by
  refine ⟨?_, ?_, rfl⟩
  · cases lo with
    | none => simp [sliceBounds, HT.sIx]
    | some i =>
      simp only [sliceBounds, HT.sIx, Option.getD_none, show (1 : Int) > 0 by decide, if_true]
      by_cases h : i < 0
      · simp only [h, if_true] <;> omega
      · simp only [h, if_false] <;> omega
  · cases hi with
    | none => simp [sliceBounds, HT.sIx]
    | some i =>
      simp only [sliceBounds, HT.sIx, Option.getD_none, show (1 : Int) > 0 by decide, if_true]
      by_cases h : i < 0
      · simp only [h, if_true] <;> omega
      · simp only [h, if_false] <;> omega
theorem slicePick_cut (its : List Value) (lo hi : Option Int) : slicePick its.toArray lo hi none = ((its.drop (HT.sIx its.length 0 lo)).take (HT.sIx its.length its.length hi - HT.sIx its.length 0 lo)).toArray := by
  obtain ⟨h1, h2, h3⟩ := slice_bounds lo hi its.toArray.size
  unfold slicePick
  rw [h1, h2, h3]
  simp only [sliceRange_one, pick_run, List.size_toArray] <;> rfl
/-- xs[lo:hi] of a list: a new list -/
def rSlL (K : PySem.W.Frag) : V → Option Int → Option Int → Hp → VK → Prop := fun x lo hi H Q => ∃ a xs, x = .ref a ∧ SqL K H a xs ∧ ∀ p, H p = none → Q (.ref p) (upd H p (.lst (cutV xs lo hi)))
theorem sl_list : SlR X (rSlL X.K) := by
  intro pins s σ H x v vl vu lo hi sl Q I rx hs pl pu h
  obtain ⟨a, xs, rfl, hx, q⟩ := h
  cases rx
  obtain ⟨its, r, ht, hz⟩ := I.list hx
  have hlen := r.length
  refine ⟨"list", _, slot_list_getitem.lookup, ht.isList.typeIs, ?_⟩
  refine wpAny_getItem_list_slice ht.isList hs pl pu .none (by simp) ?_ (by rw [List.size_toArray] <;> omega)
  rw [slicePick_cut, ← hlen]
  refine ⟨.ref s.heap.objs.size, _, I.laid (t' := s.toks) (o := .lst (cutV xs lo hi)) (fun b ob q => Heap.get?_push_of_some _ q) (Nat.le_refl _) ?_, rfl, q _ (I.hok.fresh (Nat.le_refl _))⟩
  exact ⟨Nat.le_trans (cutV_length xs lo hi) hz, _, 0, (r.drop (HT.sIx xs.length 0 lo)).take (HT.sIx xs.length xs.length hi - HT.sIx xs.length 0 lo), Heap.get?_push_size _ rfl⟩

/-! ### in, not in: flat items -/

/-! ### len, list(x), tuple(x) of any list or tuple that is read -/
theorem call_len_seq : CallR X (.builtin "len") (fun xs H Q => ∃ p ys, xs = [.ref p] ∧ (SqL X.K H p ys ∨ SqT X.K H p ys) ∧ Q (.int ys.length) H) := by
  intro pins s σ H xs us Q I r h
  obtain ⟨p, ys, rfl, hq, q⟩ := h
  obtain ⟨u, rfl, rx⟩ := vals1 r
  cases rx
  have hn := line63
  rcases hq with hq | hq
  · obtain ⟨its, r', pl, hz⟩ := I.list hq
    have hlen := r'.length
    exact Calls.call_len_list pl.isList (by simp only [List.size_toArray] <;> omega) ⟨.int ys.length, H, I.tok _, ⟨s.toks + 1, by rw [List.size_toArray, hlen]⟩, q⟩
  · obtain ⟨its, r', pl, hz⟩ := I.tuple hq
    have hlen := r'.length
    exact len_tuple pl (by simp only [List.size_toArray] <;> omega) ⟨.int ys.length, H, I.tok _, ⟨s.toks + 1, by rw [List.size_toArray, hlen]⟩, q⟩
theorem call_len_str : CallR X (.builtin "len") (fun xs H Q => ∃ z, xs = [.str z] ∧ z.length ≤ sizeLine ∧ Q (.int z.length) H) := by
  intro pins s σ H xs us Q I r h
  obtain ⟨z, rfl, hz, q⟩ := h
  obtain ⟨u, rfl, t, rfl⟩ := vals1 r
  have hn := line63
  exact len_str (by omega) ⟨.int z.length, H, I.tok _, ⟨_, rfl⟩, q⟩

/-! ### the call of a builtin's method: o.m(..) -/
/-- the value is of that builtin type -/
def tyV (K : PySem.W.Frag) (T : String) (x : V) (H : Hp) : Prop := match x with
  | .str _ => T = "str"
  | .int _ => T = "int"
  | .ref p => (T = "list" ∧ ∃ xs, SqL K H p xs) ∨ (T = "tuple" ∧ ∃ o, K.lookup p = some o ∧ o.cls = .type "tuple" ∧ o.dict = none) ∨
      (T = "dict" ∧ ((∃ kvs, H p = some (.dK kvs)) ∨ ∃ kvs, H p = some (.dT kvs))) ∨ (T = "set" ∧ ∃ S n, H p = some (.set S n))
  | _ => False
theorem tyV_is {pins : List (Addr × Obj)} {σ : St} {H : Hp} {s : Shared} {T : String} {x : V} {v : Value} (I : Inv X pins σ H s) (r : RelV x v) (ty : tyV X.K T x H) :
    s.TypeIs v T ∧ ∀ a, v = .ref a → ∃ ob, s.heap.get? a = some ob ∧ ob.dict = none := by
  cases x with
  | str z =>
    obtain ⟨t, rfl⟩ := r
    cases (show T = "str" from ty)
    exact ⟨typeIs_str s z t, fun _ e => nomatch e⟩
  | int i =>
    obtain ⟨t, rfl⟩ := r
    cases (show T = "int" from ty)
    exact ⟨typeIs_int s i t, fun _ e => nomatch e⟩
  | ref p =>
    cases r
    rcases ty with ⟨rfl, xs, hq⟩ | ⟨rfl, o, hk, hc, hd⟩ | ⟨rfl, hk⟩ | ⟨rfl, S, n, hk⟩
    · obtain ⟨its, _, pl, _⟩ := I.list hq
      refine ⟨pl.isList.typeIs, fun a e => ?_⟩
      cases e
      obtain ⟨o, n, e, c, hd, _⟩ := pl
      exact ⟨o, e, hd⟩
    · refine ⟨⟨o, I.kIn p o hk, hc⟩, fun a e => ?_⟩
      cases e
      exact ⟨o, I.kIn _ o hk, hd⟩
    · have z : ∃ o, s.heap.get? p = some o ∧ o.ExactDict := by
        rcases hk with ⟨kvs, hk⟩ | ⟨kvs, hk⟩
        · obtain ⟨_, _, _, _, o, _, _, e, ex, _⟩ := I.hok p _ hk
          exact ⟨o, e, ex⟩
        · obtain ⟨_, _, _, _, o, _, _, e, ex, _⟩ := I.hok p _ hk
          exact ⟨o, e, ex⟩
      obtain ⟨o, e, ex⟩ := z
      refine ⟨⟨o, e, ex.1⟩, fun a e2 => ?_⟩
      cases e2
      exact ⟨o, e, ex.2.1⟩
    · obtain ⟨o, _, _, _, e, ex, _⟩ := I.hok p _ hk
      refine ⟨⟨o, e, ex.1⟩, fun a e2 => ?_⟩
      cases e2
      exact ⟨o, e, ex.2.1⟩
  | _ => exact False.elim ty
def tBM (K : PySem.W.Frag) (T : String) (r : V → List V → Hp → VK → Prop) (to : TE) (t : TA) : TE := fun σ H Q => to σ H fun x H1 => tyV K T x H1 ∧ t σ H1 fun xs H2 => r x xs H2 Q
variable {o e : Expr} {es : List Expr} {to : TE} {t : TA} {name : Str} {apos cpos : Pos} {T id : String} {r : V → List V → Hp → VK → Prop}
theorem pe_bm (pa : PlainAttrs T) (slot : Slot T name id) (hty : typeOf (.builtin id) = pure (.type "method_descriptor")) (hm : MtR X id r) (ho : PE X o to) (ha : PA X (e :: es) t)
    (hbase : attributeBase o name X.env (eval o X.env) = eval o X.env := by rfl)
    (hfew : ((backTo cpos (starEach (e :: es) X.env)).all (fun x => !x.1) && (backToKw cpos (keywordEach [] X.env)).all (fun x => x.1.isSome)
      && decide ((e :: es).length + ([] : List Keyword).length + (if ([] : List Keyword).isEmpty then 0 else 1) < 30)) = true := by rfl)
    (hline : (apos.endLine == cpos.line) = true := by rfl) (hs : starEach (e :: es) X.env = (false, eval e X.env) :: starEach es X.env := by rfl) (hplain : (backTo cpos (starEach es X.env)).any (·.1) = false := by rfl) :
    PE X (.Call (.Attribute o name apos) (e :: es) [] cpos) (tBM X.K T r to t) := by
  intro pins s σ H Q I h
  refine wpAny_Call_method_late hbase hfew hline rfl (thn (ho pins s σ H _ I h) fun v s1 ⟨x, H1, I1, r1, ty, q1⟩ => ?_)
  obtain ⟨h1, h2⟩ := tyV_is I1 r1 ty
  refine ⟨T, id, pa, slot, hty, h1, h2, ?_⟩
  have hA := ha cpos pins s1 σ H1 _ I1 q1
  rw [hs] at hA ⊢
  refine Calls.callWith_builtin (by show (false || (backTo cpos (starEach es X.env)).any (·.1)) = false; rw [hplain] <;> rfl) (Calls.evalArgs_plain ?_)
  exact thn hA fun us s2 ⟨vs, H2, I2, r2, q2⟩ => hm pins s2 σ H2 x vs v us Q I2 r1 r2 q2
/- xs.append(e), list.index on a module's tuple .. are MtR facts of 06m -/
end
end L2

namespace L2
open PySem PySem.Spec PyProof.Rows

def MtM (X : Cx) (id : String) (r : V → List V → Hp → VK → Prop) : Prop :=
  ∀ (pins : List (Addr × Obj)) (s : Shared) (σ : St) (H : Hp) (x : V) (xs : List V) (v : Value) (us : List Value) (Q : VK), Inv X pins σ H s → RelV x v → Vals xs us → r x xs H Q →
    wpAny (model X.prog X.w) X.A (call (.builtin id) (v :: us)) (EP X pins σ Q) X.xe s

/-! ### lists of values -/
theorem Vals.one : ∀ {x : V} {us : List Value}, Vals [x] us → ∃ u, us = [u] ∧ RelV x u
  | _, _, .cons r .nil => ⟨_, rfl, r⟩

section
variable {X : Cx} {pins : List (Addr × Obj)} {σ : St} {H : Hp} {s : Shared} {l b : Addr} {xs ys zs : List V}

/-! ### the two steps: a tracked list is rewritten, a new list is laid -/
theorem Inv.lset {its its' : List Value} {n : Nat} {f : Array Value → Array Value} {t' : Nat} (I : Inv X pins σ H s) (hH : H l = some (.lst xs))
    (e : s.heap.get? l = some { cls := .type "list", data := .seq its.toArray n }) (hf : f its.toArray = its'.toArray) (hv : Vals ys its') (hz : ys.length ≤ sizeLine) :
    Inv X pins σ (upd H l (.lst ys)) { s with heap := s.heap.update l (Obj.mapSeq f), toks := t' } := by
  have q := PySem.IsL.update e f
  rw [hf] at q
  refine I.write (x := l) (e := l) (by rw [hH]; exact trivial) (.inl rfl) (fun b' u hb hu => (Heap.get?_update_other s.heap (Obj.mapSeq f) (Ne.symm hb)).trans hu) ⟨_, q⟩ ?_
  exact ⟨hz, its', _, hv, q⟩
theorem Inv.lnew {its : List Value} {t' : Nat} (I : Inv X pins σ H s) (hv : Vals ys its) (hz : ys.length ≤ sizeLine) :
    Inv X pins σ (upd H s.heap.objs.size (.lst ys)) { s with heap := s.heap.push { cls := .type "list", data := .seq its.toArray }, toks := t' } :=
  I.laid (fun _ _ q => Heap.get?_push_of_some _ q) (Nat.le_refl _) ⟨hz, its, 0, hv, Heap.get?_push_size _ rfl⟩
theorem Inv.fresh (I : Inv X pins σ H s) : H s.heap.objs.size = none := I.hok.fresh (Nat.le_refl _)
theorem Inv.lstM (I : Inv X pins σ H s) (hH : H l = some (.lst xs)) : xs.length ≤ sizeLine ∧ ∃ (its : List Value) (n : Nat), Vals xs its ∧ xs.length = its.length ∧ s.heap.get? l = some { cls := .type "list", data := .seq its.toArray n } := by
  obtain ⟨z, its, n, r, e⟩ := I.hok l _ hH
  exact ⟨z, its, n, r, r.length, e⟩

theorem notLongL {n : Nat} (h : n ≤ sizeLine) : Builtin.List.listTooLong n = false := by
  unfold Builtin.List.listTooLong
  exact decide_eq_false (by omega)
end

section
variable {X : Cx}

/-! ### methods -/
def rAppend : V → List V → Hp → VK → Prop := fun x vs H Q => ∃ l xs y, x = .ref l ∧ vs = [y] ∧ H l = some (.lst xs) ∧ xs.length < sizeLine ∧ Q .non (upd H l (.lst (xs ++ [y])))
theorem mt_append : MtM X "list.append" rAppend := by
  intro pins s σ H x vs v us Q I rx rv h
  obtain ⟨l, xs, y, rfl, rfl, hH, hz, q⟩ := h
  cases rx
  obtain ⟨u, rfl, ru⟩ := rv.one
  obtain ⟨z, its, n, r, hl, e⟩ := I.lstM hH
  refine call_meets F.slot_list_append ⟨_, e, rfl⟩ F.entry_list_append (F.args_list_append_2 _ _) (PySem.list_append l its.toArray n u (by rw [List.size_toArray]; omega)) ⟨e, ?_⟩
  refine ⟨.non, _, I.lset (its' := its ++ [u]) hH e (by simp) (r.append (.cons ru .nil)) ?_, rfl, q⟩
  rw [List.length_append, List.length_singleton]
  omega

def rExtend : V → List V → Hp → VK → Prop := fun x vs H Q => ∃ l b xs zs, x = .ref l ∧ vs = [.ref b] ∧ H l = some (.lst xs) ∧ H b = some (.lst zs) ∧ xs.length + zs.length ≤ sizeLine ∧ Q .non (upd H l (.lst (xs ++ zs)))
theorem mt_extend : MtM X "list.extend" rExtend := by
  intro pins s σ H x vs v us Q I rx rv h
  obtain ⟨l, b, xs, zs, rfl, rfl, hH, hB, hz, q⟩ := h
  cases rx
  obtain ⟨u, rfl, ru⟩ := rv.one
  cases ru
  obtain ⟨z, its, n, r, hl, e⟩ := I.lstM hH
  obtain ⟨z2, its2, n2, r2, hl2, e2⟩ := I.lstM hB
  have hsz : its.toArray.size + its2.toArray.size ≤ sizeLine := by rw [List.size_toArray, List.size_toArray]; omega
  have hlong : ¬ (!its.toArray.isEmpty && Builtin.List.listTooLong (its.toArray.size + its2.toArray.size)) = true := by
    rw [notLongL hsz, Bool.and_false]
    exact Bool.false_ne_true
  refine call_meets F.slot_list_extend ⟨_, e, rfl⟩ F.entry_list_extend (F.args_list_extend_2 _ _)
    (AutoSeq1.list_extend_list_list_0 l its.toArray n b its2.toArray n2 hlong (by rw [List.size_toArray]; omega) (by omega)) ⟨e, e2, ?_⟩
  refine ⟨.non, _, I.lset (its' := its ++ its2) hH e (by simp) (r.append r2) ?_, rfl, q⟩
  rw [List.length_append]
  omega





/-! ### list + list, list += list, list * int -/
def rCat : R2 := fun x y H Q => ∃ l b xs zs, x = .ref l ∧ y = .ref b ∧ H l = some (.lst xs) ∧ H b = some (.lst zs) ∧ xs.length + zs.length ≤ sizeLine ∧ ∀ p, H p = none → Q (.ref p) (upd H p (.lst (xs ++ zs)))
theorem op_cat : OpR X (binaryOp .Add) rCat := by
  intro pins s σ H x y v u Q I rx ry h
  obtain ⟨l, b, xs, zs, rfl, rfl, hH, hB, hz, q⟩ := h
  cases rx
  cases ry
  obtain ⟨z, its, n, r, hl, e⟩ := I.lstM hH
  obtain ⟨z2, its2, n2, r2, hl2, e2⟩ := I.lstM hB
  refine PySem.P.add_list e e2 ?_ (by rw [List.size_toArray, List.size_toArray]; omega)
  have ea : its.toArray ++ its2.toArray = (its ++ its2).toArray := by simp
  rw [ea]
  exact ⟨.ref _, _, I.lnew (t' := s.toks) (r.append r2) (by rw [List.length_append]; omega), rfl, q _ I.fresh⟩

/-! ### del xs[i] -/
end

/-! ### xs[a:b] = ys -/
section
variable {prog : Program} {w : World} {A : Around} {E : Value → Shared → Prop} {s : Shared}
end

section
variable {X : Cx}
end
end L2

namespace Att
open PySem PySem.W PySem.Calls PyProof.Rows

/-! ### the script -/
theorem ints_of_wellAll {P : Params} {h : Heap} : ∀ (ns : List Int) (vs : List Value), WellAll P h vs (ns.map WData.int) → IntsAre vs ns := by
  intro ns
  induction ns with
  | nil =>
    intro vs w
    rw [List.map_nil] at w
    cases w
    exact .nil
  | cons n ns ih =>
    intro vs w
    rw [List.map_cons] at w
    cases w with
    | cons a b =>
      cases a
      exact .cons _ _ (ih _ b)

theorem script_of {l : OpenLaw} {n : Nat} (hn : l.most = some n) {P : Params} {h : Heap} {args : List WData} {vals : List Value}
    (hpre : l.row.toRowW.claim.pre args = true) (hwl : WellAll P h vals args) :
    ∃ a vs ns, vals = [Value.ref a] ∧ args = [WData.list (ns.map WData.int)] ∧ h.get? a = some { cls := .type "list", data := .seq vs.toArray } ∧ IntsAre vs ns ∧ ns.length ≤ n := by
  have hsh : WShape.hasAll [] args [.list .int] = true := (pre_splitW hpre).1
  have hc : l.pre.holds [] { args := args } = true := (pre_splitW hpre).2
  obtain ⟨d, r, rfl, h1, h2⟩ := hasAllW_cons hsh
  obtain rfl := hasAllW_nil h2
  obtain ⟨xs, rfl, h3⟩ := hasW_list h1
  obtain ⟨ns, rfl⟩ := items_int h3
  have hlen : ns.length ≤ n := by
    unfold OpenLaw.pre at hc
    have h4 : (WTm.not (.lt (.lit (.int (n : Int))) (.len (.arg 0)))).holds [] { args := [.list (ns.map .int)] } = true := by
      have h4 := (holds_andW hc).1
      rw [hn] at h4
      exact h4
    have h5 := condW_of h4 (w_not (w_lt w_lit (w_len_list (w_arg rfl))))
    rw [List.length_map] at h5
    refine Nat.le_of_not_lt fun q => ?_
    have q' : (n : Int) < ((ns.length : Nat) : Int) := by omega
    first
      | (rw [decide_eq_true q'] at h5; exact absurd h5 (by decide))
      | (simp at h5; omega)
  cases hwl with
  | cons w1 w2 =>
    cases w2
    cases w1 with
    | list ho hall => exact ⟨_, _, ns, rfl, rfl, ho, ints_of_wellAll ns _ hall, hlen⟩

theorem post_true (l : OpenLaw) (args : List WData) : l.row.toRowW.claim.post args (.bool true) args = true :=
  postW_of (r := l.row.toRowW) (X := (true == true))
    (show WShape.has [] (.bool true) .bool = true by first | rfl | decide | simp [WShape.has, WShape.arms, WShape.armsAll])
    (show (WTm.eq .res (.lit (.bool true))).value [] { args := args, res := some (.bool true), after := args } = some (.bool (true == true)) from w_eq_bool (w_res rfl) w_lit) rfl

/-! ### the attachment: holds_open's last premise (the goal 'hc' behind k_head) from a wpAny of the law's body -/

/-- the same from a codeAny of the CALL (for a layer whose function contracts speak of calls) -/
theorem attach_call {l : OpenLaw} {n : Nat} {q : Program} {loose : List Str} {XP : (Str → Option Value) → Heap → Prop} {YP : World → Heap → Prop} {d : DefRec}
    (hn : l.most = some n) (hdf : d.params.defaults = [])
    (call : ∀ (w : World) (s₀ s₁ : Shared) (mg mb : Str → Option Value) (fa : Addr) (o : Obj) (pm cd doc : Value) (a : Addr) (vs : List Value) (ns : List Int),
      Ground q loose [] XP w s₀ mg mb s₁.heap → YP w s₁.heap →
      s₁.heap.get? fa = some o → o.data = .func (docDef d.name d.params d.body d.scope pm cd doc) → s₁.heap.CodeRec cd d.name → mg d.name = some (.ref fa) →
      s₁.heap.get? a = some { cls := .type "list", data := .seq vs.toArray } → IntsAre vs ns → ns.length ≤ n → s₁.gens = #[] →
      codeAny (model l.prog w) callerA (.call (.ref fa) ⟨[.ref a], []⟩) (fun r s' => r = .ok (.ret (.bool true)) ∧ OldK s₁.heap s'.heap ∧ s'.os = s₁.os ∧ AllBare s'.gens) s₁) :
    WalkO q loose XP YP l.row.toRowW d [] (fun f vs => PySem.call f vs) := by
  intro w s₀ s₁ mg mb G Y fa o pm cd doc dV kV ho hd hcd hD hmg hg args vals as hpre hlay hrd hwl hlo
  obtain rfl : dV = .none := Dflts.none hD hdf
  obtain rfl : kV = .none := Dflts.noKw hD
  obtain ⟨a, vs, ns, rfl, rfl, hobj, hints, hlen⟩ := script_of hn hpre hwl
  refine enter_call (codeAny_mono (call w s₀ s₁ mg mb fa o pm cd doc a vs ns G Y ho (fd_plain hd) hcd hmg hobj hints hlen hg) fun r s' hq => ?_)
  obtain ⟨rfl, h2, h3, h4⟩ := hq
  exact ⟨.inl ⟨.bool true, .bool true, [], rfl, fun _ => rfl, .bool true, post_true l _, fun _ => ⟨List.Pairwise.nil, fun _ hm => (nomatch hm)⟩⟩, h2, h3, h4⟩


/-! ### rules over ANY heap (no ledger) from facts about the written part K: the library's own take a ledger (News) for what they write -/
section
variable {prog : Program} {w : World} {A : Around} {E : Value → Shared → Prop} {s : Shared} {K : Frag}





/-! the whole heap as the ledger: makes every rule that writes through a ledger a rule over any heap -/

end
end Att

namespace L2
open PySem PySem.Spec PyProof.Rows

theorem vals_ints : ∀ {vs : List Value} {ns : List Int}, IntsAre vs ns → Vals (ns.map V.int) vs
  | _, _, .nil => .nil
  | _, _, .cons n t h => .cons ⟨t, rfl⟩ (vals_ints h)

/-- nothing is tracked but the script, known to the object (or it is an object of the module) -/
def Only (H : Hp) : Prop := ∀ b, H b = none ∨ ∃ o xs, H b = some (.frz o (.lst xs))

/-- THE HEAD: the law's promise, at the heap behind the top. F, the promise of the law's def, may use that base is part of the heap (so K.In base, base.Ns mainGlobals mg stand in Mod) -/
theorem law_call {P : Program} {w : World} {K : PySem.W.Frag} {mg mb : Str → Option Value} {CX : CXT} {k : Nat} {fa a : Addr} {fd : FuncData} {x : Str} {sp : Sp} {s₁ : Shared} {vs : List Value} {ns : List Int}
    (KX : K.In s₁.heap) (hns : s₁.heap.Ns mainGlobals mg) (hb : s₁.heap.Ns builtinsNs mb) (hbb : ∀ x : Str, x ≠ "__name__" → mb x = bootBuiltins x) (hlim : s₁.heap.NoLimit) (hg : s₁.gens = #[])
    (ha : s₁.heap.get? a = some { cls := .type "list", data := .seq vs.toArray }) (hi : IntsAre vs ns) (hl : ns.length ≤ sizeLine) (hr : Room k callerA)
    (F : ∀ base : Heap, K.In base → base.Ns mainGlobals mg → FnOk P w K mg base CX k fa fd [x] sp) (hbind : ∀ (s : Shared) (u : Value), BindsTo s fd ⟨[u], []⟩ [(x, u)])
    (hsp : ∀ H : Hp, Only H → SqL K H a (ns.map V.int) → sp [.ref a] H (fun v _ => v = .bl true) fun _ _ _ => False)
    (hCX : ∀ H e s', CX [] H s₁ (fun _ _ _ => False) e s' → False) :
    codeAny (model P w) callerA (.call (.ref fa) ⟨[.ref a], []⟩) (fun r s' => r = .ok (.ret (.bool true)) ∧ OldK s₁.heap s'.heap ∧ s'.os = s₁.os ∧ AllBare s'.gens) s₁ := by
  have rv := vals_ints hi
  have lenV := hi.length
  -- from an abstract heap in which nothing but the script may be tracked
  have core : ∀ H : Hp, Only H → SqL K H a (ns.map V.int) → HOk P w H s₁.heap → (∀ b, H b ≠ none → b = a) → (H a ≠ none → K.lookup a = none) →
      codeAny (model P w) callerA (.call (.ref fa) ⟨[.ref a], []⟩) (fun r s' => r = .ok (.ret (.bool true)) ∧ OldK s₁.heap s'.heap ∧ s'.os = s₁.os ∧ AllBare s'.gens) s₁ := by
    intro H hO hS hok hA hK
    have base_of : ∀ {b : Addr} {o : Obj}, s₁.heap.get? b = some o → H b = none → (hidT s₁.heap H).get? b = some o := fun e n => hidT_get e n
    have noA : ∀ {b : Addr} {o : Obj} {es : Array DictEntry} {ep : Nat}, s₁.heap.get? b = some o → o.data = .dict es ep → H b = none := fun {b o es ep} e d => by
      cases q : H b with
      | none => rfl
      | some u =>
        have e' : b = a := hA b (by rw [q]; simp)
        subst e'
        rw [ha] at e; cases e
        have d' : Data.seq vs.toArray _ = Data.dict es ep := d
        cases d'
    have nsK : ∀ {b : Addr} {m : Str → Option Value}, s₁.heap.Ns b m → (hidT s₁.heap H).Ns b m := fun {b m} ⟨o, es, ep, e, d, r⟩ => ⟨o, es, ep, base_of e (noA e d), d, r⟩
    have hKb : K.In (hidT s₁.heap H) := fun b o e => base_of (KX b o e) (by
      cases q : H b with
      | none => rfl
      | some u =>
        have e' : b = a := hA b (by rw [q]; simp)
        subst e'
        rw [hK (by rw [q]; simp)] at e; cases e)
    have hM : Mod K mg (hidT s₁.heap H) := ⟨hKb, nsK hns, ⟨mb, nsK hb, hbb⟩, let ⟨mc, h1, h2⟩ := hlim; ⟨mc, nsK h1, h2⟩⟩
    have e0 : Env0 P w K mg (hidT s₁.heap H) callerA [] s₁ H := ⟨rfl, hM, fun b o e => of_hidT e, Nat.le_of_eq (hidT_size _ _), trivial, fun b hb => absurd (show b ∈ ([] : List Addr) from hb) (by simp), hok, .of_eq hg⟩
    refine codeAny_mono ((F _ hKb (nsK hns)).run callerA [] s₁ H ⟨[.ref a], []⟩ [.ref a] [.ref a] _ _ hr e0 (hbind s₁ (.ref a)) (.cons rfl .nil) (hsp H hO hS)) fun r s' h => ?_
    cases r with
    | error e => exact (hCX H e s' h).elim
    | ok fl =>
      cases fl with
      | next => exact False.elim h
      | brk => exact False.elim h
      | cont => exact False.elim h
      | ret u =>
        obtain ⟨v, H', os, bare, un, hok', r', q⟩ := h
        have q' : v = .bl true := q
        subst q'
        obtain rfl : u = Value.bool true := r'
        refine ⟨rfl, OldK.of_keep fun b o e => ?_, os, bare⟩
        cases q : H b with
        | none => exact un.keep b o e q (by intro z; exact absurd (show b ∈ ([] : List Addr) from z) (by simp)) (by simp)
        | some u =>
          rcases hO b with z | ⟨ob, xs, z⟩
          · rw [q] at z; cases z
          · have z2 := un.frzs b ob _ z
            obtain ⟨e1, _⟩ := hok b _ z
            obtain ⟨e2, _⟩ := hok' b _ z2
            rw [e] at e1; cases e1
            exact e2
  cases hk : K.lookup a with
  | some o =>
    -- the script is one of the module's own objects
    have e := KX a o hk
    rw [ha] at e
    cases e
    refine core (fun _ => none) (fun _ => .inl rfl) (.inr ⟨_, vs.toArray, _, hk, rfl, rfl, rfl, by rw [List.size_toArray, lenV]; exact hl, by simpa using rv⟩) (fun b u z => by have z' : (none : Option HO) = some u := z; cases z') (fun b z => absurd rfl z) fun z => absurd rfl z
  | none =>
    refine core (fun b => if b = a then some (.frz { cls := .type "list", data := .seq vs.toArray } (.lst (ns.map V.int))) else none) (fun b => ?_) (.inl (.inr ⟨{ cls := .type "list", data := .seq vs.toArray }, if_pos rfl⟩)) (fun b u z => ?_) (fun b z => ?_) fun _ => hk
    · by_cases hb : b = a
      · exact .inr ⟨_, _, if_pos hb⟩
      · exact .inl (if_neg hb)
    · by_cases hb : b = a
      · have z' := (if_pos hb).symm.trans z
        cases z'
        subst hb
        exact ⟨ha, by rw [List.length_map]; exact hl, vs, _, rv, ha⟩
      · have z' := (if_neg hb).symm.trans z
        cases z'
    · by_cases hb : b = a
      · exact hb
      · exact absurd (if_neg hb) z
end L2

namespace L2
open PySem PySem.Spec PyProof.Rows

abbrev KOf {K : PySem.W.Frag} {h : Heap} (_ : K.In h) : PySem.W.Frag := K

/-- the goal that k_head leaves (case hc), from the law's promise. F gives the function object fd (K's own) once, then the promise over every base -/
theorem walk_of {l : PySem.W.OpenLaw} {n k : Nat} {q : Program} {loose : List Str} {XP : (Str → Option Value) → Heap → Prop} {YP : World → Heap → Prop} {d : DefRec} {K : Params → PySem.W.Frag} {CX : World → CXT} {sp : World → Sp} {x : Str}
    (hn : l.most = some n) (hn2 : n ≤ sizeLine) (hdf : d.params.defaults = []) (hr : Room k callerA)
    (hY : ∀ (w : World) (h : Heap), YP w h → (K w.params).In h)
    (F : ∀ (w : World) (mg : Str → Option Value) (fa : Addr) (h : Heap), (K w.params).In h → h.Ns mainGlobals mg → mg d.name = some (.ref fa) →
      ∃ fd : FuncData, (∀ (s : Shared) (u : Value), BindsTo s fd ⟨[u], []⟩ [(x, u)]) ∧
        ∀ base : Heap, (K w.params).In base → base.Ns mainGlobals mg → FnOk l.prog w (K w.params) mg base (CX w) k fa fd [x] (sp w))
    (hsp : ∀ (w : World) (H : Hp) (a : Addr) (ns : List Int), ns.length ≤ n → Only H → SqL (K w.params) H a (ns.map V.int) → sp w [.ref a] H (fun v _ => v = .bl true) fun _ _ _ => False)
    (hCX : ∀ (w : World) (H : Hp) (s : Shared) (e : Value) (s' : Shared), CX w [] H s (fun _ _ _ => False) e s' → False) :
    PySem.W.WalkO q loose XP YP l.row.toRowW d [] (fun f vs => PySem.call f vs) := by
  refine Att.attach_call hn hdf fun w s₀ s₁ mg mb fa o pm cd doc a vs ns G Y ho hd hcd hmg hobj hints hlen hg => ?_
  have KX := hY w _ Y
  obtain ⟨fd, hb, hF⟩ := F w mg fa _ KX G.T.g hmg
  exact law_call KX G.T.g G.T.b G.T.builtins G.T.nolimit hg hobj hints (Nat.le_trans hlen hn2) hr hF hb (fun H hO hS => hsp w H a ns hlen hO hS) fun H e s' => hCX w H s₁ e s'
end L2

/- THE LAST THEOREM (shape; LID, My.* are yours):
   My.Adr: a structure of the addresses that your layer names (classes, functions); My.Txt K t: a structure (Prop) of the equations over K;
   My.txt_mk : {K} {implicit addresses ..} (e1 : nsIn K mainGlobals "law" = some (some (.ref f))) (e2 : K.lookup f = some ⟨oc, od, .func (fnOf "law" "law" params body scope dV kV doc pm an cdv ct), sl⟩) (e3 : codeIn K cdv "law" = true) .. : ∃ t, My.Txt K t

set_option maxRecDepth 100000 in
set_option maxHeartbeats 0 in
theorem PySem.Challenge.cw_LID_holds : PySem.Challenge.rw_LID.Holds := by
  w_on; o_law; k_head; (case hw => w_witness2)
  k_fill
  refine L2.walk_of (l := PySem.Challenge.rw_LID) (n := 63) (k := 40) (x := "script") (CX := fun w => ..) (sp := fun _ => My.sp_law) rfl (by decide) rfl ⟨rfl, by decide, by decide⟩ (fun w h Y => PySem.W.kIn_of Y) ?F ?S ?C
  case F =>
    intro w mg fa h KX G hmg
    have T : ∃ t, My.Txt (L2.KOf KX) t := by
      dsimp only [L2.KOf]                          -- K must stand as «<heap const> w.params» for k_is
      refine' My.txt_mk ?e1 ?e2 ?e3 ..
      (case e1 => PySem.W.k_is)                    -- in the order: a name -> its address -> its object -> its parts
      (case e2 => PySem.W.k_is)
      ..
    obtain ⟨t, T⟩ := T
    have e0 := hmg.symm.trans (PySem.W.mg_of KX G T.law)
    cases e0                                       -- fa is the law's own address
    exact ⟨_, fun s u => .of_eq rfl, fun base kb nb => My.law_fn T kb nb⟩     -- if «.of_eq rfl» comes too early: refine' ⟨_, ?b, fun base kb nb => My.law_fn T kb nb⟩; exact fun s u => .of_eq rfl
  case S => exact fun w H a ns hl hO hS => ..
  case C => exact ..
(the tactic k_is has no namespace: write k_is) -/

/-! SHORT WORDS over the layer: a def of the text, its body, what a loop and a test want. -/
namespace L2
open PySem PySem.Spec PyProof.Rows

/-! ### the text by places -/
def defArgs (s : Stmt) : Arguments := match s with
  | .FunctionDef _ a _ _ _ _ _ _ _ _ => a
  | _ => { posonlyargs := [], args := [], vararg := none, kwonlyargs := [], kw_defaults := [], kwarg := none, defaults := [] }
def defBody (s : Stmt) : List Stmt := match s with
  | .FunctionDef _ _ b _ _ _ _ _ _ _ => b
  | _ => []
def defScope (s : Stmt) : Scope := match s with
  | .FunctionDef _ _ _ _ _ _ sc _ _ _ => sc
  | _ => { kind := .function, names := [], isGenerator := false, isCoroutine := false }

/-! ### no exception leaves a def -/
abbrev CX0 : CXT := fun _ _ _ _ _ _ => False
abbrev E0 : XK := fun _ _ _ => False
theorem pass0 {X : Cx} : Passes CX0 X E0 := fun _ _ _ _ _ _ _ h => h.elim

/-! ### a def (or method) of the text as it stands behind the top -/
structure Fun (K : PySem.W.Frag) (x qual : Str) (st : Stmt) (f : Addr) (fd : FuncData) : Prop where
  ex : ∃ (oc : Value) (od : Option Addr) (kV doc pm : Value) (an : Option Addr) (cdv ct : Value) (osl : Array (Option Value)),
    fd = PySem.W.fnOf x qual (defArgs st) (defBody st) (defScope st) .none kV doc pm an cdv ct ∧ K.lookup f = some ⟨oc, od, .func fd, osl⟩ ∧ PySem.W.codeIn K cdv qual = true
  kp : PySem.W.keepIn K (.ref f) = true
section
variable {P : Program} {w : World} {K : PySem.W.Frag} {mg : Str → Option Value} {base : Heap}
/-- THE RULE for a def: its body as a term of rules, and the reading of that term -/
theorem Fun.ok {x qual : Str} {st : Stmt} {f : Addr} {fd : FuncData} {N ps : List Str} {k : Nat} {sp : Sp} (F : Fun K x qual st f fd) (S : FnScope N ps (defScope st)) (len : ∀ vs H Q E, sp vs H Q E → vs.length = ps.length)
    (hbody : ∀ (cdv : Value) (A : Around) (outer : List Env) (s : Shared) (H : Hp) (vs : List V) (Q : VK) (E : XK), Room k (A.deeper (envOfC qual (defScope st) s.heap.objs.size f cdv)) → sp vs H Q E →
      ∃ t, PSs (cxOf CX0 P w K mg base N qual (defScope st) f cdv A outer s H E).nox (defBody st) t ∧ t { nx := fun _ H' => Q .non H', rt := Q } (start N vs) H) : FnOk P w K mg base CX0 (k + 1) f fd ps sp := by
  obtain ⟨oc, od, kV, doc, pm, an, cdv, ct, osl, rfl, lk, hcd⟩ := F.ex
  refine fn_of lk hcd S len fun A outer s H vs Q E hr hsp => ?_
  obtain ⟨t, h, q⟩ := hbody cdv A outer s H vs Q E hr hsp
  exact ⟨t, h.nox, q⟩
/-- how its arguments bind (no defaults): h is «fun _ _ _ _ _ _ us hl => match us, hl with | [_, _], _ => rfl», one _ a parameter -/
theorem Fun.binds {x qual : Str} {st : Stmt} {f : Addr} {fd : FuncData} {ps : List Str} (F : Fun K x qual st f fd)
    (h : ∀ (kV doc pm : Value) (an : Option Addr) (cdv ct : Value) (us : List Value), us.length = ps.length → bindArgs (PySem.W.fnOf x qual (defArgs st) (defBody st) (defScope st) .none kV doc pm an cdv ct) ⟨us, []⟩ = pure (ps.zip us)) : Binds K fd ps [] := by
  obtain ⟨oc, od, kV, doc, pm, an, cdv, ct, osl, rfl, lk, hcd⟩ := F.ex
  exact .all (h kV doc pm an cdv ct)
theorem fun_mk {x qual : Str} {st : Stmt} {f : Addr} {oc : Value} {od an : Option Addr} {osl : Array (Option Value)} {kV doc pm cdv ct : Value} (l : K.lookup f = some ⟨oc, od, .func (PySem.W.fnOf x qual (defArgs st) (defBody st) (defScope st) .none kV doc pm an cdv ct), osl⟩)
    (c : PySem.W.codeIn K cdv qual = true) (k : PySem.W.keepIn K (.ref f) = true) : Fun K x qual st f (PySem.W.fnOf x qual (defArgs st) (defBody st) (defScope st) .none kV doc pm an cdv ct) := ⟨⟨oc, od, kV, doc, pm, an, cdv, ct, osl, rfl, l, c⟩, k⟩
end
theorem small1000 {n : Nat} (h : n ≤ 1000) : n < sizeLine := Nat.lt_of_le_of_lt h (by decide)

/-! ### expressions in short: the name that stands in the i-th slot -/
section
variable {X : Cx}
end

/-! ### tests -/
theorem iteF {A B : Prop} (h : B) : if false = true then A else B := by
  rw [if_neg Bool.false_ne_true]
  exact h
theorem iteT {A B : Prop} (h : A) : if true = true then A else B := by
  rw [if_pos rfl]
  exact h

/-! ### heaps -/
end L2


set_option Elab.async false
set_option linter.all false
set_option maxRecDepth 100000
set_option maxHeartbeats 4000000
namespace L2
open PySem PySem.Spec PyProof.Rows

/-! ### lists of pairs as tables -/
section
variable {κ : Type} [DecidableEq κ]



end


/-! ### a tracked dict, its keys ints and texts or tuples of these -/


section
variable {P : Program} {w : World} {H : Hp} {h : Heap} {a : Addr}
end



section
variable {X : Cx} {pins : List (Addr × Obj)} {σ : St} {H : Hp} {s : Shared} {a : Addr} {y v : V} {u r : Value} {o : Option V} {A : Around} {E : Value → Shared → Prop}


end

section
variable {X : Cx} {pins : List (Addr × Obj)} {σ : St} {H : Hp} {s : Shared} {a : Addr} {kvs : List (Key × V)} {k : Key} {u : Value} {A : Around} {E : Value → Shared → Prop}
end


/-! ### readings and rules -/



section
variable {X : Cx} {o i e value : Expr} {pos pos' tpos : Pos} {td ty tv : TE}
end


/-! ### displays -/
section
variable {X : Cx} {pos : Pos}
end

/-- the pairs of a display, from the left -/
def tPairs : List (TE × TE) → St → Hp → (List (V × V) → Hp → Prop) → Prop
  | [], _, H, Q => Q [] H
  | (tk, tv) :: r, σ, H, Q => tk σ H fun x H1 => tv σ H1 fun y H2 => tPairs r σ H2 fun ps H3 => Q ((x, y) :: ps) H3
abbrev VV : List (V × V) → List (Value × Value) → Prop := Paired fun p q => RelV p.1 q.1 ∧ RelV p.2 q.2
def PPs (X : Cx) (pos : Pos) (keys : List (Option Expr)) (values : List Expr) (trs : List (TE × TE)) : Prop :=
  ∀ (pins : List (Addr × Obj)) (s : Shared) (σ : St) (H : Hp) (Q : List (V × V) → Hp → Prop), Inv X pins σ H s → tPairs trs σ H Q →
    wpAny (model X.prog X.w) X.A (evalPairs (pairTrees keys values X.env pos)) (fun vs s' => ∃ ps H', Inv X pins σ H' s' ∧ VV ps vs ∧ Q ps H') X.xe s



/-! ### methods -/
/-- a method call o.m(e) of a built-in, with one argument: what must be seen of the text -/
structure M1 (X : Cx) (o : Expr) (m : Str) (apos : Pos) (e : Expr) (cpos : Pos) : Prop where
  base : attributeBase o m X.env (eval o X.env) = eval o X.env
  few : ((backTo cpos (starEach [e] X.env)).all (fun x => !x.1) && (backToKw cpos (keywordEach [] X.env)).all (fun x => x.1.isSome)
    && decide (([e] : List Expr).length + ([] : List Keyword).length + (if ([] : List Keyword).isEmpty then 0 else 1) < 30)) = true
  line : (apos.endLine == cpos.line) = true
  trees : backTo cpos (starEach [e] X.env) = [(false, eval e X.env)]
structure M2 (X : Cx) (o : Expr) (m : Str) (apos : Pos) (e f : Expr) (cpos : Pos) : Prop where
  base : attributeBase o m X.env (eval o X.env) = eval o X.env
  few : ((backTo cpos (starEach [e, f] X.env)).all (fun x => !x.1) && (backToKw cpos (keywordEach [] X.env)).all (fun x => x.1.isSome)
    && decide (([e, f] : List Expr).length + ([] : List Keyword).length + (if ([] : List Keyword).isEmpty then 0 else 1) < 30)) = true
  line : (apos.endLine == cpos.line) = true
  trees : backTo cpos (starEach [e, f] X.env) = [(false, eval e X.env), (false, eval f X.env)]


section
variable {X : Cx} {pins : List (Addr × Obj)} {σ : St} {H : Hp} {s : Shared} {a : Addr} {y d : V} {u r : Value} {o : Option V} {A : Around} {E : Value → Shared → Prop}
end

section
variable {X : Cx} {o e f : Expr} {apos cpos : Pos} {td ty tx : TE}
end

/-! ### dict(d): a copy -/
section
variable {X : Cx} {pins : List (Addr × Obj)} {σ : St} {H : Hp} {s : Shared} {a : Addr} {kvs : List (Key × V)} {A : Around} {E : Value → Shared → Prop}
end


section
variable {X : Cx} {pins : List (Addr × Obj)} {σ : St} {H : Hp} {s : Shared} {a : Addr} {y : V} {u : Value} {A : Around} {E : Value → Shared → Prop}
end
end L2

set_option Elab.async false
set_option linter.all false
set_option maxRecDepth 100000
set_option maxHeartbeats 4000000
namespace L2
open PySem PySem.Spec PyProof.Rows
/-- the code tables that may grow -/
class TabP where
  tp : Addr → Prop
  ql : Addr → Str
def nT : HO → Prop
  | .tbl _ => False
  | _ => True
def cdP (c : Addr) (q : Str) : Heap → Prop := fun h => h.CodeRec (.ref c) q
def TabOk [TabP] (H : Hp) (P : Addr) : Prop := ∃ ps : Array Value, H P = some (.tbl ps) ∧ TriplesOk ps.toList ∧ ∀ pos cv, codeAmong pos ps.toList = some cv → ∃ c, cv = .ref c ∧ H c = some (.ext (cdP c (TabP.ql P)))
def TabsOk [TabP] (H : Hp) : Prop := ∀ P, TabP.tp P → TabOk H P
/-- all that was tracked is as it was; tables may have grown -/
structure Same [TabP] (H H' : Hp) : Prop where
  at' : ∀ b o, H b = some o → (h : nT o := by exact trivial) → H' b = some o
  tb : ∀ b ps, H b = some (.tbl ps) → ∃ ps', H' b = some (.tbl ps')
  gd : TabsOk H → TabsOk H'
variable [TabP]
theorem nT_or (o : HO) : nT o ∨ ∃ ps, o = .tbl ps := by cases o <;> first | exact .inl trivial | exact .inr ⟨_, rfl⟩
theorem Same.refl (H : Hp) : Same H H := ⟨fun _ _ h _ => h, fun _ ps h => ⟨ps, h⟩, id⟩
theorem Same.trans {H H1 H2 : Hp} (a : Same H H1) (b : Same H1 H2) : Same H H2 :=
  ⟨fun c o h n => b.at' c o (a.at' c o h n) n, fun c ps h => let ⟨p1, e1⟩ := a.tb c ps h; b.tb c p1 e1, fun g => b.gd (a.gd g)⟩
theorem Same.some {H H' : Hp} (s : Same H H') {b : Addr} (h : H b ≠ none) : H' b ≠ none := by
  cases e : H b with
  | none => exact absurd e h
  | some o =>
    rcases nT_or o with n | ⟨ps, rfl⟩
    · rw [s.at' b o e n]; intro z; cases z
    · obtain ⟨p, q⟩ := s.tb b ps e; rw [q]; intro z; cases z
theorem Same.free {H H' : Hp} (e : Same H H') {l : Addr} (h : H' l = Option.none) : H l = Option.none := by
  cases q : H l with
  | none => rfl
  | some o => exact absurd h (e.some (by rw [q]; intro z; cases z))
theorem Same.seq {K : PySem.W.Frag} {H H' : Hp} {a : Addr} {xs : List V} (e : Same H H') (h : SqL K H a xs) : SqL K H' a xs := by
  rcases h with (h | ⟨o, h⟩) | h
  · exact .inl (.inl (e.at' _ _ h))
  · exact .inl (.inr ⟨o, e.at' _ _ h⟩)
  · exact .inr h
/-- a thing changed that is no table and no code -/
theorem TabsOk.put {H : Hp} {p : Addr} (g : TabsOk H) (o : HO) (h1 : ∀ ps, H p ≠ some (.tbl ps)) (h2 : ∀ q, H p ≠ some (.ext (cdP p q))) : TabsOk (upd H p o) := fun P hP => by
  obtain ⟨ps, e, t, c⟩ := g P hP
  refine ⟨ps, by rw [upd_ne (by rintro rfl; exact h1 _ e)]; exact e, t, fun pos cv hc => ?_⟩
  obtain ⟨c', e1, e2⟩ := c pos cv hc
  exact ⟨c', e1, by rw [upd_ne (by rintro rfl; exact h2 _ e2)]; exact e2⟩
theorem TabsOk.new {H : Hp} {p : Addr} (g : TabsOk H) (h : H p = none) (o : HO) : TabsOk (upd H p o) := g.put o (fun ps => by rw [h]; intro z; cases z) (fun φ => by rw [h]; intro z; cases z)
theorem TabsOk.lst {H : Hp} {p : Addr} {zs : List V} (g : TabsOk H) (h : H p = some (.lst zs)) (o : HO) : TabsOk (upd H p o) := g.put o (fun ps => by rw [h]; intro z; cases z) (fun φ => by rw [h]; intro z; cases z)
theorem same_new {H : Hp} {p : Addr} (h : H p = none) (o : HO) : Same H (upd H p o) :=
  ⟨fun b u q _ => by rw [upd_ne (ne_of_none q h)]; exact q, fun b ps q => ⟨ps, by rw [upd_ne (ne_of_none q h)]; exact q⟩, fun g => g.new h o⟩
theorem upd_over {H1 H : Hp} {D : Addr} {zs : List V} (hD : H1 D = none) (s : Same H1 H) (hl : H D = some (.lst zs)) (o : HO) : Same H1 (upd H D o) :=
  ⟨fun b u q n => by rw [upd_ne (ne_of_none q hD)]; exact s.at' b u q n, fun b ps q => by rw [upd_ne (ne_of_none q hD)]; exact s.tb b ps q, fun g => (s.gd g).lst hl o⟩
end L2

namespace L2
open PySem
def clGo (env : Env) : List (Str × NameKind) → List (Str × Addr) → List (Str × Addr)
  | [], acc => acc
  | (n, k) :: r, acc => if (k == NameKind.free) = true then clGo env r ((n, (env.cells.lookup n).getD 0) :: acc) else clGo env r acc
abbrev clOf (scope : Scope) (env : Env) : List (Str × Addr) := clGo env scope.names []
theorem closureFor_cl {scope : Scope} {env : Env} (h : ∀ y ∈ scope.names, y.2 = .free → ∃ c, env.cells.lookup y.1 = some c) : closureFor scope env = pure (clOf scope env) := by
  unfold closureFor clOf
  generalize scope.names = ns at h
  generalize ([] : List (Str × Addr)) = acc
  show (forIn ns acc _ >>= _) = _
  induction ns generalizing acc with
  | nil => rfl
  | cons y r ih =>
    obtain ⟨n, k⟩ := y
    rw [List.forIn_cons]
    have ih' := fun acc => ih (fun y hy => h y (List.mem_cons_of_mem _ hy)) acc
    by_cases hk : (k == NameKind.free) = true
    · have hk' : k = .free := by simpa using hk
      obtain ⟨c, hc⟩ := h (n, k) List.mem_cons_self hk'
      have e1 : cellOf env n = pure c := by unfold cellOf; rw [hc]
      simp only [hk, if_true, e1, pure_bind, clGo, hc, Option.getD_some]
      exact ih' _
    · simp only [hk, clGo]
      exact ih' _
theorem clGo_mem {env : Env} : ∀ {ns : List (Str × NameKind)} {acc : List (Str × Addr)} {p : Str × Addr}, p ∈ clGo env ns acc → p ∈ acc ∨ ∃ k, (p.1, k) ∈ ns ∧ k = NameKind.free ∧ p.2 = (env.cells.lookup p.1).getD 0
  | [], _, _, h => .inl h
  | (n, k) :: r, acc, p, h => by
    unfold clGo at h
    split at h
    · rename_i hk
      rcases clGo_mem h with h | ⟨k', a, b⟩
      · rcases List.mem_cons.mp h with rfl | h
        · exact .inr ⟨k, List.mem_cons_self, by simpa using hk, rfl⟩
        · exact .inl h
      · exact .inr ⟨k', List.mem_cons_of_mem _ a, b⟩
    · rcases clGo_mem h with h | ⟨k', a, b⟩
      · exact .inl h
      · exact .inr ⟨k', List.mem_cons_of_mem _ a, b⟩
theorem clGo_has {env : Env} : ∀ {ns : List (Str × NameKind)} {acc : List (Str × Addr)} {y : Str}, ((y, NameKind.free) ∈ ns ∨ ∃ c, (y, c) ∈ acc) → ∃ c, (y, c) ∈ clGo env ns acc
  | [], _, _, h => by
    rcases h with h | h
    · cases h
    · exact h
  | (n, k) :: r, acc, y, h => by
    unfold clGo
    split
    · refine clGo_has ?_
      rcases h with h | ⟨c, h⟩
      · rcases List.mem_cons.mp h with e | h
        · cases e; exact .inr ⟨_, List.mem_cons_self⟩
        · exact .inl h
      · exact .inr ⟨c, List.mem_cons_of_mem _ h⟩
    · rename_i hk
      refine clGo_has ?_
      rcases h with h | h
      · rcases List.mem_cons.mp h with e | h
        · cases e; exact absurd rfl hk
        · exact .inl h
      · exact .inr h
theorem lookup_of_mem {α : Type} {y : Str} {c : α} : ∀ {l : List (Str × α)}, (y, c) ∈ l → ∃ c', l.lookup y = some c'
  | (n, k) :: r, h => by
    by_cases e : (y == n) = true
    · exact ⟨k, by rw [List.lookup_cons, e]⟩
    · have e' : (y == n) = false := by simpa using e
      rcases List.mem_cons.mp h with z | z
      · cases z; simp at e
      · obtain ⟨c', q⟩ := lookup_of_mem z
        exact ⟨c', by rw [List.lookup_cons, e']; exact q⟩
theorem cl_lookup {scope : Scope} {env : Env} (h : ∀ y ∈ scope.names, y.2 = .free → ∃ c, env.cells.lookup y.1 = some c) {y : Str} {c : Addr} (e : (clOf scope env).lookup y = some c) : env.cells.lookup y = some c := by
  rcases clGo_mem (PySem.mem_of_lookup e) with z | ⟨k, a, b, d⟩
  · cases z
  · obtain ⟨c', q⟩ := h _ a b
    have d' : c = (env.cells.lookup y).getD 0 := d
    have q' : env.cells.lookup y = some c' := q
    rw [q'] at d' ⊢
    exact congrArg some d'.symm
theorem cl_has {scope : Scope} {env : Env} {y : Str} (h : scope.names.lookup y = some .free) : ∃ c, (clOf scope env).lookup y = some c := by
  obtain ⟨c, q⟩ := clGo_has (env := env) (acc := []) (.inl (PySem.mem_of_lookup h))
  exact lookup_of_mem q
theorem map_kind {g : Str × NameKind → Str × NameKind} {y : Str} (h1 : ∀ p, (g p).1 = p.1) (h2 : ∀ p, p.2 ≠ .cell → (g p).2 = .cell ∨ (g p).2 = .free → p.2 = .free) :
    ∀ {ns : List (Str × NameKind)}, (∀ z ∈ ns, z.2 ≠ NameKind.cell) → ((ns.map g).lookup y = some .cell ∨ (ns.map g).lookup y = some .free) → ns.lookup y = some .free
  | [], _, h => by simp at h
  | p :: r, hc, h => by
    rw [List.map_cons] at h
    have ih := map_kind (g := g) (y := y) h1 h2 (ns := r) fun z hz => hc z (List.mem_cons_of_mem _ hz)
    have nc := hc p List.mem_cons_self
    have q1 := h1 p
    have q2 := h2 p nc
    generalize g p = q at h q1 q2
    obtain ⟨qn, qk⟩ := q
    obtain ⟨n, k⟩ := p
    have q1 : qn = n := q1
    subst q1
    have q2 : qk = .cell ∨ qk = .free → k = .free := q2
    rw [List.lookup_cons] at h ⊢
    cases e : (y == qn) with
    | true =>
      rw [e] at h
      have h' : some qk = some NameKind.cell ∨ some qk = some NameKind.free := h
      exact congrArg some (q2 (h'.imp Option.some.inj Option.some.inj))
    | false =>
      rw [e] at h
      exact ih h
theorem relabel_kind {scope : Scope} {env : Env} {y : Str} (hc : ∀ z ∈ scope.names, z.2 ≠ NameKind.cell) (h : (relabel scope env).names.lookup y = some .cell ∨ (relabel scope env).names.lookup y = some .free) : scope.names.lookup y = some .free := by
  refine map_kind (fun p => ?_) (fun p hp q => ?_) hc h
  · obtain ⟨n, k⟩ := p
    dsimp only
    split <;> rfl
  · obtain ⟨n, k⟩ := p
    dsimp only at q hp ⊢
    split at q
    · rename_i hk
      have := (Bool.and_eq_true _ _ ▸ (Bool.and_eq_true _ _ ▸ hk).1).1
      simpa using this
    · exact q.elim (fun z => absurd z hp) id
end L2

namespace L2
open PySem PySem.Spec PyProof.Rows
/-! ### comprehensions: the block's context -/
def cxComp (X : Cx) (scope : Scope) (N : List Str) (C : Addr) (fp : List Addr) (s : Shared) (H : Hp) : Cx where
  prog := X.prog
  w := X.w
  K := X.K
  mg := X.mg
  base := X.base
  A := X.A
  N := N
  s₀ := s
  H₀ := H
  env := compEnvC scope (clOf scope X.env) C X.env
  outer := X.stack
  stack := X.stack
  ex := fp
  fn := fun _ => false
  calm := X.calm
  pn := []
  xe := fun _ _ => False
/-- what the block's scope must be: n own names first, then those that are taken from around; cap: their places around -/
structure CpScope (esc scope : Scope) (EN N : List Str) (n : Nat) (cap : List Nat) : Prop where
  kind : scope.kind = .function
  cell : ∀ y ∈ scope.names, y.2 ≠ .cell
  loc : ∀ y ∈ scope.names, y.2 = .local → scope.names.lookup y.1 = some .local
  free : ∀ y ∈ scope.names, y.2 = .free → esc.names.lookup y.1 = some .cell ∨ esc.names.lookup y.1 = some .free
  nd : N.Nodup
  len : N.length = n + cap.length
  caps : ∀ j < cap.length, N[n + j]? = EN[cap.getD j 0]? ∧ ∀ x, N[n + j]? = some x → scope.names.lookup x = some .free
def cpSt (n : Nat) (cap : List Nat) (σ : St) : St := List.replicate n none ++ cap.map fun k => (σ[k]?).join
theorem cpSt_len {n : Nat} {cap : List Nat} {σ : St} : (cpSt n cap σ).length = n + cap.length := by
  unfold cpSt; rw [List.length_append, List.length_replicate, List.length_map]
theorem cpSt_get {n : Nat} {cap : List Nat} {σ : St} {i : Nat} {v : V} (h : (cpSt n cap σ)[i]? = some (some v)) : ∃ j, i = n + j ∧ j < cap.length ∧ σ[cap.getD j 0]? = some (some v) := by
  unfold cpSt at h
  by_cases hi : i < n
  · rw [List.getElem?_append_left (by simpa using hi), List.getElem?_replicate, if_pos hi] at h
    cases h
  · rw [List.getElem?_append_right (by simpa using hi), List.length_replicate, List.getElem?_map] at h
    cases e : cap[i - n]? with
    | none => rw [e] at h; cases h
    | some k =>
      rw [e] at h
      have hl : i - n < cap.length := (List.getElem?_eq_some_iff.mp e).1
      refine ⟨i - n, by omega, hl, ?_⟩
      have h' : (σ[k]?).join = some v := Option.some.inj h
      rw [List.getD_eq_getElem?_getD, e, Option.getD_some]
      cases q : σ[k]? with
      | none => rw [q] at h'; cases h'
      | some z => rw [q] at h'; exact congrArg some h'

section
variable {X : Cx} {scope esc : Scope} {EN N : List Str} {n : Nat} {cap : List Nat} {pins : List (Addr × Obj)} {σ : St} {H : Hp} {s : Shared} {fp : List Addr}
theorem inv_comp {h' : Heap} {tk : Nat} {m : Str → Option Value} (S : CpScope esc scope EN N n cap) (he : X.env.scope = esc) (hN : X.N = EN) (I : Inv X pins σ H s) (hf : ∀ b ∈ fp, FpOk X pins H b) (ho : ∀ b ∈ fp, ∃ o, s.heap.get? b = some o)
    (hns : h'.Ns s.heap.objs.size m) (k : ∀ b o, s.heap.get? b = some o → h'.get? b = some o) :
    Inv (cxComp X scope N s.heap.objs.size fp s H) [] (cpSt n cap σ) H { s with heap := h', toks := tk } := by
  have hfree : ∀ y ∈ scope.names, y.2 = .free → ∃ c, X.env.cells.lookup y.1 = some c := fun y hy hk => by
    refine I.ok.has y.1 ?_
    show X.env.scope.names.lookup y.1 = _ ∨ X.env.scope.names.lookup y.1 = _
    rw [he]; exact S.free y hy hk
  have up : ∀ {y : Str} {c : Addr}, (clOf scope X.env).lookup y = some c → X.env.cells.lookup y = some c := fun {y c} e => cl_lookup hfree e
  have kfree : ∀ y, (cxComp X scope N s.heap.objs.size fp s H).env.kindOf y = some .cell ∨ (cxComp X scope N s.heap.objs.size fp s H).env.kindOf y = some .free → scope.names.lookup y = some .free := fun y h => relabel_kind S.cell h
  have cellK : ∀ c v, s.heap.IsCell c v → h'.IsCell c v := fun c v ⟨o, e, d⟩ => ⟨o, k c o e, d⟩
  refine ⟨⟨I.ok.mod, S.kind, I.ok.glob, I.ok.blt, Nat.le_refl _, fun x y c h1 h2 => I.ok.inj x y c (up h1) (up h2), fun y hy => cl_has (kfree y hy), fun _ _ z => absurd z Bool.false_ne_true, I.ok.hd, I.ok.frames, .inl rfl, fun b hb => ⟨?_, fun x c e => (hf b hb).2.2.2.2.1 x c (up e)⟩, I.bs, Nat.le_trans I.ok.bsz I.sz, fun b o e hb => ?_, fun b hb hz => ?_, I.stack, I.stkFree⟩,
    rfl, I.bare, Un.kept k, ⟨m, hns, fun i x v e1 e2 e3 => ?_⟩, fun x c e => ?_, I.hok.fresh (Nat.le_refl _), fun x c e => I.freeC x c (up e), fun p hp => absurd (show p ∈ ([] : List (Addr × Obj)) from hp) (by simp), I.hok.kept k, ?_⟩
  · obtain ⟨o, e⟩ := ho b hb
    exact Nat.ne_of_lt (Heap.lt_size e)
  · rcases (hf b hb).2.2.2.1 with z | z
    · exact I.ok.noex b o e z
    · exact absurd (Nat.lt_of_lt_of_le (Heap.lt_size e) (Nat.le_trans I.ok.bsz z)) (Nat.lt_irrefl _)
  · rcases List.mem_cons.mp (I.stkSub b hz) with z | z
    · exact (hf b hb).2.1 z
    · exact (hf b hb).2.2.1 z
  · obtain ⟨j, rfl, hj, e4⟩ := cpSt_get e2
    obtain ⟨c1, c2⟩ := S.caps j hj
    have e1 : N[n + j]? = some x := e1
    have hfr := c2 x e1
    rw [e1, ← hN] at c1
    obtain ⟨c, hc⟩ := cl_has (env := X.env) hfr
    obtain ⟨m0, hn0, hl⟩ := I.loc
    have kx : X.env.scope.names.lookup x = some .cell ∨ X.env.scope.names.lookup x = some .free := by
      rw [he]; exact S.free (x, .free) (PySem.mem_of_lookup hfr) rfl
    obtain ⟨u, r, l⟩ := hl _ x v c1.symm e4 (kx.elim (fun z => .inr (.inl z)) fun z => .inr (.inr z))
    refine ⟨u, r, .inr ⟨?_, c, hc, ?_⟩⟩
    · rcases e3 with z | z | z
      · exfalso
        have z' : (relabel scope X.env).names.lookup x = some .local := z
        have hz : ∀ ns : List (Str × NameKind), ns.lookup x = some .free → (ns.map fun (n, k) => if (k == NameKind.free && X.env.scope.kind == .function && X.env.kindOf n == some .cell) then (n, NameKind.cell) else (n, k)).lookup x ≠ some .local := by
          intro ns
          induction ns with
          | nil => intro h; simp at h
          | cons p r ih =>
            obtain ⟨pn, pk⟩ := p
            intro h
            rw [List.map_cons]
            rw [List.lookup_cons] at h
            cases q : (x == pn) with
            | true =>
              rw [q] at h
              have h' : pk = .free := Option.some.inj h
              subst h'
              dsimp only
              split
              · rw [List.lookup_cons, q]; intro w; cases w
              · rw [List.lookup_cons, q]; intro w; cases w
            | false =>
              rw [q] at h
              dsimp only
              split
              · rw [List.lookup_cons, q]; exact ih h
              · rw [List.lookup_cons, q]; exact ih h
        exact hz _ hfr z'
      · exact .inl z
      · exact .inr z
    · rcases l with ⟨q, _⟩ | ⟨_, c', e5, z⟩
      · exfalso
        have q' : X.env.scope.names.lookup x = some .local := q
        rcases kx with w | w <;> rw [w] at q' <;> cases q'
      · rw [up hc] at e5
        cases e5
        exact cellK c _ z
  · obtain ⟨v, z⟩ := I.cell x c (up e)
    exact ⟨v, cellK c v z⟩
  · show (cpSt n cap σ).length = N.length
    rw [cpSt_len, S.len]
/-- behind the block -/
theorem inv_back {N : List Str} {C : Addr} {pj : List (Addr × Obj)} {σ' : St} {H' : Hp} {s' : Shared} (I : Inv X pins σ H s) (hf : ∀ b ∈ fp, FpOk X pins H b) (J : Inv (cxComp X scope N C fp s H) pj σ' H' s') : Inv X pins σ H' s' :=
  I.call' J.os J.base J.hok J.bare fun b hb => ⟨(hf b hb).2.2.2.1, (hf b hb).2.1, (hf b hb).2.2.2.2.1, (hf b hb).2.2.2.2.2⟩
end

section
variable {X : Cx}
/-- the tests behind if -/
def PIfs (X : Cx) (ifs : List Expr) (t : TT) : Prop :=
  ∀ (pins : List (Addr × Obj)) (s : Shared) (σ : St) (H : Hp) (Q : Bool → Hp → Prop), Inv X pins σ H s → t σ H Q →
    wpAny (model X.prog X.w) X.A (forIn ifs true fun c r => if r = true then do let ok ← isTrue c X.env (eval c X.env); pure (ForInStep.yield ok) else pure (ForInStep.yield r)) (TP X pins σ Q) X.xe s
def tT0 : TT := fun _ H Q => Q true H
theorem pf_nil : PIfs X [] tT0 := fun _ _ _ H _ I h => wpAny_tests_nil ⟨H, I, h⟩
end

section
variable {prog : Program} {w : World} {A : Around} {R : Result → Shared → Prop} {s : Shared}
theorem codeAny_compLoop_gen {elt target iter : Expr} {ifs : List Expr} {scope : Scope} {pos : Pos} {it acc : Value} {env : Env} (I : Nat → Shared → Prop)
    (turn : ∀ n s, I n s → wpAny (model prog w) A (pyNext it) (fun r s₁ => match r with
      | none => R (.ok .next) s₁
      | some v => wpAny (model prog w) A (letOwnedTupleGo target it v) (fun _ s₁' => wpAny (model prog w) A (assign target env v) (fun _ s₂ =>
          wpAny (model prog w) A (forIn ifs true fun c r => if r = true then do let ok ← isTrue c env (eval c env); pure (ForInStep.yield ok) else pure (ForInStep.yield r)) (fun ok s₃ =>
            if ok = true then wpAny (model prog w) A (eval elt env) (fun x s₄ =>
              wpAny (model prog w) A (call (.builtin "list.append") [acc, x]) (fun _ s₅ => ∃ m, m < n ∧ I m s₅) (fun _ _ => False) s₄) (fun _ _ => False) s₃
            else ∃ m, m < n ∧ I m s₃) (fun _ _ => False) s₂) (fun _ _ => False) s₁') (fun _ _ => False) s₁) (fun _ _ => False) s)
    (n : Nat) (h : I n s) :
    codeAny (model prog w) A (.compLoop (.ListComp elt [⟨target, iter, ifs, 0⟩] scope pos) 0 it acc env) R s := by
  refine codeAny_loop rfl I (fun n s hI => ?_) n h
  show wpAny _ A ((compTurn (.ListComp elt [⟨target, iter, ifs, 0⟩] scope pos) 0 it acc env).onRaise (fun x => do noteFrame x env; theTreesLotGoes x)) _ _ s
  refine wpAny_noted ?_
  rw [compTurn_list]
  refine wpAny_bind (wpAny_standAt (wpAny_bind (wpAny_mono (turn n s hI) (fun r s₁ h₁ => ?_) fun _ _ h' => h'.elim)))
  cases r with
  | none => exact wpAny_pure h₁
  | some v =>
    refine wpAny_bind (wpAny_mono h₁ (fun _ s₁' h₁' => ?_) fun _ _ h' => h'.elim)
    refine wpAny_bind (wpAny_mono h₁' (fun _ s₂ h₂ => wpAny_bind (wpAny_mono h₂ (fun ok s₃ h₃ => ?_) fun _ _ h' => h'.elim)) fun _ _ h' => h'.elim)
    cases ok with
    | false => exact wpAny_pure ⟨rfl, h₃⟩
    | true =>
      exact wpAny_bind (wpAny_bind (wpAny_mono h₃ (fun x s₄ h₄ => wpAny_bind (wpAny_mono h₄ (fun _ s₅ h₅ => wpAny_pure (wpAny_pure ⟨rfl, h₅⟩)) fun _ _ h' => h'.elim)) fun _ _ h' => h'.elim))
end

/-- the names that stood are as they stood -/
def Fgt (σ σ2 : St) : Prop := σ.length = σ2.length ∧ ∀ (i : Nat) v, σ[i]? = some (some v) → σ2[i]? = some (some v)
theorem Fgt.refl (σ : St) : Fgt σ σ := ⟨rfl, fun _ _ h => h⟩
theorem Fgt.set {σ σ2 : St} {i : Nat} {x : V} (h : Fgt σ σ2) (hn : σ[i]? = some none) : Fgt σ (σ2.set i (some x)) := by
  refine ⟨by rw [List.length_set]; exact h.1, fun j v e => ?_⟩
  by_cases hj : i = j
  · subst hj; rw [hn] at e; cases e
  · rw [List.getElem?_set_ne hj]; exact h.2 j v e

/-- what is walked by the block: W the invariant by the turn, a measure, the list so far -/
def cpW (J : It) (σ' : St) (g : TG) (tt : TT) (te : TE) (D : Addr) (H1 : Hp) (Q : VK) : Prop :=
  ∃ W : Nat → Nat → List V → Hp → Prop, (∃ m, W 0 m [] (upd H1 D (.lst []))) ∧ ∀ i m ys H, W i m ys H →
   ((J.stop i H ∧ Q (.ref D) H) ∨ (J.go i H ∧ ∀ x H', J.yld i H x H' → g x σ' H' fun σ2 H2 => Fgt σ' σ2 ∧ tt σ2 H2 fun b H3 =>
       if b = true then te σ2 H3 fun y H4 => H4 D = some (.lst ys) ∧ ys.length < sizeLine ∧ ∃ m', m' < m ∧ W (i + 1) m' (ys ++ [y]) (upd H4 D (.lst (ys ++ [y]))) else ∃ m', m' < m ∧ W (i + 1) m' ys H3))
def tComp (n : Nat) (cap : List Nat) (wi : TI) (g : TG) (tt : TT) (te : TE) : TE := fun σ H Q => wi σ H fun J H1 => ∀ D, H1 D = none → cpW J (cpSt n cap σ) g tt te D H1 Q

section
variable {X : Cx} {scope esc : Scope} {EN N : List Str} {n : Nat} {cap : List Nat} {pins : List (Addr × Obj)} {σ : St} {s : Shared} {elt tg iter : Expr} {ifs : List Expr} {pos : Pos} {g : TG} {tt : TT} {te : TE}
theorem comp_run {E : Value → Shared → Prop} {H : Hp} {J : It} {fp : List Addr} {it : Addr} {tn : Nat → Heap → Prop} {Q : VK} {RR : Value → Addr → Result → Shared → Prop} (S : CpScope esc scope EN N n cap) (he : X.env.scope = esc) (hN : X.N = EN) (hc : X.calm = true)
    (hg : ∀ C fp s H, PG (cxComp X scope N C fp s H) tg g) (ht : ∀ C fp s H, PIfs (cxComp X scope N C fp s H) ifs tt) (hel : ∀ C fp s H, PE (cxComp X scope N C fp s H) elt te)
    (I : Inv X pins σ H s) (T : Turn X.prog X.w X.K tg J fp it tn) (st : tn 0 s.heap) (hf : ∀ b ∈ fp, FpOk X pins H b) (hq : ∀ D, H D = none → cpW J (cpSt n cap σ) g tt te D H Q)
    (hRR : ∀ D C H' s' m, Inv X pins σ H' s' → FpOk X pins H' C → s'.heap.Ns C m → Q (.ref D) H' → RR (.ref D) C (.ok .next) s') :
    wpAny (model X.prog X.w) X.A (newList []) (fun acc s₃ => wpAny (model X.prog X.w) X.A (newFunctionEnv scope X.env.globals (clOf scope X.env) [] X.env.qual none .none (some X.env)) (fun cenv s₄ =>
      codeAny (model X.prog X.w) X.A (.compStart (.ListComp elt [⟨tg, iter, ifs, 0⟩] scope pos) 0 (.ref it) acc { cenv with scope := relabel scope X.env }) (RR acc cenv.locals) s₄) E s₃) E s := by
  refine wpAny_newObj_type (wpAny_newFunctionEnv S.cell (by intro y hy; simp at hy) (fun h₁ hns₁ hsb₁ => ?_) S.kind)
  have I3 := I.lnew (t' := s.toks) (ys := []) (its := []) .nil (Nat.zero_le _)
  have hD : H s.heap.objs.size = none := I.fresh
  obtain ⟨W, ⟨m0, w0⟩, turn⟩ := hq _ hD
  generalize hs3 : ({ s with heap := s.heap.push { cls := .type "list", data := .seq ([] : List Value).toArray }, toks := s.toks } : Shared) = s3 at I3
  have k3 : ∀ b o, s.heap.get? b = some o → s3.heap.get? b = some o := fun b o e => by rw [← hs3]; exact Heap.get?_push_of_some _ e
  have hs3' : ({ s with heap := s.heap.push { cls := .type "list", data := .seq ([] : List Value).toArray } } : Shared) = s3 := hs3
  have hh : s.heap.push { cls := .type "list", data := .seq ([] : List Value).toArray } = s3.heap := by rw [← hs3]
  dsimp only at hns₁ hsb₁ ⊢
  try rw [hh] at hns₁
  try rw [hh] at hsb₁
  have hf3 : ∀ b ∈ fp, FpOk X pins (upd H s.heap.objs.size (.lst [])) b := fun b hb => by
    refine ⟨?_, (hf b hb).2⟩
    obtain ⟨o, e, _⟩ := T.obj _ _ st b hb
    rw [upd_ne (Nat.ne_of_lt (Heap.lt_size e))]
    exact (hf b hb).1
  have k4 : ∀ b o, s3.heap.get? b = some o → h₁.get? b = some o := fun b o e => hsb₁.extBut b o (Nat.ne_of_lt (Heap.lt_size e)) (Heap.get?_push_of_some _ e)
  have ob : ∀ b ∈ fp, ∃ o, s3.heap.get? b = some o := fun b hb => by
    obtain ⟨o, e, _⟩ := T.obj _ _ st b hb
    exact ⟨o, k3 b o e⟩
  have I4 := inv_comp (tk := s3.toks) S he hN I3 hf3 ob hns₁ k4
  have st4 : tn 0 h₁ := T.keep _ _ _ st fun b _ o e => k4 b o (k3 b o e)
  have hC3 : s3.heap.objs.size ≤ s3.heap.objs.size := Nat.le_refl _
  have loop : ∀ s₃ : Shared, s₃.heap = h₁ → Inv (cxComp X scope N s3.heap.objs.size fp s3 (upd H s.heap.objs.size (.lst []))) [] (cpSt n cap σ) (upd H s.heap.objs.size (.lst [])) s₃ →
      codeAny (model X.prog X.w) X.A (.compLoop (.ListComp elt [⟨tg, iter, ifs, 0⟩] scope pos) 0 (.ref it) (.ref s.heap.objs.size) (compEnvC scope (clOf scope X.env) s3.heap.objs.size X.env)) (RR (.ref s.heap.objs.size) s3.heap.objs.size) s₃ := by
    intro s₃ e₃ I₃
    -- the iterator's records within the block
    have stat : ∀ {H' : Hp}, (∀ b ∈ fp, H' b = none) → ∀ b ∈ fp, FpOk (cxComp X scope N s3.heap.objs.size fp s3 (upd H s.heap.objs.size (.lst []))) [] H' b := fun {H'} hn b hb =>
      ⟨hn b hb, (I₃.ok.exf b hb).1, I₃.ok.exfs b hb, .inl hb, (I₃.ok.exf b hb).2, fun p hp => absurd (show p ∈ ([] : List (Addr × Obj)) from hp) (by simp)⟩
    refine codeAny_compLoop_gen (fun k s' => ∃ i ys H', Inv (cxComp X scope N s3.heap.objs.size fp s3 (upd H s.heap.objs.size (.lst []))) [] (cpSt n cap σ) H' s' ∧ tn i s'.heap ∧ (∀ b ∈ fp, H' b = none) ∧ W i k ys H') ?_ m0
      ⟨0, [], _, I₃, by rw [e₃]; exact st4, fun b hb => (hf3 b hb).1, w0⟩
    rintro k s5 ⟨i, ys, H5, I5, st5, fr5, w5⟩
    rcases turn i k ys H5 w5 with ⟨stop, q⟩ | ⟨go, step⟩
    · refine thn (T.done (cxComp X scope N s3.heap.objs.size fp s3 (upd H s.heap.objs.size (.lst []))) rfl rfl rfl hc i [] s5 _ H5 _ I5 (stat fr5) st5 stop) fun r s6 ⟨hr, I6⟩ => ?_
      subst hr
      obtain ⟨m, hn, _⟩ := I6.loc
      exact hRR _ _ H5 s6 m (inv_back I3 hf3 I6) (I3.fpOk hC3 I6.free) hn q
    · refine thn (T.item (cxComp X scope N s3.heap.objs.size fp s3 (upd H s.heap.objs.size (.lst []))) rfl rfl rfl hc i [] s5 _ H5 (fun _ _ => False) I5 (stat fr5) st5 go) fun r s6 ⟨u, hr, h6⟩ => ?_
      subst hr
      refine thn h6 fun _ s7 ⟨x, H7, I7, r7, y7, st7, fr7⟩ => ?_
      have I7' := I7.pinned (stat fr7) (T.obj _ _ st7)
      refine thn (hg _ _ _ _ _ s7 _ H7 x u _ I7' r7 (step x H7 y7)) fun _ s8 ⟨σ8, H8, I8, fg, q8⟩ => ?_
      refine thn (ht _ _ _ _ _ s8 σ8 H8 _ I8 q8) fun b s9 ⟨H9, I9, q9⟩ => ?_
      have back : ∀ {H' : Hp} {s' : Shared}, Inv (cxComp X scope N s3.heap.objs.size fp s3 (upd H s.heap.objs.size (.lst []))) ([] ++ pinsAt fp s7.heap) σ8 H' s' →
          Inv (cxComp X scope N s3.heap.objs.size fp s3 (upd H s.heap.objs.size (.lst []))) [] (cpSt n cap σ) H' s' ∧ tn (i + 1) s'.heap ∧ ∀ b ∈ fp, H' b = none := fun {H' s'} I' => by
        refine ⟨I'.unpinned.weak fg.1 fg.2, T.keep _ _ _ st7 fun b hb o e => (I'.pin (b, o) (List.mem_append_right _ (List.mem_append_right _ (mem_pinsAt hb e)))).1, fun b hb => ?_⟩
        obtain ⟨o, e, d⟩ := T.obj _ _ st7 b hb
        exact (I'.pin (b, o) (List.mem_append_right _ (List.mem_append_right _ (mem_pinsAt hb e)))).2.1
      cases b with
      | false =>
        obtain ⟨m', hm, w'⟩ := q9
        obtain ⟨b1, b2, b3⟩ := back I9
        exact ⟨m', hm, i + 1, ys, H9, b1, b2, b3, w'⟩
      | true =>
        refine thn (hel _ _ _ _ _ s9 σ8 H9 _ I9 q9) fun v s10 ⟨y, H10, I10, r10, hD10, hz, m', hm, w'⟩ => ?_
        refine thn (mt_append _ s10 σ8 H10 (.ref s.heap.objs.size) [y] (.ref s.heap.objs.size) [v] (fun z H' => z = .non ∧ H' = upd H10 s.heap.objs.size (.lst (ys ++ [y]))) I10 rfl (.cons r10 .nil) ⟨_, ys, y, rfl, rfl, hD10, hz, rfl, rfl⟩) fun z s11 ⟨y', H11, I11, _, _, e11⟩ => ?_
        subst e11
        obtain ⟨b1, b2, b3⟩ := back I11
        exact ⟨m', hm, i + 1, ys ++ [y], _, b1, b2, b3, w'⟩
  have I4' : Inv (cxComp X scope N s3.heap.objs.size fp s3 (upd H s.heap.objs.size (.lst []))) [] (cpSt n cap σ) (upd H s.heap.objs.size (.lst [])) { heap := h₁, gens := s3.gens, drawn := s3.drawn, toks := s3.toks + ([] : List (Str × Value)).length, os := s3.os } := I4
  exact codeAny_compStart_list (loop _ rfl I4') (T.self _ 0 _ _ _ st4 (loop _ rfl I4'))
/-- [elt for target in iter if ..] -/
theorem pe_comp (S : CpScope esc scope EN N n cap) {wi : TI} (hi : PI X tg iter wi) (hg : ∀ C fp s H, PG (cxComp X scope N C fp s H) tg g) (ht : ∀ C fp s H, PIfs (cxComp X scope N C fp s H) ifs tt) (hel : ∀ C fp s H, PE (cxComp X scope N C fp s H) elt te)
    (he : X.env.scope = esc := by rfl) (hN : X.N = EN := by rfl) (hc : X.calm = true := by rfl) (hs : ∀ x, foldedSetIterable iter X.env x = pure x := by intro _; rfl) : PE X (.ListComp elt [⟨tg, iter, ifs, 0⟩] scope pos) (tComp n cap wi g tt te) := by
  intro pins s σ H Q I h
  rw [eval_ListComp]
  have hclos : closureFor scope X.env = pure (clOf scope X.env) := closureFor_cl fun y hy hk => I.ok.has y.1 (by
    show X.env.scope.names.lookup y.1 = _ ∨ X.env.scope.names.lookup y.1 = _
    rw [he]; exact S.free y hy hk)
  refine wpAny_comprehension_free (use := none) rfl hs hclos S.kind S.loc (thn (hi pins s σ H _ I h) fun v s1 h1 => thn h1 fun itv s2 h2 => ?_)
  obtain ⟨it, fp, tn, J, H2, e, I2, T, st2, f2, hq⟩ := h2
  subst e
  refine comp_run S he hN hc hg ht hel I2 T st2 f2 hq fun D C H' s' m I' fC hn q => ?_
  exact ⟨m, hn, fun h' hs' => ⟨.ref D, H', I'.turned (t' := s'.toks) (fun b o hb e => hs'.extBut b o hb e) fC.1 fC.2.1 fC.2.2.2.1 fC.2.2.2.2.1 fC.2.2.2.2.2, rfl, q⟩⟩
end
end L2

namespace L2
open PySem PySem.Spec PyProof.Rows
/-! ### defs by name: a contract is a fact Has -/
structure Has (P : Program) (w : World) (K : PySem.W.Frag) (mg : Str → Option Value) (base : Heap) (x : Str) (ps : List Str) (k : Nat) (sp : Sp) : Prop where
  ex : ∃ f fd, FnOk P w K mg base CX0 k f fd ps sp ∧ Binds K fd ps [] ∧ PySem.W.keepIn K (.ref f) = true ∧ mg x = some (.ref f)
structure Df (K : PySem.W.Frag) (mg : Str → Option Value) (x : Str) (st : Stmt) (ps : List Str) : Prop where
  ex : ∃ f fd, Fun K x x st f fd ∧ Binds K fd ps [] ∧ mg x = some (.ref f)
section
variable {P : Program} {w : World} {K : PySem.W.Frag} {mg : Str → Option Value} {base : Heap} {x : Str} {st : Stmt} {ps N : List Str} {k : Nat} {sp : Sp}
theorem Has.mono {j : Nat} (h : Has P w K mg base x ps k sp) (hj : k ≤ j) : Has P w K mg base x ps j sp := by
  obtain ⟨f, fd, a, b⟩ := h.ex
  exact ⟨f, fd, a.mono hj, b⟩
end
section
variable {X : Cx} {x : Str} {ps : List Str} {k : Nat} {sp : Sp} {p pos : Pos} {e : Expr} {es : List Expr} {t : TA}
def tFn (sp : Sp) (t : TA) : TE := fun σ H Q => t σ H fun vs H1 => sp vs H1 Q E0
theorem pe_fn (h : Has X.prog X.w X.K X.mg X.base x ps k sp) (hr : Room k X.A) (hg : Gl X x) (ha : PA X (e :: es) t) (hdb : (x == ("__debug__" : Str)) = false := by decide)
    (he : starEach (e :: es) X.env = (false, eval e X.env) :: starEach es X.env := by rfl) (hpl : (backTo pos (starEach es X.env)).any (·.1) = false := by rfl) : PE X (.Call (.Name x p) (e :: es) [] pos) (tFn sp t) := by
  obtain ⟨f, fd, F, b, kp, m⟩ := h.ex
  intro pins s σ H Q I hq
  refine pe_call (dvs := []) (ds := []) F hr hg m kp b .nil pass0 ha hdb he hpl pins s σ H Q I ?_
  have hq' : t σ H fun vs H1 => sp vs H1 Q E0 := hq
  show t σ H fun vs H1 => sp (vs ++ []) H1 Q E0
  simpa only [List.append_nil] using hq'
end
/-- the built-in names that the text leaves as they are -/
structure Bl (mg : Str → Option Value) : Prop where
  len : mg "len" = none
  range : mg "range" = none
  isinstance : mg "isinstance" = none
  max : mg "max" = none
  any : mg "any" = none
  all : mg "all" = none
  int' : mg "int" = none
  bool' : mg "bool" = none
  list' : mg "list" = none
  tuple' : mg "tuple" = none
  str' : mg "str" = none
structure Kit (K : PySem.W.Frag) : Prop where
  ans : ∀ t ∈ ["NoneType", "bool", "int", "str", "list", "tuple"], ∀ c ∈ ["int", "bool", "tuple", "list", "str"], PySem.W.kitOne K (.type t) (.type c) = some (t == c || (t == "bool" && c == "int"))
/-- the kind of a value -/
inductive TyW (K : PySem.W.Frag) (H : Hp) : V → String → Prop where
  | non : TyW K H .non "NoneType"
  | bl (x : Bool) : TyW K H (.bl x) "bool"
  | int (i : Int) : TyW K H (.int i) "int"
  | str (x : Str) : TyW K H (.str x) "str"
  | lst {a : Addr} {xs : List V} (e : SqL K H a xs) : TyW K H (.ref a) "list"
  | tup {a : Addr} {xs : List V} (e : SqT K H a xs) : TyW K H (.ref a) "tuple"
abbrev tyNs : List String := ["NoneType", "bool", "int", "str", "list", "tuple"]
theorem TyW.mem {K : PySem.W.Frag} {H : Hp} {x : V} {t : String} (h : TyW K H x t) : t ∈ tyNs := by
  cases h <;> decide
section
variable {X : Cx}
def isiB (t n : String) : Bool := t == n || (t == "bool" && n == "int")
def rIsi (K : PySem.W.Frag) : List V → Hp → VK → Prop := fun xs H Q => ∃ x n t, xs = [x, .ty n] ∧ TyW K H x t ∧ n ∈ ["int", "bool", "tuple", "list", "str"] ∧ Q (.bl (isiB t n)) H
theorem call_isi (kt : Kit X.K) : CallR X (.builtin "isinstance") (rIsi X.K) := by
  intro pins s σ H xs us Q I rv h
  obtain ⟨x, n, t, rfl, ty, hn, q⟩ := h
  obtain ⟨u, w', rfl, r1, r2⟩ := vals2 rv
  cases (show w' = Value.type n from r2)
  have e := kt.ans t ty.mem n hn
  have fin : ∀ tk, EP X pins σ Q (.bool (isiB t n)) { s with toks := tk } := fun tk => ⟨.bl _, H, I.tok tk, rfl, q⟩
  cases ty with
  | non => cases (show u = Value.none from r1); exact PySem.W.kia_one PySem.W.kitx_none I.kIn True.intro e (fun z => nomatch z) fin
  | bl y => cases (show u = Value.bool y from r1); exact PySem.W.kia_one PySem.W.kitx_bool I.kIn True.intro e (fun z => nomatch z) fin
  | int i => obtain ⟨t, q⟩ := (show ∃ t, u = Value.int i t from r1); cases q; exact PySem.W.kia_one PySem.W.kitx_int I.kIn True.intro e (fun z => nomatch z) fin
  | str y => obtain ⟨t, q⟩ := (show ∃ t, u = Value.str y t from r1); cases q; exact PySem.W.kia_one PySem.W.kitx_str I.kIn True.intro e (fun z => nomatch z) fin
  | @lst a xs ea =>
    cases (show u = Value.ref a from r1)
    obtain ⟨its, _, ⟨o, n', h1, h2, _⟩, _⟩ := I.list ea
    exact PySem.W.kia_one PySem.W.kitx_list I.kIn ⟨o, h1, h2⟩ e (fun z => nomatch z) fin
  | @tup a xs ea =>
    cases (show u = Value.ref a from r1)
    obtain ⟨its, _, ⟨o, h1, h2, _⟩, _⟩ := I.tuple ea
    exact PySem.W.kia_one PySem.W.kitx_tuple I.kIn ⟨o, h1, h2⟩ e (fun z => nomatch z) fin
end
/-! ### data: what a value stands for, through its tuples and lists -/
mutual
def Rep (K : PySem.W.Frag) (H : Hp) : PyData → V → Prop
  | .none, v => v = .non
  | .bool b, v => v = .bl b
  | .int i, v => v = .int i
  | .str x, v => v = .str x
  | .list ds, v => ∃ a xs, v = .ref a ∧ SqL K H a xs ∧ RepAll K H ds xs
  | .tuple ds, v => ∃ a xs, v = .ref a ∧ SqT K H a xs ∧ RepAll K H ds xs
  | .dict _, _ => False
def RepAll (K : PySem.W.Frag) (H : Hp) : List PyData → List V → Prop
  | [], xs => xs = []
  | d :: ds, xs => ∃ x r, xs = x :: r ∧ Rep K H d x ∧ RepAll K H ds r
end
theorem Same.seqT [TabP] {K : PySem.W.Frag} {H H' : Hp} {a : Addr} {xs : List V} (e : Same H H') (h : SqT K H a xs) : SqT K H' a xs := by
  rcases h with (h | ⟨o, h⟩) | h
  · exact .inl (.inl (e.at' _ _ h))
  · exact .inl (.inr ⟨o, e.at' _ _ h⟩)
  · exact .inr h
section
variable {X : Cx} {pins : List (Addr × Obj)} {σ : St} {H : Hp} {s : Shared}
mutual
theorem Rep.reads (I : Inv X pins σ H s) : ∀ {d : PyData} {v : V} {u : Value}, Rep X.K H d v → RelV v u → ∃ as, Reads s.heap u d as
  | .none, _, _, h, r => by cases h; cases r; exact ⟨_, .none⟩
  | .bool _, _, _, h, r => by cases h; cases r; exact ⟨_, .bool _⟩
  | .int _, _, _, h, r => by cases h; obtain ⟨t, rfl⟩ := r; exact ⟨_, .int _ _⟩
  | .str _, _, _, h, r => by cases h; obtain ⟨t, rfl⟩ := r; exact ⟨_, .str _ _⟩
  | .list _, _, _, h, r => by
    obtain ⟨a, xs, rfl, l, q⟩ := h
    cases r
    obtain ⟨its, rv, ⟨o, n, e, c, _, d⟩, _⟩ := I.list l
    obtain ⟨as, z⟩ := RepAll.reads I q rv
    exact ⟨_, .list e c d (by simpa using z)⟩
  | .tuple _, _, _, h, r => by
    obtain ⟨a, xs, rfl, l, q⟩ := h
    cases r
    obtain ⟨its, rv, ⟨o, e, c, n, d⟩, _⟩ := I.tuple l
    obtain ⟨as, z⟩ := RepAll.reads I q rv
    exact ⟨_, .tuple e c d (by simpa using z)⟩
  | .dict _, _, _, h, _ => h.elim
theorem RepAll.reads (I : Inv X pins σ H s) : ∀ {ds : List PyData} {xs : List V} {us : List Value}, RepAll X.K H ds xs → Vals xs us → ∃ as, ReadsAll s.heap us ds as
  | [], _, _, h, r => by cases h; cases r; exact ⟨_, .nil⟩
  | _ :: _, _, _, h, r => by
    obtain ⟨x, t, rfl, a, b⟩ := h
    cases r with
    | cons r1 r2 =>
      obtain ⟨as, z1⟩ := Rep.reads I a r1
      obtain ⟨bs, z2⟩ := RepAll.reads I b r2
      exact ⟨_, .cons z1 z2⟩
end
end
section
variable {X : Cx}
def rEqD (K : PySem.W.Frag) (neg : Bool) : R2 := fun x y H Q => ∃ d e, Rep K H d x ∧ Rep K H e y ∧ SeqAt.shaped d = true ∧ SeqAt.shaped e = true ∧ Q (.bl (if neg then !PyData.eqv d e else PyData.eqv d e)) H
theorem op_eqD (hu : X.A.units + 64 < cLine) : OpR X (compareOp .Eq) (rEqD X.K false) := by
  intro pins s σ H x y v u Q I rx ry h
  obtain ⟨d, e, a, b, sa, sb, q⟩ := h
  obtain ⟨as, ra⟩ := a.reads I rx
  obtain ⟨bs, rb⟩ := b.reads I ry
  exact eq_dataH ra rb sa sb hu ⟨.bl _, H, I, rfl, q⟩
theorem op_neD (hu : X.A.units + 64 < cLine) : OpR X (compareOp .NotEq) (rEqD X.K true) := by
  intro pins s σ H x y v u Q I rx ry h
  obtain ⟨d, e, a, b, sa, sb, q⟩ := h
  obtain ⟨as, ra⟩ := a.reads I rx
  obtain ⟨bs, rb⟩ := b.reads I ry
  exact ne_dataH ra rb sa sb hu ⟨.bl _, H, I, rfl, q⟩
end
theorem repAll_ints {K : PySem.W.Frag} {H : Hp} : ∀ ns : List Int, RepAll K H (ns.map PyData.int) (ns.map V.int)
  | [] => rfl
  | n :: r => ⟨.int n, r.map V.int, rfl, rfl, repAll_ints r⟩
end L2

namespace L2
open PySem PySem.Spec PyProof.Rows
theorem bt_len : bootBuiltins "len" = some (.builtin "len") := by decide +kernel
theorem bt_isinstance : bootBuiltins "isinstance" = some (.builtin "isinstance") := by decide +kernel
theorem bt_all : bootBuiltins "all" = some (.builtin "all") := by decide +kernel
theorem bt_int : bootBuiltins "int" = some (.type "int") := by decide +kernel
theorem bt_bool : bootBuiltins "bool" = some (.type "bool") := by decide +kernel
theorem bt_list : bootBuiltins "list" = some (.type "list") := by decide +kernel
theorem bt_tuple : bootBuiltins "tuple" = some (.type "tuple") := by decide +kernel
theorem bt_str : bootBuiltins "str" = some (.type "str") := by decide +kernel
variable [TabP]
/-! ### a comprehension whose element and test only make new things -/
def ItOk (J : It) (H1 : Hp) (xs : List V) : Prop := ∀ H, Same H1 H → ∀ i, (i < xs.length → J.go i H ∧ ∀ x H', J.yld i H x H' → H' = H ∧ xs[i]? = some x) ∧ (xs.length ≤ i → J.stop i H)
theorem itl_ok {K : PySem.W.Frag} {H : Hp} {a : Addr} {xs : List V} (h : SqL K H a xs) : ItOk (Itl K a) H xs := fun H' s i =>
  ⟨fun hi => ⟨⟨xs, xs[i], s.seq h, by simp [hi]⟩, fun x H'' y => ⟨y.1, y.2 xs (s.seq h)⟩⟩, fun hi => ⟨xs, s.seq h, hi⟩⟩
end L2

namespace L2
open PySem PySem.Spec PyProof.Rows
theorem Df.none {P : Program} {w : World} {K : PySem.W.Frag} {mg : Str → Option Value} {base : Heap} {x : Str} {st : Stmt} {ps : List Str} {k : Nat} {sp : Sp} (D : Df K mg x st ps) (no : ∀ vs H Q E, ¬ sp vs H Q E) : Has P w K mg base x ps k sp := by
  obtain ⟨f, fd, F, b, m⟩ := D.ex
  exact ⟨f, fd, ⟨fun vs H Q E h => absurd h (no vs H Q E), fun A outer s H args us vs Q E _ _ _ _ h => absurd h (no vs H Q E)⟩, b, F.kp, m⟩
end L2

namespace L2
open PySem PySem.Spec PyProof.Rows
theorem kit_all (K : PySem.W.Frag) : Kit K := ⟨by
  intro t ht c hc
  simp only [List.mem_cons, List.mem_nil_iff, or_false] at ht hc
  rcases ht with rfl | rfl | rfl | rfl | rfl | rfl <;> rcases hc with rfl | rfl | rfl | rfl | rfl <;> kernel_rfl⟩
end L2

namespace L2
open PySem PySem.Spec PyProof.Rows
/-! ### any and all of a list of bools -/
theorem range_all (bs : List Bool) : (List.range bs.length).all (fun i => bs.getD i false) = bs.all id := by
  rw [Bool.eq_iff_iff, List.all_eq_true, List.all_eq_true]
  constructor
  · intro h b hb
    obtain ⟨i, hi, rfl⟩ := List.getElem_of_mem hb
    have := h i (List.mem_range.mpr hi)
    rw [List.getD_eq_getElem?_getD, List.getElem?_eq_getElem hi] at this
    exact this
  · intro h i hi
    have hi' := List.mem_range.mp hi
    rw [List.getD_eq_getElem?_getD, List.getElem?_eq_getElem hi']
    exact h _ (List.getElem_mem hi')
section
variable {X : Cx} {K : PySem.W.Frag}
theorem truth_bls {prog : Program} {w : World} {A : Around} {bs : List Bool} {its : List Value} (rv : Vals (bs.map V.bl) its) : TruthOf prog w A (fun i v => its.toArray[i]? = some v) (fun i => bs.getD i false) := by
  intro i v s Q E hv hq
  have hv' : its[i]? = some v := by simpa using hv
  have hi : i < bs.length := by
    have h1 := (List.getElem?_eq_some_iff.mp hv').1
    have h2 := rv.length
    rw [List.length_map] at h2
    omega
  obtain ⟨u, hu, ru⟩ := rv.get (i := i) (x := .bl bs[i]) (by rw [List.getElem?_map, List.getElem?_eq_getElem hi]; rfl)
  rw [hv'] at hu
  cases hu
  cases ru
  have hq' : Q (bs.getD i false) s := hq
  rw [List.getD_eq_getElem?_getD, List.getElem?_eq_getElem hi] at hq'
  exact wpAny_truthy_bool hq'
theorem call_all (hc : X.calm = true) : CallR X (.builtin "all") (fun xs H Q => ∃ (l : Addr) (bs : List Bool), xs = [.ref l] ∧ SqL X.K H l (bs.map V.bl) ∧ Q (.bl (bs.all id)) H) := by
  intro pins s σ H xs us Q I rv h
  obtain ⟨l, bs, rfl, hS, q⟩ := h
  obtain ⟨u, rfl, r1⟩ := vals1 rv
  cases r1
  obtain ⟨its, rvs, p, hz⟩ := I.list hS
  have hlt : l < s.heap.objs.size := by obtain ⟨o, n, e, _⟩ := p; exact Heap.lt_size e
  refine call_all_walk (wpAny_pyIter_list p.isList ?_)
  refine ⟨s.heap.objs.size, _, _, _, _, _, fun i => bs.getD i false, rfl, Walks.list (A := X.A.in1) (show X.A.in1.handled = none from I.ok.hd hc) s.heap.objs.size l (Nat.ne_of_lt hlt) its.toArray, ⟨⟨_, Heap.get?_push_size _ rfl, rfl, rfl⟩, p.isList.at fun o e => Heap.get?_push_of_some _ e⟩, truth_bls rvs, fun h' tk k => ?_⟩
  have hn : its.toArray.size = bs.length := by
    have h2 := rvs.length
    rw [List.length_map] at h2
    simp [h2]
  rw [hn, range_all]
  exact ⟨.bl _, H, I.kept (h' := h') (t' := tk) fun b o e => k b o (by intro z; rw [List.mem_singleton.mp z] at e; exact absurd (Heap.lt_size e) (Nat.lt_irrefl _)) (Heap.get?_push_of_some _ e), rfl, q⟩
end
end L2

namespace L2
open PySem PySem.Spec PyProof.Rows
section
variable {X : Cx}
theorem pe_globR {x : Str} {v : V} {pos : Pos} (hg : Gl X x) (h : ∃ u, X.mg x = some u ∧ RelV v u) (hd : (x == ("__debug__" : Str)) = false := by decide) : PE X (.Name x pos) (tC v) := by
  obtain ⟨u, hm, r⟩ := h
  exact pe_glob hg hm r hd
variable [TabP]
end
end L2


set_option Elab.async false
set_option linter.all false
set_option maxRecDepth 100000
set_option maxHeartbeats 1000000
namespace L3
open PySem PySem.Spec L2
variable [L2.TabP]

/-! ### plain data, slots, the machine -/
inductive D where
  | non | bl (b : Bool) | int (i : Int) | str (x : Str) | tup (xs : List D) | lst (xs : List D) | dic (ks : List Key) (vs : List D) | fn (f : Str) | ty (n : String)
/-- a place: an epoch and a stamp -/
abbrev Pl := Int × Int × Int
/-- a tree of things that change: lists, dicts, instances -/
inductive Tr where
  | lf (d : D) | ls (ts : List Tr) | dc (ks : List Key) (ts : List Tr) | ob (c : Str) (ns : List Str) (ts : List Tr) | any | tp (ts : List Tr)
/-- whose a tree is: made here; a parameter that is changed; looked at only -/
inductive TM where
  | own | par | view
  deriving DecidableEq
inductive Slot where
  | emp | val (d : D) | ow (p : Bool) (xs : List D) | vw (xs : List D) | dct (kvs : List (Key × D)) | vd (kvs : List (Key × D)) | pd (kvs : List (Pl × D)) | vp (kvs : List (Pl × D)) | tr (m : TM) (t : Tr)
abbrev En := List Slot
structure Ob where
  cls : Str
  fs : List (Str × Slot)
abbrev Store := List Ob
inductive Out (α : Type) where
  | ok (a : α) (S : Store) | exc (c : Str) (S : Store) | bad
structure M (α : Type) : Type where
  run : Store → Out α
def M.bnd {α β : Type} (m : M α) (f : α → M β) : M β := ⟨fun S => match m.run S with
  | .ok a S' => (f a).run S'
  | .exc c S' => .exc c S'
  | .bad => .bad⟩
instance : Monad M where
  pure a := ⟨fun S => .ok a S⟩
  bind := M.bnd
omit [L2.TabP] in
theorem M.ext {α : Type} {x y : M α} (h : ∀ S, x.run S = y.run S) : x = y := by
  cases x; cases y; congr; funext S; exact h S
omit [L2.TabP] in
theorem M.bind_def {α β : Type} (m : M α) (f : α → M β) : (m >>= f) = M.bnd m f := rfl
instance : LawfulMonad M := LawfulMonad.mk'
  (id_map := fun x => M.ext fun S => by show (M.bnd x (fun a => pure (id a))).run S = x.run S; unfold M.bnd; dsimp only; cases x.run S <;> rfl)
  (pure_bind := fun x f => rfl)
  (bind_assoc := fun x f g => M.ext fun S => by show (M.bnd (M.bnd x f) g).run S = (M.bnd x (fun a => M.bnd (f a) g)).run S; unfold M.bnd; dsimp only; cases x.run S <;> rfl)
  (bind_pure_comp := fun f x => rfl)
def bad {α : Type} : M α := ⟨fun _ => .bad⟩
omit [L2.TabP] in
theorem M.inv {α β : Type} {m : M α} {f : α → M β} {S S' : Store} {b : β} (h : (m >>= f).run S = .ok b S') : ∃ a S1, m.run S = .ok a S1 ∧ (f a).run S1 = .ok b S' := by
  rw [M.bind_def] at h
  unfold M.bnd at h
  dsimp only at h
  cases e : m.run S with
  | ok a S1 => rw [e] at h; exact ⟨a, S1, rfl, h⟩
  | exc c S1 => rw [e] at h; cases h
  | bad => rw [e] at h; cases h
/-- under a condition -/
def chk (p : Prop) [Decidable p] : M Unit := if p then pure () else bad
omit [L2.TabP] in
theorem chk_inv {p : Prop} [Decidable p] {S S' : Store} {u : Unit} (h : (chk p).run S = .ok u S') : p ∧ S = S' := by
  unfold chk at h
  by_cases hp : p
  · rw [if_pos hp] at h; cases h; exact ⟨hp, rfl⟩
  · rw [if_neg hp] at h; cases h

/-- what an expression gives: a datum, a new list, a list that stands somewhere -/
inductive R where
  | v (d : D) | fr (xs : List D) | vw (xs : List D) | mv (xs : List D) | dv (kvs : List (Key × D))
abbrev ME := En → M R

/-! ### what stands for what -/
inductive Own where
  | free | out | tmp | loc (i : Nat) | tr (i : Nat) (p : List Nat)
  deriving DecidableEq
/-- who owns what stands at the path in a tree -/
def Own.at : Own → List Nat → Own
  | .loc i, p => .tr i p
  | w, _ => w
/-- the owner of a tree's things -/
def TM.ow : TM → Own → Own
  | .view, _ => .out
  | _, w => w
abbrev Ow := Addr → Own
def KLst (K : PySem.W.Frag) (a : Addr) (xs : List V) : Prop :=
  ∃ (o : Obj) (its : Array Value) (n : Nat), K.lookup a = some o ∧ o.cls = .type "list" ∧ o.dict = none ∧ o.data = .seq its n ∧ its.size ≤ sizeLine ∧ Vals xs its.toList
/-- a list that nobody changes -/
def LsF (_ : PySem.W.Frag) (O : Ow) (H : Hp) (a : Addr) (ys : List V) : Prop := H a = some (.lst ys) ∧ O a = .free
mutual
def Rep (K : PySem.W.Frag) (mg : Str → Option Value) (O : Ow) (H : Hp) : D → V → Prop
  | .non, v => v = .non
  | .bl b, v => v = .bl b
  | .int i, v => v = .int i
  | .str x, v => v = .str x
  | .tup xs, v => ∃ a ys, v = .ref a ∧ SqT K H a ys ∧ RepAll K mg O H xs ys
  | .lst xs, v => ∃ a ys, v = .ref a ∧ LsF K O H a ys ∧ RepAll K mg O H xs ys
  | .dic _ _, _ => False
  | .fn f, v => ∃ a, v = .ref a ∧ mg f = some (.ref a)
  | .ty n, v => v = .ty n
def RepAll (K : PySem.W.Frag) (mg : Str → Option Value) (O : Ow) (H : Hp) : List D → List V → Prop
  | [], ys => ys = []
  | x :: xs, ys => ∃ y r, ys = y :: r ∧ Rep K mg O H x y ∧ RepAll K mg O H xs r
end
/-- an expression's way: all that stood stands, owned as it was -/
structure Go (O O' : Ow) (H H' : Hp) : Prop where
  same : Same H H'
  own : ∀ b, H b ≠ none → O' b = O b
theorem Go.refl (O : Ow) (H : Hp) : Go O O H H := ⟨Same.refl _, fun _ _ => rfl⟩
theorem Go.trans {O O1 O2 : Ow} {H H1 H2 : Hp} (a : Go O O1 H H1) (b : Go O1 O2 H1 H2) : Go O O2 H H2 :=
  ⟨a.same.trans b.same, fun c h => (b.own c (a.same.some h)).trans (a.own c h)⟩
theorem Rd.same {H H' : Hp} (s : Same H H') {a : Addr} {u : HO} (h : Rd H a u) (n : nT u := by exact trivial) : Rd H' a u := by
  rcases h with h | ⟨o, h⟩
  · exact .inl (s.at' _ _ h n)
  · exact .inr ⟨o, s.at' _ _ h⟩
omit [L2.TabP] in
theorem Rd.some {H : Hp} {a : Addr} {u : HO} (h : Rd H a u) : H a ≠ none := by
  rcases h with h | ⟨o, h⟩ <;> rw [h] <;> intro z <;> cases z
theorem LsF.sq {K : PySem.W.Frag} {O : Ow} {H : Hp} {a : Addr} {ys : List V} (h : LsF K O H a ys) : SqL K H a ys := SqL.of h.1
/-- a list that is not changed here -/
def LsV (K : PySem.W.Frag) (O : Ow) (H : Hp) (a : Addr) (ys : List V) : Prop := (Rd H a (.lst ys) ∧ (O a = .free ∨ O a = .out)) ∨ KLst K a ys
theorem LsV.sq {K : PySem.W.Frag} {O : Ow} {H : Hp} {a : Addr} {ys : List V} (h : LsV K O H a ys) : SqL K H a ys := h.elim (fun z => .inl z.1) .inr
theorem LsV.go {K : PySem.W.Frag} {O O' : Ow} {H H' : Hp} (g : Go O O' H H') {a : Addr} {ys : List V} (h : LsV K O H a ys) : LsV K O' H' a ys := by
  rcases h with ⟨l, f⟩ | l
  · exact .inl ⟨Rd.same g.same l, by rw [g.own a (Rd.some l)]; exact f⟩
  · exact .inr l
theorem LsF.go {K : PySem.W.Frag} {O O' : Ow} {H H' : Hp} (g : Go O O' H H') {a : Addr} {ys : List V} (h : LsF K O H a ys) : LsF K O' H' a ys := by
  exact ⟨g.same.at' _ _ h.1, (g.own a (by rw [h.1]; intro z; cases z)).trans h.2⟩
section
variable {K : PySem.W.Frag} {mg : Str → Option Value} {O O' : Ow} {H H' : Hp}
mutual
theorem Rep.go (g : Go O O' H H') : ∀ {d : D} {v : V}, Rep K mg O H d v → Rep K mg O' H' d v
  | .non, _, h => h
  | .bl _, _, h => h
  | .int _, _, h => h
  | .str _, _, h => h
  | .tup _, _, h => by obtain ⟨a, ys, q, l, r⟩ := h; exact ⟨a, ys, q, g.same.seqT l, RepAll.go g r⟩
  | .lst _, _, h => by obtain ⟨a, ys, q, l, r⟩ := h; exact ⟨a, ys, q, l.go g, RepAll.go g r⟩
  | .dic _ _, _, h => h
  | .fn _, _, h => h
  | .ty _, _, h => h
theorem RepAll.go (g : Go O O' H H') : ∀ {ds : List D} {ys : List V}, RepAll K mg O H ds ys → RepAll K mg O' H' ds ys
  | [], _, h => h
  | _ :: _, _, h => by obtain ⟨x, r, q, a, b⟩ := h; exact ⟨x, r, q, Rep.go g a, RepAll.go g b⟩
end
/-- more is free -/
structure Fre (O O' : Ow) : Prop where
  fr : ∀ a, O a = .free → O' a = .free
mutual
theorem Rep.fre (g : Fre O O') : ∀ {d : D} {v : V}, Rep K mg O H d v → Rep K mg O' H d v
  | .non, _, h => h
  | .bl _, _, h => h
  | .int _, _, h => h
  | .str _, _, h => h
  | .tup _, _, h => by obtain ⟨a, ys, q, l, r⟩ := h; exact ⟨a, ys, q, l, RepAll.fre g r⟩
  | .lst _, _, h => by obtain ⟨a, ys, q, l, r⟩ := h; exact ⟨a, ys, q, ⟨l.1, g.fr _ l.2⟩, RepAll.fre g r⟩
  | .dic _ _, _, h => h
  | .fn _, _, h => h
  | .ty _, _, h => h
theorem RepAll.fre (g : Fre O O') : ∀ {ds : List D} {ys : List V}, RepAll K mg O H ds ys → RepAll K mg O' H ds ys
  | [], _, h => h
  | _ :: _, _, h => by obtain ⟨x, r, q, a, b⟩ := h; exact ⟨x, r, q, Rep.fre g a, RepAll.fre g b⟩
end
theorem RepAll.len : ∀ {ds : List D} {xs : List V}, RepAll K mg O H ds xs → xs.length = ds.length
  | [], _, h => by cases h; rfl
  | _ :: _, _, h => by obtain ⟨x, r, rfl, _, b⟩ := h; rw [List.length_cons, List.length_cons, RepAll.len b]
theorem RepAll.get : ∀ {ds : List D} {xs : List V} {i : Nat} {d : D}, RepAll K mg O H ds xs → ds[i]? = some d → ∃ x, xs[i]? = some x ∧ Rep K mg O H d x
  | [], _, _, _, _, e => by simp at e
  | _ :: _, _, 0, d, h, e => by obtain ⟨x, r, rfl, a, _⟩ := h; cases (show some _ = some d from e); exact ⟨x, rfl, a⟩
  | _ :: ds, _, i + 1, d, h, e => by
    obtain ⟨x, r, rfl, _, b⟩ := h
    obtain ⟨y, e1, e2⟩ := RepAll.get (i := i) b (by simpa using e)
    exact ⟨y, by simpa using e1, e2⟩
theorem RepAll.append : ∀ {ds es : List D} {xs ys : List V}, RepAll K mg O H ds xs → RepAll K mg O H es ys → RepAll K mg O H (ds ++ es) (xs ++ ys)
  | [], _, _, _, h, q => by cases h; exact q
  | _ :: _, _, _, _, h, q => by obtain ⟨x, r, rfl, a, b⟩ := h; exact ⟨x, _, rfl, a, RepAll.append b q⟩
theorem RepAll.one {d : D} {x : V} (h : Rep K mg O H d x) : RepAll K mg O H [d] [x] := ⟨x, [], rfl, h, rfl⟩
theorem RepAll.take : ∀ {ds : List D} {xs : List V} (n : Nat), RepAll K mg O H ds xs → RepAll K mg O H (ds.take n) (xs.take n)
  | [], _, _, h => by cases h; rw [List.take_nil, List.take_nil]; rfl
  | _ :: _, _, 0, _ => by rw [List.take_zero, List.take_zero]; rfl
  | _ :: _, _, n + 1, h => by obtain ⟨x, r, rfl, a, b⟩ := h; exact ⟨x, _, rfl, a, RepAll.take n b⟩
theorem RepAll.drop : ∀ {ds : List D} {xs : List V} (n : Nat), RepAll K mg O H ds xs → RepAll K mg O H (ds.drop n) (xs.drop n)
  | [], _, _, h => by cases h; rw [List.drop_nil, List.drop_nil]; rfl
  | _ :: _, _, 0, h => h
  | _ :: _, _, n + 1, h => by obtain ⟨x, r, rfl, a, b⟩ := h; exact RepAll.drop n b
theorem repAll_ints (ns : List Int) : RepAll K mg O H (ns.map D.int) (ns.map V.int) := by
  induction ns with
  | nil => rfl
  | cons n r ih => exact ⟨.int n, _, rfl, rfl, ih⟩
/-- the items of a dict -/
def RepKV (K : PySem.W.Frag) (mg : Str → Option Value) (O : Ow) (H : Hp) (kvs : List (Key × D)) (kvv : List (Key × V)) : Prop := kvs.map (·.1) = kvv.map (·.1) ∧ RepAll K mg O H (kvs.map (·.2)) (kvv.map (·.2))
theorem RepKV.go (g : Go O O' H H') {kvs : List (Key × D)} {kvv : List (Key × V)} (h : RepKV K mg O H kvs kvv) : RepKV K mg O' H' kvs kvv := ⟨h.1, h.2.go g⟩
theorem RepKV.fre (g : Fre O O') {kvs : List (Key × D)} {kvv : List (Key × V)} (h : RepKV K mg O H kvs kvv) : RepKV K mg O' H kvs kvv := ⟨h.1, h.2.fre g⟩
/-- a place, as a datum; a dict whose keys are places -/
def plD (p : Pl) : D := .tup [.int p.1, .tup [.int p.2.1, .int p.2.2]]
def plH (p : Pl) : Int := reduceHash (Builtin.Tuple.tupleHashOf [hashInt p.1, reduceHash (Builtin.Tuple.tupleHashOf [hashInt p.2.1, hashInt p.2.2])])
def plE (x : Pl × Addr × Value) : DictEntry := ⟨plH x.1, .ref x.2.1, x.2.2⟩
abbrev PD (a : Addr) (xs : List (Pl × Addr × Value)) : HO := .ext fun h => ∃ o es ep, h.get? a = some o ∧ o.ExactDict ∧ o.data = .dict es ep ∧ es.toList = xs.map plE
/-- a dict of places is no sys.modules, and no key stands in it twice -/
def PdOk (a : Addr) (xs : List (Pl × Addr × Value)) : Prop := (a == sysModules) = false ∧ (xs.map (·.1)).Nodup
def RepPD (K : PySem.W.Frag) (mg : Str → Option Value) (O : Ow) (H : Hp) : List (Pl × D) → List (Pl × Addr × Value) → Prop
  | [], xs => xs = []
  | p :: kvs, xs => ∃ x r, xs = x :: r ∧ p.1 = x.1 ∧ Rep K mg O H (plD p.1) (.ref x.2.1) ∧ (∃ v, Rep K mg O H p.2 v ∧ RelV v x.2.2) ∧ RepPD K mg O H kvs r
theorem RepPD.all {O' : Ow} {H' : Hp} (f : ∀ d v, Rep K mg O H d v → Rep K mg O' H' d v) : ∀ {kvs : List (Pl × D)} {xs : List (Pl × Addr × Value)}, RepPD K mg O H kvs xs → RepPD K mg O' H' kvs xs
  | [], _, h => h
  | _ :: _, _, h => by
    obtain ⟨x, r, e, e1, h1, ⟨v, h2, h3⟩, h4⟩ := h
    exact ⟨x, r, e, e1, f _ _ h1, ⟨v, f _ _ h2, h3⟩, RepPD.all f h4⟩
theorem RepPD.go (g : Go O O' H H') {kvs : List (Pl × D)} {xs : List (Pl × Addr × Value)} (h : RepPD K mg O H kvs xs) : RepPD K mg O' H' kvs xs := h.all fun _ _ z => Rep.go g z
theorem RepPD.fre (g : Fre O O') {kvs : List (Pl × D)} {xs : List (Pl × Addr × Value)} (h : RepPD K mg O H kvs xs) : RepPD K mg O' H kvs xs := h.all fun _ _ z => Rep.fre g z
/-- what an expression gives -/
def RepR (K : PySem.W.Frag) (mg : Str → Option Value) (O : Ow) (H : Hp) : R → V → Prop
  | .v d, v => Rep K mg O H d v
  | .fr xs, v => ∃ a ys, v = .ref a ∧ H a = some (.lst ys) ∧ O a = .tmp ∧ RepAll K mg O H xs ys
  | .vw xs, v => ∃ a ys, v = .ref a ∧ LsV K O H a ys ∧ RepAll K mg O H xs ys
  | .mv xs, v => ∃ a ys, v = .ref a ∧ H a = some (.lst ys) ∧ RepAll K mg O H xs ys
  | .dv kvs, v => ∃ a kvv, v = .ref a ∧ Rd H a (.dK kvv) ∧ RepKV K mg O H kvs kvv
theorem RepR.go (g : Go O O' H H') : ∀ {r : R} {v : V}, RepR K mg O H r v → RepR K mg O' H' r v
  | .v _, _, h => Rep.go g h
  | .fr _, _, h => by obtain ⟨a, ys, q, l, o, r⟩ := h; exact ⟨a, ys, q, g.same.at' _ _ l, (g.own a (by rw [l]; intro z; cases z)).trans o, r.go g⟩
  | .vw _, _, h => by obtain ⟨a, ys, q, l, r⟩ := h; exact ⟨a, ys, q, l.go g, r.go g⟩
  | .mv _, _, h => by obtain ⟨a, ys, q, l, r⟩ := h; exact ⟨a, ys, q, g.same.at' _ _ l, r.go g⟩
  | .dv _, _, h => by obtain ⟨a, ys, q, l, r⟩ := h; exact ⟨a, ys, q, Rd.same g.same l, r.go g⟩
/-- a tree, at the path -/
def ClsIs (K : PySem.W.Frag) (mg : Str → Option Value) (c : Str) (C : Addr) : Prop := mg c = some (.ref C) ∧ Cls K C
mutual
def TreeR (K : PySem.W.Frag) (mg : Str → Option Value) (O : Ow) (H : Hp) (w : Own) : List Nat → Tr → V → Prop
  | _, .lf d, v => Rep K mg O H d v
  | p, .ls ts, v => ∃ a ys, v = .ref a ∧ O a = w.at p ∧ H a = some (.lst ys) ∧ TreeAll K mg O H w p 0 ts ys
  | p, .dc ks ts, v => ∃ a ys, v = .ref a ∧ O a = w.at p ∧ H a = some (.dK (ks.zip ys)) ∧ (ks.length = ys.length ∧ ks.Nodup) ∧ TreeAll K mg O H w p 0 ts ys
  | p, .ob c ns ts, v => ∃ a C dx ys, v = .ref a ∧ O a = w.at p ∧ H a = some (.ins C dx (ns.zip ys)) ∧ (ns.length = ys.length ∧ ns.Nodup ∧ ClsIs K mg c C) ∧ TreeAll K mg O H w p 0 ts ys
  | _, .any, _ => True
  | p, .tp ts, v => ∃ a ys, v = .ref a ∧ O a = w.at p ∧ H a = some (.tup ys) ∧ TreeAll K mg O H w p 0 ts ys
def TreeAll (K : PySem.W.Frag) (mg : Str → Option Value) (O : Ow) (H : Hp) (w : Own) : List Nat → Nat → List Tr → List V → Prop
  | _, _, [], ys => ys = []
  | p, n, t :: ts, ys => ∃ y r, ys = y :: r ∧ TreeR K mg O H w (p ++ [n]) t y ∧ TreeAll K mg O H w p (n + 1) ts r
end
mutual
theorem TreeR.all {O' : Ow} {H' : Hp} {w : Own} (f : ∀ d v, Rep K mg O H d v → Rep K mg O' H' d v) (g : ∀ (a : Addr) (u : HO) (p : List Nat), O a = w.at p → H a = some u → nT u → O' a = w.at p ∧ H' a = some u) : ∀ (t : Tr) {p : List Nat} {v : V}, TreeR K mg O H w p t v → TreeR K mg O' H' w p t v
  | .lf _, _, _, h => f _ _ h
  | .ls ts, _, _, h => by
    obtain ⟨a, ys, e, o, l, r⟩ := h
    obtain ⟨o', l'⟩ := g _ _ _ o l trivial
    exact ⟨a, ys, e, o', l', TreeAll.all f g ts r⟩
  | .dc _ ts, _, _, h => by
    obtain ⟨a, ys, e, o, l, q, r⟩ := h
    obtain ⟨o', l'⟩ := g _ _ _ o l trivial
    exact ⟨a, ys, e, o', l', q, TreeAll.all f g ts r⟩
  | .ob _ _ ts, _, _, h => by
    obtain ⟨a, C, dx, ys, e, o, l, q, r⟩ := h
    obtain ⟨o', l'⟩ := g _ _ _ o l trivial
    exact ⟨a, C, dx, ys, e, o', l', q, TreeAll.all f g ts r⟩
  | .any, _, _, _ => trivial
  | .tp ts, _, _, h => by
    obtain ⟨a, ys, e, o, l, r⟩ := h
    obtain ⟨o', l'⟩ := g _ _ _ o l trivial
    exact ⟨a, ys, e, o', l', TreeAll.all f g ts r⟩
theorem TreeAll.all {O' : Ow} {H' : Hp} {w : Own} (f : ∀ d v, Rep K mg O H d v → Rep K mg O' H' d v) (g : ∀ (a : Addr) (u : HO) (p : List Nat), O a = w.at p → H a = some u → nT u → O' a = w.at p ∧ H' a = some u) : ∀ (ts : List Tr) {p : List Nat} {n : Nat} {ys : List V}, TreeAll K mg O H w p n ts ys → TreeAll K mg O' H' w p n ts ys
  | [], _, _, _, h => h
  | t :: ts, _, _, _, h => by
    obtain ⟨y, r, e, a, b⟩ := h
    exact ⟨y, r, e, TreeR.all f g t a, TreeAll.all f g ts b⟩
end
theorem TreeR.go {w : Own} (g : Go O O' H H') {t : Tr} {p : List Nat} {v : V} (h : TreeR K mg O H w p t v) : TreeR K mg O' H' w p t v :=
  h.all (fun _ _ z => Rep.go g z) fun a u _ o l n => ⟨(g.own a (by rw [l]; intro z; cases z)).trans o, g.same.at' _ _ l n⟩
def SlotR (K : PySem.W.Frag) (mg : Str → Option Value) (O : Ow) (H : Hp) (w : Own) : Slot → Option V → Prop
  | .emp, _ => True
  | .val d, u => ∃ v, u = some v ∧ Rep K mg O H d v
  | .ow _ xs, u => ∃ a ys, u = some (.ref a) ∧ O a = w ∧ H a = some (.lst ys) ∧ RepAll K mg O H xs ys
  | .vw xs, u => ∃ a ys, u = some (.ref a) ∧ LsV K O H a ys ∧ RepAll K mg O H xs ys
  | .dct kvs, u => ∃ a kvv, u = some (.ref a) ∧ O a = w ∧ H a = some (.dK kvv) ∧ RepKV K mg O H kvs kvv
  | .vd kvs, u => ∃ a kvv, u = some (.ref a) ∧ (Rd H a (.dK kvv) ∧ (O a = .free ∨ O a = .out)) ∧ RepKV K mg O H kvs kvv
  | .pd kvs, u => ∃ a xs, u = some (.ref a) ∧ O a = w ∧ H a = some (PD a xs) ∧ PdOk a xs ∧ RepPD K mg O H kvs xs
  | .vp kvs, u => ∃ a xs, u = some (.ref a) ∧ (Rd H a (PD a xs) ∧ (O a = .free ∨ O a = .out)) ∧ PdOk a xs ∧ RepPD K mg O H kvs xs
  | .tr m t, u => ∃ v, u = some v ∧ TreeR K mg O H (m.ow w) [] t v
theorem SlotR.go {w : Own} (g : Go O O' H H') : ∀ {s : Slot} {u : Option V}, SlotR K mg O H w s u → SlotR K mg O' H' w s u
  | .emp, _, _ => trivial
  | .val _, _, h => by obtain ⟨v, q, r⟩ := h; exact ⟨v, q, r.go g⟩
  | .ow _ _, _, h => by obtain ⟨a, ys, q, o, l, r⟩ := h; exact ⟨a, ys, q, (g.own a (by rw [l]; intro z; cases z)).trans o, g.same.at' _ _ l, r.go g⟩
  | .vw _, _, h => by
    obtain ⟨a, ys, q, l, r⟩ := h
    exact ⟨a, ys, q, l.go g, r.go g⟩
  | .dct _, _, h => by obtain ⟨a, ys, q, o, l, r⟩ := h; exact ⟨a, ys, q, (g.own a (by rw [l]; intro z; cases z)).trans o, g.same.at' _ _ l, r.go g⟩
  | .vd _, _, h => by obtain ⟨a, ys, q, l, r⟩ := h; exact ⟨a, ys, q, ⟨Rd.same g.same l.1, by rw [g.own a (Rd.some l.1)]; exact l.2⟩, r.go g⟩
  | .pd _, _, h => by obtain ⟨a, ys, q, o, l, r⟩ := h; exact ⟨a, ys, q, (g.own a (by rw [l]; intro z; cases z)).trans o, g.same.at' _ _ l, r.1, r.2.go g⟩
  | .vp _, _, h => by obtain ⟨a, ys, q, l, r⟩ := h; exact ⟨a, ys, q, ⟨Rd.same g.same l.1, by rw [g.own a (Rd.some l.1)]; exact l.2⟩, r.1, r.2.go g⟩
  | .tr _ _, _, h => by obtain ⟨v, q, r⟩ := h; exact ⟨v, q, r.go g⟩
end
theorem TM.ne {m : TM} {w : Own} {o : Own} (ho : o ≠ .out) (ht : ∀ p, o ≠ w.at p) : ∀ p, o ≠ (m.ow w).at p := fun p => by
  cases m with
  | view => exact ho
  | own => exact ht p
  | par => exact ht p
structure Dom (O : Ow) (H : Hp) : Prop where
  has : ∀ a, O a ≠ .free → H a ≠ none
  tabs : TabsOk H
structure S3 (K : PySem.W.Frag) (mg : Str → Option Value) (O : Ow) (σ : En) (S : Store) (σV : St) (H : Hp) : Prop where
  dom : Dom O H
  len : σ.length = σV.length
  loc : ∀ i s, σ[i]? = some s → SlotR K mg O H (.loc i) s (σV[i]?.join)
  emp : S = []
theorem S3.go {K : PySem.W.Frag} {mg : Str → Option Value} {O O' : Ow} {σ : En} {S : Store} {σV : St} {H H' : Hp} (h : S3 K mg O σ S σV H) (g : Go O O' H H') (d : Dom O' H') : S3 K mg O' σ S σV H' :=
  ⟨d, h.len, fun i s e => (h.loc i s e).go g, h.emp⟩
def updO (O : Ow) (a : Addr) (o : Own) : Ow := fun b => if b = a then o else O b
omit [L2.TabP] in
theorem updO_same {O : Ow} {a : Addr} {o : Own} : updO O a o a = o := if_pos rfl
omit [L2.TabP] in
theorem updO_ne {O : Ow} {a b : Addr} {o : Own} (h : b ≠ a) : updO O a o b = O b := if_neg h
section
variable {K : PySem.W.Frag} {mg : Str → Option Value} {O : Ow} {σ : En} {S : Store} {σV : St} {H : Hp} {p : Addr} {u : HO} {o : Own}
/-- a new thing -/
theorem Go.new (hp : H p = none) : Go O (updO O p o) H (upd H p u) :=
  ⟨same_new hp u, fun b hb => updO_ne (by rintro rfl; exact hb hp)⟩
theorem Go.new0 (hp : H p = none) : Go O O H (upd H p u) := ⟨same_new hp u, fun _ _ => rfl⟩
theorem Dom.new (d : Dom O H) (hp : H p = none) : Dom (updO O p o) (upd H p u) := ⟨fun a ha => by
  by_cases e : a = p
  · subst e; rw [upd_same]; intro z; cases z
  · rw [upd_ne e]; rw [updO_ne e] at ha; exact d.has a ha, d.tabs.new hp u⟩
theorem Dom.same {H' : Hp} (d : Dom O H) (s : Same H H') : Dom O H' := ⟨fun a ha => s.some (d.has a ha), s.gd d.tabs⟩
theorem S3.new (h : S3 K mg O σ S σV H) (hp : H p = none) : S3 K mg (updO O p o) σ S σV (upd H p u) := h.go (Go.new hp) (h.dom.new hp)
theorem S3.new0 (h : S3 K mg O σ S σV H) (hp : H p = none) : S3 K mg O σ S σV (upd H p u) := h.go (Go.new0 hp) (h.dom.same (same_new hp u))
end

/-! ### the judgements -/
/-- a new list is one that did not stand ahead -/
def NewR (H : Hp) : R → V → Prop
  | .fr _, v => ∀ a, v = .ref a → H a = none
  | _, _ => True
theorem NewR.back {H H1 : Hp} (s : Same H H1) : ∀ {r : R} {v : V}, NewR H1 r v → NewR H r v
  | .v _, _, _ => trivial
  | .vw _, _, _ => trivial
  | .mv _, _, _ => trivial
  | .dv _, _, _ => trivial
  | .fr _, _, h => fun a e => s.free (h a e)
def NewRs (H : Hp) : List R → List V → Prop
  | r :: rs, v :: vs => NewR H r v ∧ NewRs H rs vs
  | _, _ => True
theorem NewRs.back {H H1 : Hp} (s : Same H H1) : ∀ {rs : List R} {vs : List V}, NewRs H1 rs vs → NewRs H rs vs
  | [], _, _ => trivial
  | _ :: _, [], _ => trivial
  | _ :: _, _ :: _, h => ⟨h.1.back s, NewRs.back s h.2⟩
def PoE (K : PySem.W.Frag) (mg : Str → Option Value) (O : Ow) (σ : En) (S' : Store) (σV : St) (H : Hp) (r : R) (Q : VK) : Prop :=
  ∀ O' v H', Go O O' H H' → S3 K mg O' σ S' σV H' → RepR K mg O' H' r v → NewR H r v → Q v H'
def teOf (K : PySem.W.Frag) (mg : Str → Option Value) (m : ME) : TE := fun σV H Q => ∃ O σ S r S', S3 K mg O σ S σV H ∧ (m σ).run S = .ok r S' ∧ PoE K mg O σ S' σV H r Q
def ttOf (K : PySem.W.Frag) (mg : Str → Option Value) (m : En → M Bool) : TT := fun σV H Q => ∃ O σ S b S', S3 K mg O σ S σV H ∧ (m σ).run S = .ok b S' ∧ ∀ O' H', Go O O' H H' → S3 K mg O' σ S' σV H' → Q b H'
abbrev CE (X : Cx) (e : Expr) (m : ME) : Prop := PE X e (teOf X.K X.mg m)
abbrev CT (X : Cx) (e : Expr) (m : En → M Bool) : Prop := PT X e (ttOf X.K X.mg m)
abbrev CW (X : Cx) (e : Expr) (m : En → M Bool) : Prop := PW X e (ttOf X.K X.mg m)
def RepRs (K : PySem.W.Frag) (mg : Str → Option Value) (O : Ow) (H : Hp) : List R → List V → Prop
  | [], ys => ys = []
  | x :: xs, ys => ∃ y r, ys = y :: r ∧ RepR K mg O H x y ∧ RepRs K mg O H xs r
theorem RepRs.go {K : PySem.W.Frag} {mg : Str → Option Value} {O O' : Ow} {H H' : Hp} (g : Go O O' H H') : ∀ {rs : List R} {ys : List V}, RepRs K mg O H rs ys → RepRs K mg O' H' rs ys
  | [], _, h => h
  | _ :: _, _, h => by obtain ⟨x, r, q, a, b⟩ := h; exact ⟨x, r, q, a.go g, RepRs.go g b⟩
theorem RepRs.len {K : PySem.W.Frag} {mg : Str → Option Value} {O : Ow} {H : Hp} : ∀ {rs : List R} {ys : List V}, RepRs K mg O H rs ys → ys.length = rs.length
  | [], _, h => by cases h; rfl
  | _ :: _, _, h => by obtain ⟨x, r, rfl, _, b⟩ := h; rw [List.length_cons, List.length_cons, RepRs.len b]
abbrev MA := En → M (List R)
def taOf (K : PySem.W.Frag) (mg : Str → Option Value) (m : MA) : TA := fun σV H Q => ∃ O σ S rs S', S3 K mg O σ S σV H ∧ (m σ).run S = .ok rs S' ∧ ∀ O' vs H', Go O O' H H' → S3 K mg O' σ S' σV H' → RepRs K mg O' H' rs vs → NewRs H rs vs → Q vs H'
abbrev CA (X : Cx) (es : List Expr) (m : MA) : Prop := PA X es (taOf X.K X.mg m)
theorem pe_imp {X : Cx} {e : Expr} {t t' : TE} (h : PE X e t) (i : ∀ σ H Q, t' σ H Q → t σ H Q) : PE X e t' := fun pins s σ H Q I q => h pins s σ H Q I (i _ _ _ q)
theorem pt_imp {X : Cx} {e : Expr} {t t' : TT} (h : PT X e t) (i : ∀ σ H Q, t' σ H Q → t σ H Q) : PT X e t' := fun pins s σ H Q I q => h pins s σ H Q I (i _ _ _ q)
theorem pw_imp {X : Cx} {e : Expr} {t t' : TT} (h : PW X e t) (i : ∀ σ H Q, t' σ H Q → t σ H Q) : PW X e t' := fun wh pins s σ H Q I q => h wh pins s σ H Q I (i _ _ _ q)
theorem pa_imp {X : Cx} {es : List Expr} {t t' : TA} (h : PA X es t) (i : ∀ σ H Q, t' σ H Q → t σ H Q) : PA X es t' := fun pos pins s σ H Q I q => h pos pins s σ H Q I (i _ _ _ q)

/-! ### names, constants -/
def cVar (i : Nat) : ME := fun σ => match σ[i]? with
  | some (.val d) => pure (.v d)
  | some (.ow _ xs) => pure (.mv xs)
  | some (.vw xs) => pure (.vw xs)
  | some (.dct kvs) => pure (.dv kvs)
  | some (.vd kvs) => pure (.dv kvs)
  | _ => bad
def cK (d : D) : ME := fun _ => pure (.v d)
section
variable {X : Cx} {a b c e : Expr} {ma mb mc m : ME} {ta tb : En → M Bool} {pos : Pos}
theorem ce_var (i : Nat) {x : Str} {pos : Pos} (hN : X.N[i]? = some x := by rfl) (hv : Vis X.env.scope x := by first | exact Or.inl rfl | exact Or.inr (Or.inl rfl) | exact Or.inr (Or.inr rfl)) (hd : (x == ("__debug__" : Str)) = false := by decide)
    (hcd : (x == ("__classdict__" : Str)) = false := by decide) : CE X (.Name x pos) (cVar i) := pe_imp (pe_var hN hv hd hcd) fun σV H Q ⟨O, σ, S, r, S', st, h, q⟩ => by
  unfold cVar at h
  cases e : σ[i]? with
  | none => rw [e] at h; cases h
  | some s =>
    rw [e] at h
    have l := st.loc i s e
    have get : ∀ {v : V}, σV[i]?.join = some v → σV[i]? = some (some v) := fun {v} z => by
      cases w : σV[i]? with
      | none => rw [w] at z; cases z
      | some y => rw [w] at z; exact congrArg some z
    cases s with
    | val d =>
      obtain ⟨v, e1, e2⟩ := l
      cases h
      exact ⟨v, get e1, q O v H (Go.refl _ _) st e2 trivial⟩
    | ow p xs =>
      obtain ⟨a, ys, e1, e2, e3, e4⟩ := l
      cases h
      exact ⟨_, get e1, q O _ H (Go.refl _ _) st ⟨a, ys, rfl, e3, e4⟩ trivial⟩
    | vw xs =>
      obtain ⟨a, ys, e1, e2, e4⟩ := l
      cases h
      exact ⟨_, get e1, q O _ H (Go.refl _ _) st ⟨a, ys, rfl, e2, e4⟩ trivial⟩
    | emp => cases h
    | pd k => cases h
    | vp k => cases h
    | tr _ _ => cases h
    | dct k =>
      obtain ⟨a, ys, e1, e2, e3, e4⟩ := l
      cases h
      exact ⟨_, get e1, q O _ H (Go.refl _ _) st ⟨a, ys, rfl, .inl e3, e4⟩ trivial⟩
    | vd k =>
      obtain ⟨a, ys, e1, e2, e4⟩ := l
      cases h
      exact ⟨_, get e1, q O _ H (Go.refl _ _) st ⟨a, ys, rfl, e2.1, e4⟩ trivial⟩
theorem ce_k {d : D} {v : V} (h : PE X e (tC v)) (r : ∀ O H, Rep X.K X.mg O H d v) : CE X e (cK d) := pe_imp h fun σV H Q ⟨O, σ, S, r', S', st, h, q⟩ => by
  cases h
  exact q O v H (Go.refl _ _) st (r O H) trivial
theorem ce_int {i j pos} : CE X (.Constant (.int i) j pos) (cK (.int i)) := ce_k pe_int fun _ _ => rfl
theorem ce_bl {b j pos} : CE X (.Constant (.bool b) j pos) (cK (.bl b)) := ce_k pe_bl fun _ _ => rfl
theorem ce_non {j pos} : CE X (.Constant .none j pos) (cK .non) := ce_k pe_non fun _ _ => rfl
theorem ce_str {x j pos} : CE X (.Constant (.str x) j pos) (cK (.str x)) := ce_k pe_str fun _ _ => rfl

/-! ### two-place operations -/
def c2 (f : R → R → M R) (a b : ME) : ME := fun σ => do
  let x ← a σ
  let y ← b σ
  f x y
def Bin (K : PySem.W.Frag) (mg : Str → Option Value) (r : R2) (f : R → R → M R) : Prop :=
  ∀ O σ S σV H x y rx ry r' S' (Q : VK), S3 K mg O σ S σV H → RepR K mg O H rx x → RepR K mg O H ry y → (f rx ry).run S = .ok r' S' → PoE K mg O σ S' σV H r' Q → r x y H Q
theorem c2_read {K : PySem.W.Frag} {mg : Str → Option Value} {r : R2} {f : R → R → M R} (hf : Bin K mg r f) : ∀ σV H Q, teOf K mg (c2 f ma mb) σV H Q → tOp r (teOf K mg ma) (teOf K mg mb) σV H Q := by
  rintro σV H Q ⟨O, σ, S, r', S', st, h, q⟩
  obtain ⟨x, S1, h1, h⟩ := M.inv h
  obtain ⟨y, S2, h2, h⟩ := M.inv h
  refine ⟨O, σ, S, x, S1, st, h1, fun O1 vx H1 g1 st1 rx nx => ?_⟩
  refine ⟨O1, σ, S1, y, S2, st1, h2, fun O2 vy H2 g2 st2 ry ny => ?_⟩
  exact hf O2 σ S2 σV H2 vx vy x y r' S' Q st2 (rx.go g2) ry h fun O' v H' g st' rr nn => q O' v H' ((g1.trans g2).trans g) st' rr (nn.back (g1.trans g2).same)
theorem ce_op {op : Operator} {r : R2} {f : R → R → M R} (ho : OpR X (binaryOp op) r) (hf : Bin X.K X.mg r f) (ha : CE X a ma) (hb : CE X b mb) : CE X (.BinOp a op b pos) (c2 f ma mb) := pe_imp (pe_op ho ha hb) (c2_read hf)
theorem ce_cmp {op : CmpOp} {r : R2} {f : R → R → M R} (ho : OpR X (compareOp op) r) (hf : Bin X.K X.mg r f) (ha : CE X a ma) (hb : CE X b mb) (hm : behindInMarks op b = false) : CE X (.Compare a [op] [b] pos) (c2 f ma mb) := pe_imp (pe_cmpR ho ha hb hm) (c2_read hf)
theorem ce_ix {r : R2} {f : R → R → M R} (ho : IxR X r) (hf : Bin X.K X.mg r f) (ha : CE X a ma) (hb : CE X b mb) (hs : PlainIx b) : CE X (.Subscript a b pos) (c2 f ma mb) := pe_imp (pe_ix ho ha hb hs) (c2_read hf)
/-- a truth -/
def R.tru : R → M Bool
  | .v (.bl b) => pure b
  | _ => bad
def cT (m : ME) : En → M Bool := fun σ => do
  let x ← m σ
  x.tru
omit [L2.TabP] in
theorem tru_inv {r : R} {b : Bool} {S S' : Store} (h : r.tru.run S = .ok b S') : r = .v (.bl b) ∧ S = S' := by
  cases r with
  | v d => cases d <;> cases h <;> exact ⟨rfl, rfl⟩
  | fr _ => cases h
  | vw _ => cases h
  | mv _ => cases h
  | dv _ => cases h
theorem test_read {K : PySem.W.Frag} {mg : Str → Option Value} : ∀ σV H Q, ttOf K mg (cT m) σV H Q → tTest (teOf K mg m) σV H Q := by
  rintro σV H Q ⟨O, σ, S, t, S', st, h, q⟩
  obtain ⟨x, S1, h1, h⟩ := M.inv h
  obtain ⟨rfl, rfl⟩ := tru_inv h
  exact ⟨O, σ, S, _, _, st, h1, fun O' v H' g st' rr _ => ⟨t, rr, q O' H' g st'⟩⟩
theorem tTest_imp {t t' : TE} (i : ∀ σ H Q, t' σ H Q → t σ H Q) : ∀ σ H Q, tTest t' σ H Q → tTest t σ H Q := fun σ H Q q => i _ _ _ q
theorem ct_cmp {op : CmpOp} {r : R2} {f : R → R → M R} (ho : OpR X (compareOp op) r) (hf : Bin X.K X.mg r f) (ha : CE X a ma) (hb : CE X b mb) (hm : behindInMarks op b = false) : CT X (.Compare a [op] [b] pos) (cT (c2 f ma mb)) :=
  pt_imp (pt_cmpR ho ha hb hm) fun σV H Q h => tTest_imp (c2_read hf) σV H Q (test_read σV H Q h)
/-! chains a op b op' c -/
def c3 (f g : R → R → M R) (a b c : ME) : ME := fun σ => do
  let x ← a σ
  let y ← b σ
  let z ← f x y
  let t ← z.tru
  if t = true then do
    let w ← c σ
    g y w
  else pure (.v (.bl false))
theorem c3_read {K : PySem.W.Frag} {mg : Str → Option Value} {r r' : R2} {f g : R → R → M R} (hf : Bin K mg r f) (hg : Bin K mg r' g) : ∀ σV H Q, teOf K mg (c3 f g ma mb mc) σV H Q → tChain r r' (teOf K mg ma) (teOf K mg mb) (teOf K mg mc) σV H Q := by
  rintro σV H Q ⟨O, σ, S, r', S', st, h, q⟩
  obtain ⟨x, S1, h1, h⟩ := M.inv h
  obtain ⟨y, S2, h2, h⟩ := M.inv h
  obtain ⟨z, S3', h3, h⟩ := M.inv h
  obtain ⟨t, S4, h4, h⟩ := M.inv h
  obtain ⟨rfl, rfl⟩ := tru_inv h4
  refine ⟨O, σ, S, x, S1, st, h1, fun O1 vx H1 g1 st1 rx nx => ?_⟩
  refine ⟨O1, σ, S1, y, S2, st1, h2, fun O2 vy H2 g2 st2 ry ny => ?_⟩
  refine hf O2 σ S2 σV H2 vx vy x y _ _ _ st2 (rx.go g2) ry h3 fun O3 v3 H3 g3 st3 rr _ => ⟨t, rr, ?_⟩
  have g123 := (g1.trans g2).trans g3
  cases t with
  | false =>
    rw [if_neg Bool.false_ne_true] at h
    cases h
    exact iteF (q O3 _ H3 g123 st3 rfl trivial)
  | true =>
    rw [if_pos rfl] at h
    obtain ⟨w, S5, h5, h⟩ := M.inv h
    refine iteT ⟨O3, σ, _, w, S5, st3, h5, fun O4 vw H4 g4 st4 rw nw => ?_⟩
    exact hg O4 σ S5 σV H4 vy vw y w _ S' Q st4 (ry.go (g3.trans g4)) rw h fun O' v H' g st' rr nn => q O' v H' ((g123.trans g4).trans g) st' rr (nn.back (g123.trans g4).same)
theorem ct_chain {op op' : CmpOp} {r r' : R2} {f g : R → R → M R} (ho : OpR X (compareOp op) r) (hf : Bin X.K X.mg r f) (ho' : OpR X (compareOp op') r') (hg : Bin X.K X.mg r' g) (ha : CE X a ma) (hb : CE X b mb) (hc : CE X c mc)
    (hm : lastMarks [op, op'] [b, c] = false := by with_unfolding_all rfl) : CT X (.Compare a [op, op'] [b, c] pos) (cT (c3 f g ma mb mc)) :=
  pt_imp (pt_chain ho ho' ha hb hc hm) fun σV H Q h => tTest_imp (c3_read hf hg) σV H Q (test_read σV H Q h)

/-! ### and, or, not, if-expressions -/
def cAnd (a b : ME) : ME := fun σ => do
  let x ← a σ
  let t ← x.tru
  if t = true then b σ else pure (.v (.bl false))
def cOr (a b : ME) : ME := fun σ => do
  let x ← a σ
  let t ← x.tru
  if t = true then pure (.v (.bl true)) else b σ
def cNot (a : ME) : ME := fun σ => do
  let x ← a σ
  let t ← x.tru
  pure (.v (.bl (!t)))
def tAndM (a b : En → M Bool) : En → M Bool := fun σ => do
  let t ← a σ
  if t = true then b σ else pure false
def tOrM (a b : En → M Bool) : En → M Bool := fun σ => do
  let t ← a σ
  if t = true then pure true else b σ
def tNotM (a : En → M Bool) : En → M Bool := fun σ => do
  let t ← a σ
  pure (!t)
def cIf (t : En → M Bool) (a b : ME) : ME := fun σ => do
  let t ← t σ
  if t = true then a σ else b σ
variable {rest : List Expr}
theorem ce_one {op} (h : CE X a ma) : CE X (.BoolOp op [a] pos) ma := pe_one h
theorem ce_and (ha : CE X a ma) (hb : CE X (.BoolOp .And (b :: rest) pos) mb) : CE X (.BoolOp .And (a :: b :: rest) pos) (cAnd ma mb) := pe_imp (pe_and ha hb) fun σV H Q ⟨O, σ, S, r, S', st, h, q⟩ => by
  obtain ⟨x, S1, h1, h⟩ := M.inv h
  obtain ⟨t, S2, h2, h⟩ := M.inv h
  obtain ⟨rfl, rfl⟩ := tru_inv h2
  refine ⟨O, σ, S, _, _, st, h1, fun O1 vx H1 g1 st1 rx nx => ⟨t, rx, ?_⟩⟩
  cases t with
  | false =>
    rw [if_neg Bool.false_ne_true] at h
    cases h
    exact iteF (q O1 _ H1 g1 st1 rfl trivial)
  | true =>
    rw [if_pos rfl] at h
    exact iteT ⟨O1, σ, _, r, S', st1, h, fun O' v H' g st' rr nn => q O' v H' (g1.trans g) st' rr (nn.back g1.same)⟩
theorem ce_not (ha : CE X a ma) : CE X (.UnaryOp .Not a pos) (cNot ma) := pe_imp (pe_not ha) fun σV H Q ⟨O, σ, S, r, S', st, h, q⟩ => by
  obtain ⟨x, S1, h1, h⟩ := M.inv h
  obtain ⟨t, S2, h2, h⟩ := M.inv h
  obtain ⟨rfl, rfl⟩ := tru_inv h2
  cases h
  exact ⟨O, σ, S, _, _, st, h1, fun O1 vx H1 g1 st1 rx nx => ⟨t, rx, q O1 _ H1 g1 st1 rfl trivial⟩⟩
theorem ct_val (ha : CE X a ma) (he : ∀ whole, isTrue a X.env whole = (do let v ← whole; standAt a.pos; holding [v] (truthy v)) := by intro _; rfl) : CT X a (cT ma) := pt_imp (pt_val ha he) fun σV H Q h => test_read σV H Q h
theorem cw_and1 (ha : CT X a ta) : CW X (.BoolOp .And [a] pos) ta := pw_and1 ha
theorem cw_or1 (ha : CT X a ta) : CW X (.BoolOp .Or [a] pos) ta := pw_or1 ha
theorem cw_and (ha : CT X a ta) (hb : CW X (.BoolOp .And (b :: rest) pos) tb) : CW X (.BoolOp .And (a :: b :: rest) pos) (tAndM ta tb) := pw_imp (pw_and ha hb) fun σV H Q ⟨O, σ, S, r, S', st, h, q⟩ => by
  obtain ⟨t, S1, h1, h⟩ := M.inv h
  refine ⟨O, σ, S, t, S1, st, h1, fun O1 H1 g1 st1 => ?_⟩
  cases t with
  | false =>
    rw [if_neg Bool.false_ne_true] at h
    cases h
    exact iteF (q O1 H1 g1 st1)
  | true =>
    rw [if_pos rfl] at h
    exact iteT ⟨O1, σ, S1, r, S', st1, h, fun O' H' g st' => q O' H' (g1.trans g) st'⟩
theorem cw_or (ha : CT X a ta) (hb : CW X (.BoolOp .Or (b :: rest) pos) tb) : CW X (.BoolOp .Or (a :: b :: rest) pos) (tOrM ta tb) := pw_imp (pw_or ha hb) fun σV H Q ⟨O, σ, S, r, S', st, h, q⟩ => by
  obtain ⟨t, S1, h1, h⟩ := M.inv h
  refine ⟨O, σ, S, t, S1, st, h1, fun O1 H1 g1 st1 => ?_⟩
  cases t with
  | true =>
    rw [if_pos rfl] at h
    cases h
    exact iteT (q O1 H1 g1 st1)
  | false =>
    rw [if_neg Bool.false_ne_true] at h
    exact iteF ⟨O1, σ, S1, r, S', st1, h, fun O' H' g st' => q O' H' (g1.trans g) st'⟩
theorem CW.ct (h : CW X a ta) : CT X a ta := h.pt
theorem ct_not (ha : CT X a ta) : CT X (.UnaryOp .Not a pos) (tNotM ta) := pt_imp (pt_not ha) fun σV H Q ⟨O, σ, S, r, S', st, h, q⟩ => by
  obtain ⟨t, S1, h1, h⟩ := M.inv h
  cases h
  exact ⟨O, σ, S, t, _, st, h1, fun O1 H1 g1 st1 => q O1 H1 g1 st1⟩
end
end L3

set_option Elab.async false
set_option linter.all false
set_option maxRecDepth 100000
set_option maxHeartbeats 1000000
namespace L3
open PySem PySem.Spec L2
variable [L2.TabP]
/-! ### operations on ints, truths, texts, sequences -/
def oI0 (g : Int → Int → Int) : R → R → M R
  | .v (.int i), .v (.int j) => pure (.v (.int (g i j)))
  | _, _ => bad
def oI (C : Int → Int → Prop) [∀ i j, Decidable (C i j)] (g : Int → Int → Int) : R → R → M R
  | .v (.int i), .v (.int j) => if C i j then pure (.v (.int (g i j))) else bad
  | _, _ => bad
def oB (g : Int → Int → Bool) : R → R → M R
  | .v (.int i), .v (.int j) => pure (.v (.bl (g i j)))
  | _, _ => bad
section
variable {K : PySem.W.Frag} {mg : Str → Option Value}
theorem bin_I0 {g : Int → Int → Int} : Bin K mg (rI0 fun i j => .int (g i j)) (oI0 g) := fun O σ S σV H x y rx ry r' S' Q st hx hy h q => by
  unfold oI0 at h
  split at h
  · rename_i i j
    cases h
    exact ⟨i, j, hx, hy, q O _ H (Go.refl _ _) st rfl trivial⟩
  · cases h
theorem bin_I {C : Int → Int → Prop} {C' : Int → Int → Prop} [∀ i j, Decidable (C' i j)] {g : Int → Int → Int} (hC : ∀ i j, C' i j → C i j) : Bin K mg (rI C fun i j => .int (g i j)) (oI C' g) := fun O σ S σV H x y rx ry r' S' Q st hx hy h q => by
  unfold oI at h
  split at h
  · rename_i i j
    by_cases c : C' i j
    · rw [if_pos c] at h
      cases h
      exact ⟨i, j, hx, hy, hC i j c, q O _ H (Go.refl _ _) st rfl trivial⟩
    · rw [if_neg c] at h; cases h
  · cases h
theorem bin_B {g : Int → Int → Bool} : Bin K mg (rI0 fun i j => .bl (g i j)) (oB g) := fun O σ S σV H x y rx ry r' S' Q st hx hy h q => by
  unfold oB at h
  split at h
  · rename_i i j
    cases h
    exact ⟨i, j, hx, hy, q O _ H (Go.refl _ _) st rfl trivial⟩
  · cases h
end
abbrev oAdd := oI0 (· + ·)
abbrev oSub := oI0 (· - ·)
abbrev oMod := oI (fun _ j => 0 < j) (· % ·)
abbrev oPow := oI (fun i j => 0 ≤ j ∧ j ≤ 1000000 ∧ i.natAbs < 2 ^ 64) (fun i j => i ^ j.toNat)
abbrev oLt := oB fun i j => decide (i < j)
abbrev oLe := oB fun i j => decide (i ≤ j)
abbrev oGt := oB fun i j => decide (j < i)
section
variable {X : Cx}
theorem bAdd : Bin X.K X.mg (rI0 fun i j => .int (i + j)) oAdd := bin_I0
theorem bSub : Bin X.K X.mg (rI0 fun i j => .int (i - j)) oSub := bin_I0
theorem bMod : Bin X.K X.mg (rI (fun _ j => 0 < j) fun i j => .int (i % j)) oMod := bin_I fun _ _ h => h
theorem bPow : Bin X.K X.mg (rI CPow fun i j => .int (i ^ j.toNat)) oPow := bin_I fun _ _ h => h
theorem bLt : Bin X.K X.mg (rI0 fun i j => .bl (decide (i < j))) oLt := bin_B
theorem bLe : Bin X.K X.mg (rI0 fun i j => .bl (decide (i ≤ j))) oLe := bin_B
theorem bGt : Bin X.K X.mg (rI0 fun i j => .bl (decide (j < i))) oGt := bin_B
end
/-- one-place -/
def c1 (f : R → M R) (a : ME) : ME := fun σ => do
  let x ← a σ
  f x
def oNeg : R → M R
  | .v (.int i) => pure (.v (.int (-i)))
  | _ => bad
/-- as a sequence: its items -/
def R.lis : R → Option (List D)
  | .v (.lst xs) => some xs
  | .fr xs => some xs
  | .vw xs => some xs
  | .mv xs => some xs
  | _ => none
def R.tpl : R → Option (List D)
  | .v (.tup xs) => some xs
  | _ => none
def R.seq (r : R) : Option (List D) := r.lis <|> r.tpl
theorem R.lis_rep {K : PySem.W.Frag} {mg : Str → Option Value} {O : Ow} {H : Hp} {r : R} {v : V} {xs : List D} (h : RepR K mg O H r v) (e : r.lis = some xs) : ∃ a ys, v = .ref a ∧ SqL K H a ys ∧ RepAll K mg O H xs ys := by
  unfold R.lis at e
  split at e
  · cases e; obtain ⟨a, ys, q, l, r⟩ := h; exact ⟨a, ys, q, l.sq, r⟩
  · cases e; obtain ⟨a, ys, q, l, _, r⟩ := h; exact ⟨a, ys, q, SqL.of l, r⟩
  · cases e; obtain ⟨a, ys, q, l, r⟩ := h; exact ⟨a, ys, q, l.sq, r⟩
  · cases e; obtain ⟨a, ys, q, l, r⟩ := h; exact ⟨a, ys, q, SqL.of l, r⟩
  · cases e
theorem R.tpl_rep {K : PySem.W.Frag} {mg : Str → Option Value} {O : Ow} {H : Hp} {r : R} {v : V} {xs : List D} (h : RepR K mg O H r v) (e : r.tpl = some xs) : ∃ a ys, v = .ref a ∧ SqT K H a ys ∧ RepAll K mg O H xs ys := by
  unfold R.tpl at e
  split at e
  · cases e; exact h
  · cases e
theorem R.seq_rep {K : PySem.W.Frag} {mg : Str → Option Value} {O : Ow} {H : Hp} {r : R} {v : V} {xs : List D} (h : RepR K mg O H r v) (e : r.seq = some xs) : ∃ a ys, v = .ref a ∧ (SqL K H a ys ∨ SqT K H a ys) ∧ RepAll K mg O H xs ys := by
  unfold R.seq at e
  cases e1 : r.lis with
  | some zs => rw [e1] at e; cases e; obtain ⟨a, ys, q, l, r⟩ := R.lis_rep h e1; exact ⟨a, ys, q, .inl l, r⟩
  | none => rw [e1] at e; obtain ⟨a, ys, q, l, r⟩ := R.tpl_rep h e; exact ⟨a, ys, q, .inr l, r⟩
theorem RepAll.atI {K : PySem.W.Frag} {mg : Str → Option Value} {O : Ow} {H : Hp} {ds : List D} {xs : List V} {i : Int} {d : D} (h : RepAll K mg O H ds xs) (e : atI ds i = some d) : ∃ x, L2.atI xs i = some x ∧ Rep K mg O H d x := by
  unfold L2.atI at e ⊢
  rw [h.len]
  cases q : ixN ds.length i with
  | none => rw [q] at e; cases e
  | some j => rw [q] at e; exact h.get e
/-- a[i] -/
def oIx : R → R → M R
  | .v (.str z), .v (.int i) => match atI z.cps.toList i with
    | some c => if z.length ≤ sizeLine then pure (.v (.str ⟨#[c]⟩)) else bad
    | none => bad
  | x, .v (.int i) => match x.seq with
    | some xs => match atI xs i with
      | some d => pure (.v d)
      | none => bad
    | none => bad
  | _, _ => bad
theorem bIx {K : PySem.W.Frag} {mg : Str → Option Value} : Bin K mg (rIx K) oIx := fun O σ S σV H x y rx ry r' S' Q st hx hy h q => by
  unfold oIx at h
  split at h
  · rename_i z i
    split at h
    · rename_i c e2
      by_cases hz : z.length ≤ sizeLine
      · rw [if_pos hz] at h
        cases h
        exact .inr (.inr ⟨z, i, c, hx, hy, hz, e2, q O _ H (Go.refl _ _) st rfl trivial⟩)
      · rw [if_neg hz] at h; cases h
    · cases h
  · rename_i i _
    split at h
    · rename_i xs e
      split at h
      · rename_i d e2
        cases h
        obtain ⟨a, ys, rfl, l, ra⟩ := R.seq_rep hx e
        obtain ⟨z, e3, rz⟩ := RepAll.atI ra e2
        have hQ := q O z H (Go.refl _ _) st rz trivial
        rcases l with l | l
        · exact .inl ⟨a, ys, i, z, rfl, hy, l, e3, hQ⟩
        · exact .inr (.inl ⟨a, ys, i, z, rfl, hy, l, e3, hQ⟩)
      · cases h
    · cases h
  · cases h
/-! ### lists of expressions, displays -/
def cNil : MA := fun _ => pure []
def cCons (m : ME) (ms : MA) : MA := fun σ => do
  let x ← m σ
  let xs ← ms σ
  pure (x :: xs)
section
variable {X : Cx} {e : Expr} {es : List Expr} {m : ME} {ms : MA} {pos : Pos}
theorem ca_nil : CA X [] cNil := pa_imp pa_nil fun σV H Q ⟨O, σ, S, r, S', st, h, q⟩ => by
  cases h
  exact q O [] H (Go.refl _ _) st rfl trivial
theorem ca_cons (ha : CE X e m) (hr : CA X es ms) (hs : starEach (e :: es) X.env = (false, eval e X.env) :: starEach es X.env := by rfl) : CA X (e :: es) (cCons m ms) := pa_imp (pa_cons ha hr hs) fun σV H Q ⟨O, σ, S, r, S', st, h, q⟩ => by
  obtain ⟨x, S1, h1, h⟩ := M.inv h
  obtain ⟨xs, S2, h2, h⟩ := M.inv h
  cases h
  refine ⟨O, σ, S, x, S1, st, h1, fun O1 vx H1 g1 st1 rx nx => ?_⟩
  refine ⟨O1, σ, S1, xs, _, st1, h2, fun O2 vs H2 g2 st2 rs ns => ?_⟩
  exact q O2 (vx :: vs) H2 (g1.trans g2) st2 ⟨vx, vs, rfl, rx.go g2, rs⟩ ⟨nx, ns.back g1.same⟩
end
/-- as a datum (a new list: from now on nobody changes it) -/
def R.dat : R → M D
  | .v d => pure d
  | .fr xs => pure (.lst xs)
  | _ => bad
def dats : List R → M (List D)
  | [] => pure []
  | r :: rs => do
    let d ← r.dat
    let ds ← dats rs
    pure (d :: ds)
/-- what is new since H₀ and nobody's is free from now on -/
def frz (H₀ : Hp) (O : Ow) : Ow := fun b => match H₀ b, O b with
  | none, .tmp => .free
  | _, o => o
theorem frz_old {H₀ : Hp} {O : Ow} {b : Addr} (h : H₀ b ≠ none) : frz H₀ O b = O b := by
  unfold frz
  cases e : H₀ b with
  | none => exact absurd e h
  | some o => cases O b <;> rfl
theorem frz_tmp {H₀ : Hp} {O : Ow} {b : Addr} (h : H₀ b = none) (t : O b = .tmp) : frz H₀ O b = .free := by unfold frz; rw [h, t]
theorem frz_not {H₀ : Hp} {O : Ow} {b : Addr} (t : O b ≠ .tmp) : frz H₀ O b = O b := by
  unfold frz
  cases e : H₀ b <;> cases e2 : O b <;> first | rfl | exact absurd e2 t
theorem frz_fre (H₀ : Hp) (O : Ow) : Fre O (frz H₀ O) := ⟨fun a h => by rw [frz_not (by rw [h]; intro z; cases z), h]⟩
theorem SlotR.fre {K : PySem.W.Frag} {mg : Str → Option Value} {O O' : Ow} {H : Hp} {w : Own} (g : Fre O O') (ho : ∀ a, O a = .out → O' a = .out) (hw : ∀ a, O a = w → O' a = w) (ht : ∀ a p, O a = w.at p → O' a = w.at p) : ∀ {s : Slot} {u : Option V}, SlotR K mg O H w s u → SlotR K mg O' H w s u
  | .emp, _, _ => trivial
  | .val _, _, h => by obtain ⟨v, q, r⟩ := h; exact ⟨v, q, r.fre g⟩
  | .ow _ _, _, h => by obtain ⟨a, ys, q, o, l, r⟩ := h; exact ⟨a, ys, q, hw a o, l, r.fre g⟩
  | .vw _, _, h => by
    obtain ⟨a, ys, q, l, r⟩ := h
    refine ⟨a, ys, q, l.imp (fun z => ⟨z.1, z.2.imp (g.fr a) (ho a)⟩) id, r.fre g⟩
  | .dct _, _, h => by obtain ⟨a, ys, q, o, l, r⟩ := h; exact ⟨a, ys, q, hw a o, l, r.fre g⟩
  | .vd _, _, h => by obtain ⟨a, ys, q, l, r⟩ := h; exact ⟨a, ys, q, ⟨l.1, l.2.imp (g.fr a) (ho a)⟩, r.fre g⟩
  | .pd _, _, h => by obtain ⟨a, ys, q, o, l, r⟩ := h; exact ⟨a, ys, q, hw a o, l, r.1, r.2.fre g⟩
  | .vp _, _, h => by obtain ⟨a, ys, q, l, r⟩ := h; exact ⟨a, ys, q, ⟨l.1, l.2.imp (g.fr a) (ho a)⟩, r.1, r.2.fre g⟩
  | .tr m _, _, h => by
    obtain ⟨v, q, r⟩ := h
    refine ⟨v, q, r.all (fun _ _ z => Rep.fre g z) fun a _ p o l _ => ⟨?_, l⟩⟩
    cases m with
    | view => exact ho a o
    | own => exact ht a p o
    | par => exact ht a p o
section
variable {K : PySem.W.Frag} {mg : Str → Option Value} {O : Ow} {σ : En} {S : Store} {σV : St} {H H₀ : Hp}
theorem S3.frz (h : S3 K mg O σ S σV H) (H₀ : Hp) : S3 K mg (frz H₀ O) σ S σV H :=
  ⟨⟨fun a ha => h.dom.has a fun z => ha (by rw [frz_not (by rw [z]; intro w; cases w), z]), h.dom.tabs⟩, h.len,
   fun i s e => (h.loc i s e).fre (frz_fre _ _) (fun a z => by rw [frz_not (by rw [z]; intro w; cases w), z]) (fun a z => by rw [frz_not (by rw [z]; intro w; cases w), z]) (fun a p z => by rw [frz_not (by rw [z]; intro w; cases w), z]), h.emp⟩
theorem Go.frz {O₀ : Ow} (g : Go O₀ O H₀ H) : Go O₀ (frz H₀ O) H₀ H := ⟨g.same, fun b hb => (frz_old hb).trans (g.own b hb)⟩
theorem dat_rep {r : R} {v : V} {d : D} {S' : Store} (hr : RepR K mg O H r v) (hn : NewR H₀ r v) (h : r.dat.run S = .ok d S') : Rep K mg (L3.frz H₀ O) H d v ∧ S = S' := by
  cases r with
  | v d' => cases h; exact ⟨Rep.fre (frz_fre _ _) hr, rfl⟩
  | fr xs =>
    cases h
    obtain ⟨a, ys, rfl, l, t, ra⟩ := hr
    exact ⟨⟨a, ys, rfl, ⟨l, frz_tmp (hn a rfl) t⟩, RepAll.fre (frz_fre _ _) ra⟩, rfl⟩
  | vw xs => cases h
  | mv xs => cases h
  | dv _ => cases h
theorem dats_rep : ∀ {rs : List R} {vs : List V} {ds : List D} {S S' : Store}, RepRs K mg O H rs vs → NewRs H₀ rs vs → (dats rs).run S = .ok ds S' → RepAll K mg (L3.frz H₀ O) H ds vs ∧ S = S'
  | [], vs, ds, S, S', hr, _, h => by cases h; exact ⟨hr, rfl⟩
  | r :: rs, vs, ds, S, S', hr, hn, h => by
    obtain ⟨d, S1, h1, h⟩ := M.inv h
    obtain ⟨ds', S2, h2, h⟩ := M.inv h
    cases h
    obtain ⟨v, vr, rfl, r1, r2⟩ := hr
    obtain ⟨q1, rfl⟩ := dat_rep (H₀ := H₀) r1 hn.1 h1
    obtain ⟨q2, rfl⟩ := dats_rep r2 hn.2 h2
    exact ⟨⟨v, vr, rfl, q1, q2⟩, rfl⟩
end
def cTup (ms : MA) : ME := fun σ => do
  let rs ← ms σ
  let ds ← dats rs
  chk (ds.length ≤ 1000)
  pure (.v (.tup ds))
def cLst (ms : MA) : ME := fun σ => do
  let rs ← ms σ
  let ds ← dats rs
  chk (ds.length ≤ 1000)
  pure (.fr ds)
section
variable {X : Cx} {e : Expr} {es : List Expr} {m : ME} {ms : MA} {pos : Pos}
theorem ce_tup {x1} (h : CA X es ms) : CE X (.Tuple es x1 pos) (cTup ms) := pe_imp (pe_tup h) fun σV H Q ⟨O, σ, S, r, S', st, h, q⟩ => by
  obtain ⟨rs, S1, h1, h⟩ := M.inv h
  obtain ⟨ds, S2, h2, h⟩ := M.inv h
  obtain ⟨_, S3', h3, h⟩ := M.inv h
  obtain ⟨hl, rfl⟩ := chk_inv h3
  cases h
  refine ⟨O, σ, S, rs, S1, st, h1, fun O1 vs H1 g1 st1 rr nn => ?_⟩
  obtain ⟨ra, rfl⟩ := dats_rep (H₀ := H) rr nn h2
  refine ⟨Nat.le_of_lt (small1000 (by rw [ra.len]; exact hl)), fun p hp => ?_⟩
  exact q (frz H O1) _ _ (g1.frz.trans (Go.new0 hp)) ((st1.frz H).new0 hp) ⟨p, vs, rfl, SqT.of upd_same, ra.go (Go.new0 hp)⟩ trivial
theorem ce_lst (h : CA X es ms) : CE X (.List es pos) (cLst ms) := pe_imp (pe_lst h) fun σV H Q ⟨O, σ, S, r, S', st, h, q⟩ => by
  obtain ⟨rs, S1, h1, h⟩ := M.inv h
  obtain ⟨ds, S2, h2, h⟩ := M.inv h
  obtain ⟨_, S3', h3, h⟩ := M.inv h
  obtain ⟨hl, rfl⟩ := chk_inv h3
  cases h
  refine ⟨O, σ, S, rs, S1, st, h1, fun O1 vs H1 g1 st1 rr nn => ?_⟩
  obtain ⟨ra, rfl⟩ := dats_rep (H₀ := H) rr nn h2
  refine ⟨Nat.le_of_lt (small1000 (by rw [ra.len]; exact hl)), fun p hp => ?_⟩
  refine q (updO (frz H O1) p .tmp) _ _ (g1.frz.trans (Go.new hp)) ((st1.frz H).new hp) ⟨p, vs, rfl, upd_same, updO_same, ra.go (Go.new hp)⟩ fun a ea => ?_
  cases ea
  exact g1.same.free hp
end
/-! ### calls of built-in functions and kinds -/
def cB (f : List R → M R) (ms : MA) : ME := fun σ => do
  let rs ← ms σ
  f rs
def BinC (K : PySem.W.Frag) (mg : Str → Option Value) (r : List V → Hp → VK → Prop) (f : List R → M R) : Prop :=
  ∀ O σ S σV H xs rs r' S' (Q : VK), S3 K mg O σ S σV H → RepRs K mg O H rs xs → (f rs).run S = .ok r' S' → PoE K mg O σ S' σV H r' Q → r xs H Q
section
variable {X : Cx} {e : Expr} {es : List Expr} {ms : MA} {pos p : Pos} {x : Str} {id T : String} {r : List V → Hp → VK → Prop} {f : List R → M R}
theorem cB_read {K : PySem.W.Frag} {mg : Str → Option Value} (hf : BinC K mg r f) : ∀ σV H Q, teOf K mg (cB f ms) σV H Q → tCB r (taOf K mg ms) σV H Q := by
  rintro σV H Q ⟨O, σ, S, r', S', st, h, q⟩
  obtain ⟨rs, S1, h1, h⟩ := M.inv h
  refine ⟨O, σ, S, rs, S1, st, h1, fun O1 vs H1 g1 st1 rr nn => ?_⟩
  exact hf O1 σ S1 σV H1 vs rs r' S' Q st1 rr h fun O' v H' g st' rr' nn' => q O' v H' (g1.trans g) st' rr' (nn'.back g1.same)
theorem ce_callB (hc : CallR X (.builtin id) r) (hf : BinC X.K X.mg r f) (hg : Gl X x) (hm : X.mg x = none) (hv : bootBuiltins x = some (.builtin id)) (ha : CA X (e :: es) ms) (hn : x ≠ "__name__" := by decide) (hdb : (x == ("__debug__" : Str)) = false := by decide)
    (he : starEach (e :: es) X.env = (false, eval e X.env) :: starEach es X.env := by rfl) (hpl : (backTo pos (starEach es X.env)).any (·.1) = false := by rfl) : CE X (.Call (.Name x p) (e :: es) [] pos) (cB f ms) :=
  pe_imp (pe_callB hc hg hm hv ha hn hdb he hpl) (cB_read hf)
theorem ce_callTy (hc : CallR X (.type T) r) (hf : BinC X.K X.mg r f) (hg : Gl X x) (hm : X.mg x = none) (hv : bootBuiltins x = some (.type T)) (ha : CA X (e :: es) ms) (hn : x ≠ "__name__" := by decide) (hdb : (x == ("__debug__" : Str)) = false := by decide)
    (he : starEach (e :: es) X.env = (false, eval e X.env) :: starEach es X.env := by rfl) (hpl : (backTo pos (starEach es X.env)).any (·.1) = false := by rfl) : CE X (.Call (.Name x p) (e :: es) [] pos) (cB f ms) :=
  pe_imp (pe_callTy hc hg hm hv ha hn hdb he hpl) (cB_read hf)
end
def fLen : List R → M R
  | [x] => match x.seq with
    | some xs => pure (.v (.int (xs.length : Nat)))
    | none => bad
  | _ => bad
def fLenS : List R → M R
  | [.v (.str z)] => if z.length ≤ sizeLine then pure (.v (.int (z.length : Nat))) else bad
  | _ => bad
def R.kind : R → Option String
  | .v .non => some "NoneType"
  | .v (.bl _) => some "bool"
  | .v (.int _) => some "int"
  | .v (.str _) => some "str"
  | .v (.tup _) => some "tuple"
  | .v (.lst _) => some "list"
  | .fr _ => some "list"
  | .vw _ => some "list"
  | .mv _ => some "list"
  | _ => none
def fIsi : List R → M R
  | [x, .v (.ty n)] => match x.kind with
    | some t => if n ∈ ["int", "bool", "tuple", "list", "str"] then pure (.v (.bl (isiB t n))) else bad
    | none => bad
  | _ => bad
def f2I (g : Int → Int → Int) : List R → M R
  | [.v (.int i), .v (.int j)] => pure (.v (.int (g i j)))
  | _ => bad
def fAbs : List R → M R
  | [.v (.int i)] => pure (.v (.int (if i < 0 then -i else i)))
  | _ => bad
def bls : List D → Option (List Bool)
  | [] => some []
  | .bl b :: r => (bls r).map (b :: ·)
  | _ => none
def fAny : List R → M R
  | [x] => match x.lis.bind bls with
    | some bs => pure (.v (.bl (bs.any id)))
    | none => bad
  | _ => bad
def fAll : List R → M R
  | [x] => match x.lis.bind bls with
    | some bs => pure (.v (.bl (bs.all id)))
    | none => bad
  | _ => bad
def fInt : List R → M R
  | [.v (.int i)] => pure (.v (.int i))
  | [.v (.bl b)] => pure (.v (.int (if b then 1 else 0)))
  | _ => bad
def fList : List R → M R
  | [x] => match x.seq with
    | some xs => pure (.fr xs)
    | none => bad
  | _ => bad
def fTuple : List R → M R
  | [x] => match x.seq with
    | some xs => pure (.v (.tup xs))
    | none => bad
  | _ => bad
section
variable {K : PySem.W.Frag} {mg : Str → Option Value}
theorem reps1 {O : Ow} {H : Hp} {r : R} {vs : List V} (h : RepRs K mg O H [r] vs) : ∃ v, vs = [v] ∧ RepR K mg O H r v := by
  obtain ⟨v, r', rfl, a, b⟩ := h; cases b; exact ⟨v, rfl, a⟩
theorem reps2 {O : Ow} {H : Hp} {r s : R} {vs : List V} (h : RepRs K mg O H [r, s] vs) : ∃ v u, vs = [v, u] ∧ RepR K mg O H r v ∧ RepR K mg O H s u := by
  obtain ⟨v, r', rfl, a, b⟩ := h
  obtain ⟨u, r'', rfl, c, d⟩ := b
  cases d; exact ⟨v, u, rfl, a, c⟩
theorem kLen : BinC K mg (fun xs H Q => ∃ p ys, xs = [.ref p] ∧ (SqL K H p ys ∨ SqT K H p ys) ∧ Q (.int ys.length) H) fLen := fun O σ S σV H vs rs r' S' Q st hr h q => by
  unfold fLen at h
  split at h
  · rename_i x
    obtain ⟨v, rfl, hx⟩ := reps1 hr
    split at h
    · rename_i xs e
      cases h
      obtain ⟨a, ys, rfl, l, ra⟩ := R.seq_rep hx e
      exact ⟨a, ys, rfl, l, by rw [ra.len]; exact q O _ H (Go.refl _ _) st rfl trivial⟩
    · cases h
  · cases h
theorem kLenS : BinC K mg (fun xs H Q => ∃ z, xs = [.str z] ∧ z.length ≤ sizeLine ∧ Q (.int z.length) H) fLenS := fun O σ S σV H vs rs r' S' Q st hr h q => by
  unfold fLenS at h
  split at h
  · rename_i z
    obtain ⟨v, rfl, hx⟩ := reps1 hr
    cases (show v = .str z from hx)
    by_cases hz : z.length ≤ sizeLine
    · rw [if_pos hz] at h
      cases h
      exact ⟨z, rfl, hz, q O _ H (Go.refl _ _) st rfl trivial⟩
    · rw [if_neg hz] at h; cases h
  · cases h
theorem R.kind_rep {O : Ow} {H : Hp} {r : R} {v : V} {t : String} (h : RepR K mg O H r v) (e : r.kind = some t) : TyW K H v t := by
  unfold R.kind at e
  split at e
  · cases e; cases h; exact .non
  · cases e; cases h; exact .bl _
  · cases e; cases h; exact .int _
  · cases e; cases h; exact .str _
  · cases e; obtain ⟨a, ys, rfl, l, _⟩ := h; exact .tup l
  · cases e; obtain ⟨a, ys, rfl, l, _⟩ := h; exact .lst l.sq
  · cases e; obtain ⟨a, ys, rfl, l, _⟩ := h; exact .lst (SqL.of l)
  · cases e; obtain ⟨a, ys, rfl, l, _⟩ := h; exact .lst l.sq
  · cases e; obtain ⟨a, ys, rfl, l, _⟩ := h; exact .lst (SqL.of l)
  · cases e
theorem kIsi : BinC K mg (rIsi K) fIsi := fun O σ S σV H vs rs r' S' Q st hr h q => by
  unfold fIsi at h
  split at h
  · rename_i x n
    obtain ⟨v, u, rfl, hx, hy⟩ := reps2 hr
    cases (show u = .ty n from hy)
    split at h
    · rename_i t e
      by_cases hn : n ∈ ["int", "bool", "tuple", "list", "str"]
      · rw [if_pos hn] at h
        cases h
        exact ⟨v, n, t, rfl, R.kind_rep hx e, hn, q O _ H (Go.refl _ _) st rfl trivial⟩
      · rw [if_neg hn] at h; cases h
    · cases h
  · cases h
theorem bls_rep {O : Ow} {H : Hp} : ∀ {ds : List D} {ys : List V} {bs : List Bool}, RepAll K mg O H ds ys → bls ds = some bs → ys = bs.map V.bl
  | [], ys, bs, h, e => by cases e; exact h
  | d :: ds, ys, bs, h, e => by
    cases d with
    | bl b =>
      have e : (bls ds).map (b :: ·) = some bs := e
      obtain ⟨cs, e1, rfl⟩ := Option.map_eq_some_iff.mp e
      obtain ⟨y, r, rfl, h1, h2⟩ := h
      rw [bls_rep h2 e1, show y = .bl b from h1]; rfl
    | _ => exact absurd (show (none : Option (List Bool)) = some bs from e) (by intro z; cases z)
theorem kAll : BinC K mg (fun xs H Q => ∃ (l : Addr) (bs : List Bool), xs = [.ref l] ∧ SqL K H l (bs.map V.bl) ∧ Q (.bl (bs.all id)) H) fAll := fun O σ S σV H vs rs r' S' Q st hr h q => by
  unfold fAll at h
  split at h
  · rename_i x
    obtain ⟨v, rfl, hx⟩ := reps1 hr
    split at h
    · rename_i xs e
      cases h
      obtain ⟨zs, e1, e2⟩ := Option.bind_eq_some_iff.mp e
      obtain ⟨a, ys, rfl, l, ra⟩ := R.lis_rep hx e1
      rw [bls_rep ra e2] at l
      exact ⟨a, xs, rfl, l, q O _ H (Go.refl _ _) st rfl trivial⟩
    · cases h
  · cases h
end
end L3

set_option Elab.async false
set_option linter.all false
set_option maxRecDepth 100000
set_option maxHeartbeats 1000000
namespace L3
open PySem PySem.Spec L2
variable [L2.TabP]
/-! ### slices -/
def cutD {α : Type} (xs : List α) (lo hi : Option Int) : List α := (xs.drop (HT.sIx xs.length 0 lo)).take (HT.sIx xs.length xs.length hi - HT.sIx xs.length 0 lo)
theorem RepAll.cut {K : PySem.W.Frag} {mg : Str → Option Value} {O : Ow} {H : Hp} {ds : List D} {xs : List V} (h : RepAll K mg O H ds xs) (lo hi : Option Int) : RepAll K mg O H (cutD ds lo hi) (cutV xs lo hi) := by
  unfold cutD cutV
  rw [h.len]
  exact (h.drop _).take _
abbrev MO := En → M (Option Int)
def toOf (K : PySem.W.Frag) (mg : Str → Option Value) (m : MO) : TO := fun σV H Q => ∃ O σ S b S', S3 K mg O σ S σV H ∧ (m σ).run S = .ok b S' ∧ ∀ O' H', Go O O' H H' → S3 K mg O' σ S' σV H' → Q b H'
abbrev CO (X : Cx) (e : Option Expr) (m : MO) : Prop := PO X e (toOf X.K X.mg m)
def cNoPart : MO := fun _ => pure none
def cPart (m : ME) : MO := fun σ => do
  let r ← m σ
  match r with
  | .v (.int i) => pure (some i)
  | _ => bad
def oSl (x : R) (lo hi : Option Int) : M R :=
  match x with
  | .v (.tup xs) => if HT.sIx xs.length 0 lo = 0 ∧ HT.sIx xs.length xs.length hi = xs.length then bad else pure (.v (.tup (cutD xs lo hi)))
  | _ => match x.lis with
    | some xs => pure (.fr (cutD xs lo hi))
    | none => bad
def cSl (a : ME) (lo hi : MO) : ME := fun σ => do
  let x ← a σ
  let l ← lo σ
  let h ← hi σ
  oSl x l h
section
variable {X : Cx} {e : Expr} {m : ME} {lo hi : Option Expr} {ml mh : MO} {pos p2 : Pos}
theorem co_none : CO X none cNoPart := fun pins s σV H Q I ⟨O, σ, S, r, S', st, h, q⟩ => by
  cases h
  exact po_none pins s σV H Q I (q O H (Go.refl _ _) st)
theorem co_some (he : CE X e m) : CO X (some e) (cPart m) := fun pins s σV H Q I ⟨O, σ, S, r, S', st, h, q⟩ => by
  obtain ⟨x, S1, h1, h⟩ := M.inv h
  split at h
  · rename_i i
    cases h
    exact po_some he pins s σV H Q I ⟨O, σ, S, _, _, st, h1, fun O1 v H1 g1 st1 rr _ => ⟨i, rr, q O1 H1 g1 st1⟩⟩
  · cases h
theorem ce_slice (he : CE X e m) (hl : CO X lo ml) (hu : CO X hi mh) : CE X (.Subscript e (.Slice lo hi none p2) pos) (cSl m ml mh) := pe_imp (pe_slice (sl_list.or sl_tup) he hl hu) fun σV H Q ⟨O, σ, S, r, S', st, h, q⟩ => by
  obtain ⟨x, S1, h1, ha⟩ := M.inv h
  clear h
  obtain ⟨l, S2, h2, hb⟩ := M.inv ha
  clear ha
  obtain ⟨u, S3', h3, h⟩ := M.inv hb
  clear hb
  refine ⟨O, σ, S, x, S1, st, h1, fun O1 vx H1 g1 st1 rx nx => ?_⟩
  refine ⟨O1, σ, S1, l, S2, st1, h2, fun O2 H2 g2 st2 => ?_⟩
  refine ⟨O2, σ, S2, u, S3', st2, h3, fun O3 H3 g3 st3 => ?_⟩
  have g := (g1.trans g2).trans g3
  have rx3 := rx.go (g2.trans g3)
  unfold oSl at h
  split at h
  · rename_i xs
    by_cases c : HT.sIx xs.length 0 l = 0 ∧ HT.sIx xs.length xs.length u = xs.length
    · rw [if_pos c] at h; cases h
    · rw [if_neg c] at h
      cases h
      obtain ⟨a, ys, rfl, l1, ra⟩ := rx3
      exact .inr ⟨a, ys, rfl, l1, by rw [ra.len]; exact c, fun p hp => q O3 _ _ (g.trans (Go.new0 hp)) (st3.new0 hp) ⟨p, _, rfl, SqT.of upd_same, (ra.cut l u).go (Go.new0 hp)⟩ trivial⟩
  · split at h
    · rename_i xs e1
      cases h
      obtain ⟨a, ys, rfl, l1, ra⟩ := R.lis_rep rx3 e1
      refine .inl ⟨a, ys, rfl, l1, fun p hp => q (updO O3 p .tmp) _ _ (g.trans (Go.new hp)) (st3.new hp) ⟨p, _, rfl, upd_same, updO_same, (ra.cut l u).go (Go.new hp)⟩ fun b eb => ?_⟩
      cases eb
      exact g.same.free hp
    · cases h
end
/-! ### + of lists, tuples, texts -/
def R.own : R → Option (List D)
  | .v (.lst xs) => some xs
  | .fr xs => some xs
  | .mv xs => some xs
  | _ => none
def oCatL (x y : R) : M R := match x.own, y.own with
  | some xs, some ys => if xs.length + ys.length ≤ sizeLine then pure (.fr (xs ++ ys)) else bad
  | _, _ => bad
def oCatT : R → R → M R
  | .v (.tup xs), .v (.tup ys) => if xs.length + ys.length ≤ sizeLine then pure (.v (.tup (xs ++ ys))) else bad
  | _, _ => bad
def oCatS : R → R → M R
  | .v (.str x), .v (.str y) => if x.length + y.length ≤ sizeLine then pure (.v (.str (x ++ y))) else bad
  | _, _ => bad
theorem R.own_rep {K : PySem.W.Frag} {mg : Str → Option Value} {O : Ow} {H : Hp} {r : R} {v : V} {xs : List D} (h : RepR K mg O H r v) (e : r.own = some xs) : ∃ a ys, v = .ref a ∧ H a = some (.lst ys) ∧ RepAll K mg O H xs ys := by
  unfold R.own at e
  split at e
  · cases e; obtain ⟨a, ys, q, l, r⟩ := h; exact ⟨a, ys, q, l.1, r⟩
  · cases e; obtain ⟨a, ys, q, l, _, r⟩ := h; exact ⟨a, ys, q, l, r⟩
  · cases e; obtain ⟨a, ys, q, l, r⟩ := h; exact ⟨a, ys, q, l, r⟩
  · cases e
section
variable {K : PySem.W.Frag} {mg : Str → Option Value}
theorem bCatL : Bin K mg rCat oCatL := fun O σ S σV H x y rx ry r' S' Q st hx hy h q => by
  unfold oCatL at h
  cases e1 : rx.own with
  | none => rw [e1] at h; cases h
  | some xs =>
    cases e2 : ry.own with
    | none => rw [e1, e2] at h; cases h
    | some ys =>
      rw [e1, e2] at h
      dsimp only at h
      by_cases hl : xs.length + ys.length ≤ sizeLine
      · rw [if_pos hl] at h
        cases h
        obtain ⟨a, us, rfl, l1, r1⟩ := R.own_rep hx e1
        obtain ⟨b, ws, rfl, l2, r2⟩ := R.own_rep hy e2
        refine ⟨a, b, us, ws, rfl, rfl, l1, l2, by rw [r1.len, r2.len]; exact hl, fun p hp => q (updO O p .tmp) _ _ (Go.new hp) (st.new hp) ⟨p, _, rfl, upd_same, updO_same, (r1.append r2).go (Go.new hp)⟩ fun b eb => ?_⟩
        cases eb
        exact hp
      · rw [if_neg hl] at h; cases h
theorem bCatS : Bin K mg (fun x y H Q => ∃ i j, x = .str i ∧ y = .str j ∧ i.length + j.length ≤ sizeLine ∧ Q (.str (i ++ j)) H) oCatS := fun O σ S σV H x y rx ry r' S' Q st hx hy h q => by
  unfold oCatS at h
  split at h
  · rename_i i j
    by_cases hl : i.length + j.length ≤ sizeLine
    · rw [if_pos hl] at h
      cases h
      exact ⟨i, j, hx, hy, hl, q O _ H (Go.refl _ _) st rfl trivial⟩
    · rw [if_neg hl] at h; cases h
  · cases h
end
/-! ### == -/
def D.py : D → PyData
  | .non => .none
  | .bl b => .bool b
  | .int i => .int i
  | .str x => .str x
  | .tup xs => .tuple (pys xs)
  | .lst xs => .list (pys xs)
  | .dic _ _ => .none
  | .fn _ => .none
  | .ty _ => .none
where pys : List D → List PyData
  | [] => []
  | x :: xs => x.py :: pys xs
mutual
/-- what may be compared: no objects, at most n deep -/
def D.gd : D → Nat → Bool
  | .non, _ => true
  | .bl _, _ => true
  | .int _, _ => true
  | .str x, _ => PySem.PyData.strOk x
  | .tup xs, n => match n with
    | 0 => false
    | k + 1 => gdAll xs k
  | .lst xs, n => match n with
    | 0 => false
    | k + 1 => gdAll xs k
  | .dic _ _, _ => false
  | .fn _, _ => false
  | .ty _, _ => false
def gdAll : List D → Nat → Bool
  | [], _ => true
  | x :: xs, n => x.gd n && gdAll xs n
end
mutual
def peq : D → D → Bool
  | .non, b => match b with | .non => true | _ => false
  | .bl a, b => match b with | .bl c => a == c | .int j => (if a then 1 else 0) == j | _ => false
  | .int i, b => match b with | .bl c => i == (if c then 1 else 0) | .int j => i == j | _ => false
  | .str x, b => match b with | .str y => x == y | _ => false
  | .tup xs, b => match b with | .tup ys => peqAll xs ys | _ => false
  | .lst xs, b => match b with | .lst ys => peqAll xs ys | _ => false
  | .dic _ _, _ => false
  | .fn _, _ => false
  | .ty _, _ => false
def peqAll : List D → List D → Bool
  | [], ys => match ys with | [] => true | _ => false
  | x :: xs, ys => match ys with | [] => false | y :: r => peq x y && peqAll xs r
end
mutual
theorem eqv_py : ∀ (a b : D) (n m : Nat), a.gd n = true → b.gd m = true → PyData.eqv a.py b.py = peq a b
  | .non, b, n, m, ha, hb => by cases b <;> first | rfl | (simp [D.gd] at hb)
  | .bl _, b, n, m, ha, hb => by cases b <;> first | rfl | (simp [D.gd] at hb)
  | .int _, b, n, m, ha, hb => by cases b <;> first | rfl | (simp [D.gd] at hb)
  | .str _, b, n, m, ha, hb => by cases b <;> first | rfl | (simp [D.gd] at hb)
  | .tup xs, b, n, m, ha, hb => by
    cases b with
    | tup ys =>
      cases n with
      | zero => simp [D.gd] at ha
      | succ k =>
        cases m with
        | zero => simp [D.gd] at hb
        | succ j => exact eqv_pys xs ys k j ha hb
    | dic _ _ => simp [D.gd] at hb
    | fn _ => simp [D.gd] at hb
    | ty _ => simp [D.gd] at hb
    | _ => rfl
  | .lst xs, b, n, m, ha, hb => by
    cases b with
    | lst ys =>
      cases n with
      | zero => simp [D.gd] at ha
      | succ k =>
        cases m with
        | zero => simp [D.gd] at hb
        | succ j => exact eqv_pys xs ys k j ha hb
    | dic _ _ => simp [D.gd] at hb
    | fn _ => simp [D.gd] at hb
    | ty _ => simp [D.gd] at hb
    | _ => rfl
  | .dic _ _, b, n, m, ha, hb => by simp [D.gd] at ha
  | .fn _, b, n, m, ha, hb => by simp [D.gd] at ha
  | .ty _, b, n, m, ha, hb => by simp [D.gd] at ha
theorem eqv_pys : ∀ (xs ys : List D) (n m : Nat), gdAll xs n = true → gdAll ys m = true → PyData.eqvAll (D.py.pys xs) (D.py.pys ys) = peqAll xs ys
  | [], ys, n, m, ha, hb => by cases ys <;> rfl
  | x :: xs, ys, n, m, ha, hb => by
    cases ys with
    | nil => rfl
    | cons y r =>
      rw [gdAll, Bool.and_eq_true] at ha hb
      show (PyData.eqv x.py y.py && PyData.eqvAll (D.py.pys xs) (D.py.pys r)) = (peq x y && peqAll xs r)
      rw [eqv_py x y n m ha.1 hb.1, eqv_pys xs r n m ha.2 hb.2]
end
mutual
theorem gd_lay : ∀ (a : D) (n : Nat), a.gd n = true → a.py.canLay0 = true ∧ a.py.depth ≤ n
  | .non, n, h => ⟨rfl, Nat.zero_le _⟩
  | .bl _, n, h => ⟨rfl, Nat.zero_le _⟩
  | .int _, n, h => ⟨rfl, Nat.zero_le _⟩
  | .str _, n, h => ⟨h, Nat.zero_le _⟩
  | .tup xs, n, h => by
    cases n with
    | zero => simp [D.gd] at h
    | succ k => obtain ⟨q1, q2⟩ := gd_lays xs k h; exact ⟨q1, Nat.succ_le_succ q2⟩
  | .lst xs, n, h => by
    cases n with
    | zero => simp [D.gd] at h
    | succ k => obtain ⟨q1, q2⟩ := gd_lays xs k h; exact ⟨q1, Nat.succ_le_succ q2⟩
  | .dic _ _, n, h => by simp [D.gd] at h
  | .fn _, n, h => by simp [D.gd] at h
  | .ty _, n, h => by simp [D.gd] at h
theorem gd_lays : ∀ (xs : List D) (n : Nat), gdAll xs n = true → PyData.canLayAll0 (D.py.pys xs) = true ∧ PyData.depthAll (D.py.pys xs) ≤ n
  | [], n, h => ⟨rfl, Nat.zero_le _⟩
  | x :: xs, n, h => by
    rw [gdAll, Bool.and_eq_true] at h
    obtain ⟨a1, a2⟩ := gd_lay x n h.1
    obtain ⟨b1, b2⟩ := gd_lays xs n h.2
    exact ⟨by show (x.py.canLay0 && PyData.canLayAll0 (D.py.pys xs)) = true; rw [a1, b1]; rfl, by show max x.py.depth (PyData.depthAll (D.py.pys xs)) ≤ n; omega⟩
end
theorem gd_shaped {a : D} (h : a.gd 64 = true) : SeqAt.shaped a.py = true := by
  obtain ⟨h1, h2⟩ := gd_lay a 64 h
  show (a.py.canLay0 && decide (a.py.depth ≤ 64)) = true
  rw [h1, decide_eq_true h2]; rfl
mutual
theorem Rep.py {K : PySem.W.Frag} {mg : Str → Option Value} {O : Ow} {H : Hp} : ∀ {d : D} {v : V} {n : Nat}, d.gd n = true → Rep K mg O H d v → L2.Rep K H d.py v
  | .non, _, _, _, h => h
  | .bl _, _, _, _, h => h
  | .int _, _, _, _, h => h
  | .str _, _, _, _, h => h
  | .tup _, _, n, g, h => by
    cases n with
    | zero => simp [D.gd] at g
    | succ k => obtain ⟨a, ys, q, l, r⟩ := h; exact ⟨a, ys, q, l, RepAll.py (n := k) g r⟩
  | .lst _, _, n, g, h => by
    cases n with
    | zero => simp [D.gd] at g
    | succ k => obtain ⟨a, ys, q, l, r⟩ := h; exact ⟨a, ys, q, l.sq, RepAll.py (n := k) g r⟩
  | .dic _ _, _, _, g, h => by simp [D.gd] at g
  | .fn _, _, _, g, h => by simp [D.gd] at g
  | .ty _, _, _, g, h => by simp [D.gd] at g
theorem RepAll.py {K : PySem.W.Frag} {mg : Str → Option Value} {O : Ow} {H : Hp} : ∀ {ds : List D} {ys : List V} {n : Nat}, gdAll ds n = true → RepAll K mg O H ds ys → L2.RepAll K H (D.py.pys ds) ys
  | [], _, _, _, h => h
  | _ :: _, _, n, g, h => by
    rw [gdAll, Bool.and_eq_true] at g
    obtain ⟨x, r, q, a, b⟩ := h
    exact ⟨x, r, q, Rep.py g.1 a, RepAll.py g.2 b⟩
end
/-- as a datum that is looked at only -/
def R.arg : R → D
  | .v d => d
  | .fr xs => .lst xs
  | .vw xs => .lst xs
  | .mv xs => .lst xs
  | .dv kvs => .dic (kvs.map (·.1)) (kvs.map (·.2))
theorem R.arg_py {K : PySem.W.Frag} {mg : Str → Option Value} {O : Ow} {H : Hp} {r : R} {v : V} {n : Nat} (g : r.arg.gd n = true) (h : RepR K mg O H r v) : L2.Rep K H r.arg.py v := by
  have lis : ∀ xs, r.lis = some xs → (D.lst xs).gd n = true → L2.Rep K H (D.lst xs).py v := fun xs e g => by
    obtain ⟨a, ys, q, l, ra⟩ := R.lis_rep h e
    cases n with
    | zero => simp [D.gd] at g
    | succ k => exact ⟨a, ys, q, l, RepAll.py (n := k) g ra⟩
  cases r with
  | v d => exact Rep.py g h
  | fr xs => exact lis xs rfl g
  | vw xs => exact lis xs rfl g
  | mv xs => exact lis xs rfl g
  | dv kvs => simp [R.arg, D.gd] at g
def oEq (x y : R) : M R := if x.arg.gd 64 = true ∧ y.arg.gd 64 = true then pure (.v (.bl (peq x.arg y.arg))) else bad
def oNe (x y : R) : M R := if x.arg.gd 64 = true ∧ y.arg.gd 64 = true then pure (.v (.bl (!peq x.arg y.arg))) else bad
section
variable {K : PySem.W.Frag} {mg : Str → Option Value}
theorem bEq : Bin K mg (rEqD K false) oEq := fun O σ S σV H x y rx ry r' S' Q st hx hy h q => by
  unfold oEq at h
  by_cases c : rx.arg.gd 64 = true ∧ ry.arg.gd 64 = true
  · rw [if_pos c] at h
    cases h
    refine ⟨_, _, R.arg_py c.1 hx, R.arg_py c.2 hy, gd_shaped c.1, gd_shaped c.2, ?_⟩
    rw [if_neg Bool.false_ne_true, eqv_py _ _ _ _ c.1 c.2]
    exact q O _ H (Go.refl _ _) st rfl trivial
  · rw [if_neg c] at h; cases h
theorem bNe : Bin K mg (rEqD K true) oNe := fun O σ S σV H x y rx ry r' S' Q st hx hy h q => by
  unfold oNe at h
  by_cases c : rx.arg.gd 64 = true ∧ ry.arg.gd 64 = true
  · rw [if_pos c] at h
    cases h
    refine ⟨_, _, R.arg_py c.1 hx, R.arg_py c.2 hy, gd_shaped c.1, gd_shaped c.2, ?_⟩
    rw [if_pos rfl, eqv_py _ _ _ _ c.1 c.2]
    exact q O _ H (Go.refl _ _) st rfl trivial
  · rw [if_neg c] at h; cases h
end
/-! ### is None, is True, in -/
def R.isN : R → Bool
  | .v .non => true
  | _ => false
def oIsN (x : R) : R → M R
  | .v .non => pure (.v (.bl x.isN))
  | _ => bad
def oNotN (x : R) : R → M R
  | .v .non => pure (.v (.bl (!x.isN)))
  | _ => bad
def oIsB : R → R → M R
  | .v (.bl a), .v (.bl b) => pure (.v (.bl (decide (a = b))))
  | _, _ => bad
def oNotB : R → R → M R
  | .v (.bl a), .v (.bl b) => pure (.v (.bl (!decide (a = b))))
  | _, _ => bad
section
variable {K : PySem.W.Frag} {mg : Str → Option Value}
theorem isN_rep {O : Ow} {H : Hp} {r : R} {v : V} (h : RepR K mg O H r v) : decide (v = .non) = r.isN := by
  have no : ∀ {a : Addr}, v = .ref a → decide (v = .non) = false := fun {a} e => by rw [e]; exact decide_eq_false (by intro z; cases z)
  cases r with
  | v d =>
    cases d with
    | non => exact decide_eq_true h
    | bl _ => rw [show v = _ from h]; rfl
    | int _ => rw [show v = _ from h]; rfl
    | str _ => rw [show v = _ from h]; rfl
    | ty _ => rw [show v = _ from h]; rfl
    | tup _ => obtain ⟨a, _, e, _⟩ := h; exact no e
    | lst _ => obtain ⟨a, _, e, _⟩ := h; exact no e
    | dic _ _ => exact False.elim h
    | fn _ => obtain ⟨a, e, _⟩ := h; exact no e
  | fr _ => obtain ⟨a, _, e, _⟩ := h; exact no e
  | vw _ => obtain ⟨a, _, e, _⟩ := h; exact no e
  | mv _ => obtain ⟨a, _, e, _⟩ := h; exact no e
  | dv _ => obtain ⟨a, _, e, _⟩ := h; exact no e
theorem bIsN : Bin K mg (fun x y H Q => y = .non ∧ Q (.bl (decide (x = .non))) H) oIsN := fun O σ S σV H x y rx ry r' S' Q st hx hy h q => by
  unfold oIsN at h
  split at h
  · cases h; exact ⟨hy, by rw [isN_rep hx]; exact q O _ H (Go.refl _ _) st rfl trivial⟩
  · cases h
end
section
variable {K : PySem.W.Frag} {mg : Str → Option Value}
end
end L3

set_option Elab.async false
set_option linter.all false
set_option maxRecDepth 100000
set_option maxHeartbeats 1000000
namespace L3
open PySem PySem.Spec L2
variable [L2.TabP]
/-! ### statements -/
inductive Fl where
  | nx (σ : En) | rt (r : R) | bk (σ : En) | ct (σ : En)
abbrev MS := En → M Fl
/-- what never changes -/
def Fix (o : HO) : Prop := (∃ xs, o = .tup xs) ∨ ∃ ob u, o = .frz ob u
/-- a statement's way: what is free or of others stands as it stood -/
structure Gs (O O' : Ow) (H H' : Hp) : Prop where
  cells : ∀ b o, H b = some o → (O b = .free ∨ O b = .out ∨ Fix o) → (h : nT o := by exact trivial) → H' b = some o
  own : ∀ b, H b ≠ none → (O b = .free ∨ O b = .out) → O' b = O b
  has : ∀ b, H b ≠ none → H' b ≠ none
  tb : ∀ b ps, H b = some (.tbl ps) → ∃ ps', H' b = some (.tbl ps')
  gd : TabsOk H → TabsOk H'
theorem Go.gs {O O' : Ow} {H H' : Hp} (g : Go O O' H H') : Gs O O' H H' := ⟨fun b o e _ n => g.same.at' b o e n, fun b h _ => g.own b h, fun _ h => g.same.some h, g.same.tb, g.same.gd⟩
theorem Gs.refl (O : Ow) (H : Hp) : Gs O O H H := (Go.refl O H).gs
theorem Gs.trans {O O1 O2 : Ow} {H H1 H2 : Hp} (a : Gs O O1 H H1) (b : Gs O1 O2 H1 H2) : Gs O O2 H H2 := by
  have some' : ∀ {b : Addr} {o : HO}, H b = some o → H b ≠ none := fun e z => by rw [e] at z; cases z
  refine ⟨fun c o e h n => ?_, fun c h f => ?_, fun c h => b.has c (a.has c h), fun c ps h => let ⟨p1, e1⟩ := a.tb c ps h; b.tb c p1 e1, fun g => b.gd (a.gd g)⟩
  · have e1 := a.cells c o e h n
    rcases h with h | h | h
    · exact b.cells c o e1 (.inl ((a.own c (some' e) (.inl h)).trans h)) n
    · exact b.cells c o e1 (.inr (.inl ((a.own c (some' e) (.inr h)).trans h))) n
    · exact b.cells c o e1 (.inr (.inr h)) n
  · have e1 := a.own c h f
    rw [b.own c (a.has c h) (by rw [e1]; exact f), e1]
/-- what is looked at only stays -/
def Kp (σ σ' : En) (σV σV' : St) : Prop := (∀ (i : Nat) (xs : List D), σ'[i]? = some (Slot.vw xs) → σ[i]? = some (Slot.vw xs) ∧ σV'[i]? = σV[i]?) ∧
  (∀ (i : Nat) (ys : List D), σ'[i]? = some (Slot.ow true ys) → (∃ xs, σ[i]? = some (Slot.ow true xs)) ∧ σV'[i]? = σV[i]?) ∧
  ∀ (i : Nat) (m : TM) (t : Tr), σ'[i]? = some (Slot.tr m t) → m ≠ .own → (∃ t0, σ[i]? = some (Slot.tr m t0) ∧ (m = .view → t0 = t)) ∧ σV'[i]? = σV[i]?
theorem Kp.refl (σ : En) (σV : St) : Kp σ σ σV σV := ⟨fun _ _ h => ⟨h, rfl⟩, fun _ _ h => ⟨⟨_, h⟩, rfl⟩, fun _ _ _ h _ => ⟨⟨_, h, fun _ => rfl⟩, rfl⟩⟩
theorem Kp.trans {σ σ1 σ2 : En} {v v1 v2 : St} (a : Kp σ σ1 v v1) (b : Kp σ1 σ2 v1 v2) : Kp σ σ2 v v2 := ⟨fun i xs h => ⟨(a.1 i xs (b.1 i xs h).1).1, (b.1 i xs h).2.trans (a.1 i xs (b.1 i xs h).1).2⟩, fun i ys h => by
  obtain ⟨⟨xs, e⟩, q⟩ := b.2.1 i ys h
  obtain ⟨z, q'⟩ := a.2.1 i xs e
  exact ⟨z, q.trans q'⟩, fun i m t h hm => by
  obtain ⟨⟨t1, e, f⟩, q⟩ := b.2.2 i m t h hm
  obtain ⟨⟨t0, e', f'⟩, q'⟩ := a.2.2 i m t1 e hm
  exact ⟨⟨t0, e', fun z => (f' z).trans (f z)⟩, q.trans q'⟩⟩
def RetR (K : PySem.W.Frag) (mg : Str → Option Value) (O : Ow) (H : Hp) : R → V → Prop
  | .v d, v => Rep K mg O H d v
  | .fr xs, v => ∃ a ys, v = .ref a ∧ H a = some (.lst ys) ∧ (O a = .tmp ∨ ∃ i, O a = .loc i) ∧ RepAll K mg O H xs ys
  | _, _ => False
def PoN (K : PySem.W.Frag) (mg : Str → Option Value) (O : Ow) (σ : En) (S' : Store) (σV : St) (H : Hp) (σ' : En) (N : St → Hp → Prop) : Prop :=
  ∀ O' σV' H', Gs O O' H H' → S3 K mg O' σ' S' σV' H' → Kp σ σ' σV σV' → N σV' H'
def PoS (K : PySem.W.Frag) (mg : Str → Option Value) (O : Ow) (σ : En) (S' : Store) (σV : St) (H : Hp) (fl : Fl) (Dn : Ends) : Prop := match fl with
  | .nx σ' => PoN K mg O σ S' σV H σ' Dn.nx
  | .bk σ' => PoN K mg O σ S' σV H σ' Dn.bk
  | .ct σ' => PoN K mg O σ S' σV H σ' Dn.ct
  | .rt r => ∀ O' v H', Gs O O' H H' → Dom O' H' → S' = [] → RetR K mg O' H' r v → Dn.rt v H'
theorem PoN.gs {K : PySem.W.Frag} {mg : Str → Option Value} {O O1 : Ow} {σ σ1 σ' : En} {S' : Store} {σV σV1 : St} {H H1 : Hp} {N : St → Hp → Prop} (h : PoN K mg O σ S' σV H σ' N) (g : Gs O O1 H H1) (k : Kp σ σ1 σV σV1) : PoN K mg O1 σ1 S' σV1 H1 σ' N :=
  fun O' σV' H' g' st k' => h O' σV' H' (g.trans g') st (k.trans k')
theorem PoS.gs {K : PySem.W.Frag} {mg : Str → Option Value} {O O1 : Ow} {σ σ1 : En} {S' : Store} {σV σV1 : St} {H H1 : Hp} {fl : Fl} {Dn : Ends} (h : PoS K mg O σ S' σV H fl Dn) (g : Gs O O1 H H1) (k : Kp σ σ1 σV σV1) : PoS K mg O1 σ1 S' σV1 H1 fl Dn := by
  cases fl with
  | nx σ' => exact PoN.gs h g k
  | bk σ' => exact PoN.gs h g k
  | ct σ' => exact PoN.gs h g k
  | rt r => exact fun O' v H' g' d e r => h O' v H' (g.trans g') d e r
def tsOf (K : PySem.W.Frag) (mg : Str → Option Value) (m : MS) : TS := fun Dn σV H => ∃ O σ S fl S', S3 K mg O σ S σV H ∧ (m σ).run S = .ok fl S' ∧ PoS K mg O σ S' σV H fl Dn
abbrev CS (X : Cx) (st : Stmt) (m : MS) : Prop := PS X st (tsOf X.K X.mg m)
abbrev CSs (X : Cx) (sts : List Stmt) (m : MS) : Prop := PSs X sts (tsOf X.K X.mg m)
theorem ps_imp {X : Cx} {s : Stmt} {t t' : TS} (h : PS X s t) (i : ∀ D σ H, t' D σ H → t D σ H) : PS X s t' := fun pins s σ H D I q => h pins s σ H D I (i _ _ _ q)
theorem pss_imp {X : Cx} {s : List Stmt} {t t' : TS} (h : PSs X s t) (i : ∀ D σ H, t' D σ H → t D σ H) : PSs X s t' := fun pins s σ H D I q => h pins s σ H D I (i _ _ _ q)
def cPass : MS := fun σ => pure (.nx σ)
def cBrk : MS := fun σ => pure (.bk σ)
def cCnt : MS := fun σ => pure (.ct σ)
def cRetN : MS := fun _ => pure (.rt (.v .non))
def cSeq (a b : MS) : MS := fun σ => do
  let fl ← a σ
  match fl with
  | .nx σ' => b σ'
  | fl => pure fl
def cRet (m : ME) : MS := fun σ => do
  let r ← m σ
  match r with
  | .v d => pure (.rt (.v d))
  | .fr xs => pure (.rt (.fr xs))
  | _ => bad
/-- return of an own list -/
def cRetO (i : Nat) : MS := fun σ => match σ[i]? with
  | some (.ow false xs) => pure (.rt (.fr xs))
  | _ => bad
def cIfS (t : En → M Bool) (a b : MS) : MS := fun σ => do
  let t ← t σ
  if t = true then a σ else b σ
def cDrop (m : ME) : MS := fun σ => do
  let _ ← m σ
  pure (.nx σ)
/-- x = e -/
def cSet (i : Nat) (m : ME) : MS := fun σ => do
  let r ← m σ
  let d ← r.dat
  pure (.nx (σ.set i (.val d)))
/-- x = e, a new list that is x's own -/
def cOwn (i : Nat) (m : ME) : MS := fun σ => do
  let r ← m σ
  match r with
  | .fr xs => pure (.nx (σ.set i (.ow false xs)))
  | _ => bad
section
variable {X : Cx} {st : Stmt} {rest : List Stmt} {pos : Pos} {a b : MS} {e : Expr} {m : ME}
theorem cs_pass : CS X (.Pass pos) cPass := ps_imp ps_pass fun D σV H ⟨O, σ, S, fl, S', st, h, q⟩ => by cases h; exact q O σV H (Gs.refl _ _) st (Kp.refl _ _)
theorem css_nil : CSs X [] cPass := pss_imp pss_nil fun D σV H ⟨O, σ, S, fl, S', st, h, q⟩ => by cases h; exact q O σV H (Gs.refl _ _) st (Kp.refl _ _)
theorem css_one (h : CS X st a) : CSs X [st] a := pss_one h
theorem css_cons (h1 : CS X st a) (h2 : CSs X rest b) : CSs X (st :: rest) (cSeq a b) := pss_imp (pss_cons h1 h2) fun D σV H ⟨O, σ, S, fl, S', st, h, q⟩ => by
  obtain ⟨f1, S1, h1, h⟩ := M.inv h
  refine ⟨O, σ, S, f1, S1, st, h1, ?_⟩
  cases f1 with
  | nx σ1 => exact fun O1 σV1 H1 g1 st1 k1 => ⟨O1, σ1, S1, fl, S', st1, h, q.gs g1 k1⟩
  | rt r => cases h; exact q
  | bk σ1 => cases h; exact q
  | ct σ1 => cases h; exact q
theorem ret_of {K : PySem.W.Frag} {mg : Str → Option Value} {O : Ow} {H : Hp} {r : R} {v : V} (h : RepR K mg O H r v) (hr : (∃ d, r = .v d) ∨ ∃ xs, r = .fr xs) : RetR K mg O H r v := by
  rcases hr with ⟨d, rfl⟩ | ⟨xs, rfl⟩
  · exact h
  · obtain ⟨a, ys, q, l, t, ra⟩ := h; exact ⟨a, ys, q, l, .inl t, ra⟩
theorem cs_ret (he : CE X e m) : CS X (.Return (some e) pos) (cRet m) := ps_imp (ps_ret he) fun D σV H ⟨O, σ, S, fl, S', st, h, q⟩ => by
  obtain ⟨r, S1, h1, h⟩ := M.inv h
  refine ⟨O, σ, S, r, S1, st, h1, fun O1 v H1 g1 st1 rr nn => ?_⟩
  cases r with
  | v d => cases h; exact q O1 v H1 g1.gs st1.dom st1.emp rr
  | fr xs => cases h; exact q O1 v H1 g1.gs st1.dom st1.emp (ret_of rr (.inr ⟨_, rfl⟩))
  | vw xs => cases h
  | mv xs => cases h
  | dv _ => cases h
theorem cs_if {c : Expr} {A B : List Stmt} {t : En → M Bool} (hc : CT X c t) (ha : CSs X A a) (hb : CSs X B b) : CS X (.If c A B pos) (cIfS t a b) := ps_imp (ps_if hc ha hb) fun D σV H ⟨O, σ, S, fl, S', st, h, q⟩ => by
  obtain ⟨t, S1, h1, h⟩ := M.inv h
  refine ⟨O, σ, S, t, S1, st, h1, fun O1 H1 g1 st1 => ?_⟩
  cases t with
  | false =>
    rw [if_neg Bool.false_ne_true] at h
    exact iteF ⟨O1, σ, S1, fl, S', st1, h, q.gs g1.gs (Kp.refl _ _)⟩
  | true =>
    rw [if_pos rfl] at h
    exact iteT ⟨O1, σ, S1, fl, S', st1, h, q.gs g1.gs (Kp.refl _ _)⟩
/-! storing -/
theorem S3.set {K : PySem.W.Frag} {mg : Str → Option Value} {O : Ow} {σ : En} {S : Store} {σV : St} {H : Hp} {i : Nat} {s : Slot} {v : V} (st : S3 K mg O σ S σV H) (h : SlotR K mg O H (.loc i) s (some v)) : S3 K mg O (σ.set i s) S (σV.set i (some v)) H := by
  refine ⟨st.dom, by rw [List.length_set, List.length_set]; exact st.len, fun j t e => ?_, st.emp⟩
  by_cases hj : i = j
  · subst hj
    have hl : i < σ.length := by
      have := (List.getElem?_eq_some_iff.mp e).1
      rwa [List.length_set] at this
    rw [List.getElem?_set_self hl] at e
    cases e
    rw [List.getElem?_set_self (by rw [← st.len]; exact hl)]
    exact h
  · rw [List.getElem?_set_ne hj] at e
    rw [List.getElem?_set_ne hj]
    exact st.loc j t e
theorem Kp.set {σ : En} {σV : St} {i : Nat} {s : Slot} {v : Option V} (hs : ∀ xs, s ≠ .vw xs) (ht : ∀ xs, s ≠ .ow true xs := by intro xs z; cases z) (hu : ∀ m t, s = .tr m t → m = .own := by intro m t z; cases z) : Kp σ (σ.set i s) σV (σV.set i v) := by
  have key : ∀ (j : Nat) (t : Slot), (σ.set i s)[j]? = some t → t ≠ s → σ[j]? = some t ∧ (σV.set i v)[j]? = σV[j]? := fun j t h hne => by
    by_cases hj : i = j
    · subst hj
      have hl : i < σ.length := by
        have := (List.getElem?_eq_some_iff.mp h).1
        rwa [List.length_set] at this
      rw [List.getElem?_set_self hl] at h
      exact absurd (Option.some.inj h).symm hne
    · rw [List.getElem?_set_ne hj] at h ⊢
      exact ⟨h, rfl⟩
  refine ⟨fun j xs h => key j _ h (fun z => hs xs z.symm), fun j ys h => ?_, fun j m t h hm => ?_⟩
  · obtain ⟨a, b⟩ := key j _ h (fun z => ht ys z.symm)
    exact ⟨⟨ys, a⟩, b⟩
  · obtain ⟨a, b⟩ := key j _ h (fun z => hm (hu m t z.symm))
    exact ⟨⟨t, a, fun _ => rfl⟩, b⟩
theorem set_read {K : PySem.W.Frag} {mg : Str → Option Value} {i : Nat} {te : TE} (hi : ∀ σ H Q, teOf K mg m σ H Q → te σ H Q) : ∀ D σV H, tsOf K mg (cSet i m) D σV H → tAsg te (gName i) D σV H := by
  rintro D σV H ⟨O, σ, S, fl, S', st, h, q⟩
  obtain ⟨r, S1, h1, h⟩ := M.inv h
  obtain ⟨d, S2, h2, h⟩ := M.inv h
  cases h
  refine hi σV H _ ⟨O, σ, S, r, S1, st, h1, fun O1 v H1 g1 st1 rr nn => ?_⟩
  obtain ⟨rd, rfl⟩ := dat_rep (H₀ := H) rr nn h2
  exact q (frz H O1) _ H1 g1.frz.gs ((st1.frz H).set ⟨v, rfl, rd⟩) (Kp.set fun xs z => by cases z)
variable {i : Nat} {x : Str} {pos' : Pos}
theorem cs_set (hN : X.N.Nodup) (hi : X.N[i]? = some x) (hx : Loc X.env.scope x) (he : CE X e m) (hs : swapsWith e (some (.Name x pos')) pos.line X.env = pure false := by rfl) (hf : X.fn x = true ∨ X.env.scope.names.lookup x = some .local := by first | exact .inl rfl | exact .inr rfl | assumption) :
    CS X (.Assign [.Name x pos'] e pos) (cSet i m) := ps_imp (ps_set hN hi hx he hs hf) (set_read fun _ _ _ h => h)
end
/-! ### an own list is changed -/
def cMut (i : Nat) (f : List D → List R → M (R × List D)) (ms : MA) : En → M (R × En) := fun σ => do
  let rs ← ms σ
  match σ[i]? with
  | some (.ow p xs) => do
    let (r, ys) ← f xs rs
    pure (r, σ.set i (.ow p ys))
  | _ => bad
def cMutS (i : Nat) (f : List D → List R → M (R × List D)) (ms : MA) : MS := fun σ => do
  let (_, σ') ← cMut i f ms σ
  pure (.nx σ')
def cMutSet (j i : Nat) (f : List D → List R → M (R × List D)) (ms : MA) : MS := fun σ => do
  let (r, σ') ← cMut i f ms σ
  let d ← r.dat
  pure (.nx (σ'.set j (.val d)))
def uAppend (xs : List D) : List R → M (R × List D)
  | [r] => do
    let d ← r.dat
    chk (xs.length < sizeLine)
    pure (.v .non, xs ++ [d])
  | _ => bad
def uExtend (xs : List D) : List R → M (R × List D)
  | [r] => match r.own with
    | some ys => do
      chk (xs.length + ys.length ≤ sizeLine)
      pure (.v .non, xs ++ ys)
    | none => bad
  | _ => bad
def uPop (xs : List D) : List R → M (R × List D)
  | [] => match xs[xs.length - 1]? with
    | some d => pure (.v d, xs.dropLast)
    | none => bad
  | _ => bad
section
variable {K : PySem.W.Frag} {mg : Str → Option Value} {O : Ow} {H : Hp} {l : Addr} {zs ws : List V}
mutual
theorem Rep.updL (ho : O l ≠ .free) (hl : H l = some (.lst zs)) : ∀ {d : D} {v : V}, Rep K mg O H d v → Rep K mg O (upd H l (.lst ws)) d v
  | .non, _, h => h
  | .bl _, _, h => h
  | .int _, _, h => h
  | .str _, _, h => h
  | .tup _, _, h => by
    obtain ⟨a, ys, q, t, r⟩ := h
    refine ⟨a, ys, q, ?_, RepAll.updL ho hl r⟩
    rcases t with (t | ⟨o, t⟩) | t
    · exact .inl (.inl (by rw [upd_ne (ne_of t hl (by intro z; cases z))]; exact t))
    · exact .inl (.inr ⟨o, by rw [upd_ne (ne_of t hl (by intro z; cases z))]; exact t⟩)
    · exact .inr t
  | .lst _, _, h => by
    obtain ⟨a, ys, q, t, r⟩ := h
    exact ⟨a, ys, q, ⟨by rw [upd_ne (by rintro rfl; exact ho t.2)]; exact t.1, t.2⟩, RepAll.updL ho hl r⟩
  | .dic _ _, _, h => h
  | .fn _, _, h => h
  | .ty _, _, h => h
theorem RepAll.updL (ho : O l ≠ .free) (hl : H l = some (.lst zs)) : ∀ {ds : List D} {ys : List V}, RepAll K mg O H ds ys → RepAll K mg O (upd H l (.lst ws)) ds ys
  | [], _, h => h
  | _ :: _, _, h => by obtain ⟨x, r, q, a, b⟩ := h; exact ⟨x, r, q, Rep.updL ho hl a, RepAll.updL ho hl b⟩
end
theorem LsV.updL {a : Addr} {ys : List V} (ho : O l ≠ .free) (ho' : O l ≠ .out) (h : LsV K O H a ys) : LsV K O (upd H l (.lst ws)) a ys := by
  rcases h with ⟨h, f⟩ | h
  · have ne : a ≠ l := by rintro rfl; exact f.elim ho ho'
    refine .inl ⟨?_, f⟩
    rcases h with h | ⟨o, h⟩
    · exact .inl (by rw [upd_ne ne]; exact h)
    · exact .inr ⟨o, by rw [upd_ne ne]; exact h⟩
  · exact .inr h
theorem SlotR.updL {w : Own} (ho : O l ≠ .free) (ho' : O l ≠ .out) (hw : O l ≠ w) (ht : ∀ p, O l ≠ w.at p) (hl : H l = some (.lst zs)) : ∀ {s : Slot} {u : Option V}, SlotR K mg O H w s u → SlotR K mg O (upd H l (.lst ws)) w s u
  | .emp, _, _ => trivial
  | .val _, _, h => by obtain ⟨v, q, r⟩ := h; exact ⟨v, q, r.updL ho hl⟩
  | .ow _ _, _, h => by obtain ⟨a, ys, q, o, t, r⟩ := h; exact ⟨a, ys, q, o, by rw [upd_ne (by rintro rfl; exact hw o)]; exact t, r.updL ho hl⟩
  | .vw _, _, h => by obtain ⟨a, ys, q, t, r⟩ := h; exact ⟨a, ys, q, t.updL ho ho', r.updL ho hl⟩
  | .dct _, _, h => by obtain ⟨a, ys, q, o, t, r⟩ := h; exact ⟨a, ys, q, o, by rw [upd_ne (by rintro rfl; rw [hl] at t; cases t)]; exact t, r.1, r.2.updL ho hl⟩
  | .vd _, _, h => by
    obtain ⟨a, ys, q, t, r⟩ := h
    refine ⟨a, ys, q, ⟨?_, t.2⟩, r.1, r.2.updL ho hl⟩
    rcases t.1 with t | ⟨o, t⟩
    · exact .inl (by rw [upd_ne (by rintro rfl; rw [hl] at t; cases t)]; exact t)
    · exact .inr ⟨o, by rw [upd_ne (by rintro rfl; rw [hl] at t; cases t)]; exact t⟩
  | .pd _, _, h => by obtain ⟨a, ys, q, o, t, r⟩ := h; exact ⟨a, ys, q, o, by rw [upd_ne (by rintro rfl; rw [hl] at t; cases t)]; exact t, r.1, r.2.all fun _ _ z => Rep.updL ho hl z⟩
  | .vp _, _, h => by
    obtain ⟨a, ys, q, t, r⟩ := h
    refine ⟨a, ys, q, ⟨?_, t.2⟩, r.1, r.2.all fun _ _ z => Rep.updL ho hl z⟩
    rcases t.1 with t | ⟨o, t⟩
    · exact .inl (by rw [upd_ne (by rintro rfl; rw [hl] at t; cases t)]; exact t)
    · exact .inr ⟨o, by rw [upd_ne (by rintro rfl; rw [hl] at t; cases t)]; exact t⟩
  | .tr _ _, _, h => by obtain ⟨v, q, r⟩ := h; exact ⟨v, q, r.all (fun _ _ z => Rep.updL ho hl z) fun a _ p o t _ => ⟨o, by rw [upd_ne (by rintro rfl; exact TM.ne ho' ht p o)]; exact t⟩⟩
theorem Dom.updL (d : Dom O H) (hl : H l = some (.lst zs)) : Dom O (upd H l (.lst ws)) := ⟨fun a ha => by
  by_cases e : a = l
  · rw [e, upd_same]; intro z; cases z
  · rw [upd_ne e]; exact d.has a ha, d.tabs.lst hl _⟩
end
section
variable {K : PySem.W.Frag} {mg : Str → Option Value}
variable {f : List D → List R → M (R × List D)} {r : V → List V → Hp → VK → Prop} {ms : MA} {i j : Nat}
end
section
variable {X : Cx} {x : Str} {i j : Nat} {p apos cpos pos pos' : Pos} {e : Expr} {es : List Expr} {ms : MA} {name y : Str} {id : String} {f : List D → List R → M (R × List D)} {r : V → List V → Hp → VK → Prop}
end
end L3

set_option Elab.async false
set_option linter.all false
set_option maxRecDepth 100000
set_option maxHeartbeats 1000000
namespace L3
open PySem PySem.Spec L2
variable [L2.TabP]
/-! ### what is walked -/
/-- it gives these, whatever is done that changes nobody's list -/
def ItS (J : It) (O : Ow) (H : Hp) (ys : List V) : Prop := ∀ O2 H2, Gs O O2 H H2 → ∀ i, (i < ys.length → J.go i H2 ∧ ∀ x H', J.yld i H2 x H' → H' = H2 ∧ ys[i]? = some x) ∧ (ys.length ≤ i → J.stop i H2)
abbrev MI := En → M (List D)
/-- for a comprehension -/
def tcOf (K : PySem.W.Frag) (mg : Str → Option Value) (m : MI) : TI := fun σV H R => ∃ O σ S xs S', S3 K mg O σ S σV H ∧ (m σ).run S = .ok xs S' ∧ ∀ O' H' J ys, Go O O' H H' → S3 K mg O' σ S' σV H' → ItOk J H' ys → RepAll K mg O' H' xs ys → R J H'
/-- for a loop -/
def tfOf (K : PySem.W.Frag) (mg : Str → Option Value) (m : MI) : TI := fun σV H R => ∃ O σ S xs S', S3 K mg O σ S σV H ∧ (m σ).run S = .ok xs S' ∧ ∀ O' H' J ys, Go O O' H H' → S3 K mg O' σ S' σV H' → ItS J O' H' ys → RepAll K mg O' H' xs ys → R J H'
abbrev CIc (X : Cx) (tg iter : Expr) (m : MI) : Prop := PI X tg iter (tcOf X.K X.mg m)
abbrev CIf (X : Cx) (tg iter : Expr) (m : MI) : Prop := PI X tg iter (tfOf X.K X.mg m)
theorem pi_imp {X : Cx} {tg e : Expr} {t t' : TI} (h : PI X tg e t) (i : ∀ σ H Q, t' σ H Q → t σ H Q) : PI X tg e t' := fun pins s σ H Q I q => h pins s σ H Q I (i _ _ _ q)
theorem Gs.sqT {K : PySem.W.Frag} {O O' : Ow} {H H' : Hp} (g : Gs O O' H H') {a : Addr} {ys : List V} (h : SqT K H a ys) : SqT K H' a ys := by
  rcases h with (h | ⟨o, h⟩) | h
  · exact .inl (.inl (g.cells _ _ h (.inr (.inr (.inl ⟨_, rfl⟩)))))
  · exact .inl (.inr ⟨o, g.cells _ _ h (.inr (.inr (.inr ⟨_, _, rfl⟩)))⟩)
  · exact .inr h
theorem Gs.lsV {K : PySem.W.Frag} {O O' : Ow} {H H' : Hp} (g : Gs O O' H H') {a : Addr} {ys : List V} (h : LsV K O H a ys) : LsV K O' H' a ys := by
  rcases h with ⟨h, f⟩ | h
  · refine .inl ⟨?_, by rw [g.own a (Rd.some h) f]; exact f⟩
    rcases h with h | ⟨o, h⟩
    · exact .inl (g.cells _ _ h (f.elim .inl fun z => .inr (.inl z)))
    · exact .inr ⟨o, g.cells _ _ h (f.elim .inl fun z => .inr (.inl z))⟩
  · exact .inr h
/-- a tuple's items -/
def iT (m : ME) : MI := fun σ => do
  let r ← m σ
  match r with
  | .v (.tup xs) => pure xs
  | _ => bad
/-- a list's items (in a loop: not one's own) -/
def iL (m : ME) : MI := fun σ => do
  let r ← m σ
  match r with
  | .v (.lst xs) => pure xs
  | .fr xs => pure xs
  | .vw xs => pure xs
  | _ => bad
def iLc (m : ME) : MI := fun σ => do
  let r ← m σ
  match r.lis with
  | some xs => pure xs
  | none => bad
def rngD (lo : Int) (n : Nat) : List D := (List.range n).map fun i => D.int (lo + (i : Nat))
def iR1 (m : MA) : MI := fun σ => do
  let rs ← m σ
  match rs with
  | [.v (.int j)] => if -(2 ^ 62) ≤ j ∧ j < 2 ^ 62 then pure (rngD 0 j.toNat) else bad
  | _ => bad
def iR2 (m : MA) : MI := fun σ => do
  let rs ← m σ
  match rs with
  | [.v (.int i), .v (.int j)] => if -(2 ^ 62) ≤ i ∧ i < 2 ^ 62 ∧ -(2 ^ 62) ≤ j ∧ j < 2 ^ 62 then pure (rngD i (j - i).toNat) else bad
  | _ => bad
section
variable {X : Cx} {tg l : Expr} {m : ME} {e a b : Expr} {ms : MA} {pos p : Pos}
theorem cc_list (hl : CE X l m) : CIc X tg l (iLc m) := pi_imp (pi_list hl) fun σV H RR ⟨O, σ, S, xs, S', st, h, q⟩ => by
  obtain ⟨r, S1, h1, h⟩ := M.inv h
  cases e : r.lis with
  | none => rw [e] at h; cases h
  | some zs =>
    rw [e] at h
    cases h
    refine ⟨O, σ, S, r, _, st, h1, fun O1 v H1 g1 st1 rr nn => ?_⟩
    obtain ⟨a, ys, rfl, ls, ra⟩ := R.lis_rep rr e
    exact ⟨a, rfl, ⟨ys, ls⟩, q O1 H1 (Itl X.K a) ys g1 st1 (itl_ok ls) ra⟩
end
/-! ### loops -/
def fLoop (b : D → MS) : List D → MS
  | [] => fun σ => pure (.nx σ)
  | d :: ds => fun σ => do
    let fl ← b d σ
    match fl with
    | .nx σ' => fLoop b ds σ'
    | .ct σ' => fLoop b ds σ'
    | .bk σ' => pure (.nx σ')
    | .rt r => pure (.rt r)
/-- for x in .. -/
def cFor (i : Nat) (it : MI) (b : MS) : MS := fun σ => do
  let ds ← it σ
  fLoop (fun d σ => b (σ.set i (.val d))) ds σ
def wLoop (c : En → M Bool) (b : MS) : Nat → MS
  | 0 => fun _ => bad
  | n + 1 => fun σ => do
    let t ← c σ
    if t = true then do
      let fl ← b σ
      match fl with
      | .nx σ' => wLoop c b n σ'
      | .ct σ' => wLoop c b n σ'
      | .bk σ' => pure (.nx σ')
      | .rt r => pure (.rt r)
    else pure (.nx σ)
@[irreducible] def wFuel : Nat := 2 ^ 24
def cWhile (c : En → M Bool) (b : MS) : MS := wLoop c b wFuel
theorem S3.val {K : PySem.W.Frag} {mg : Str → Option Value} {O : Ow} {σ : En} {S : Store} {σV : St} {H : Hp} {i : Nat} {d : D} {v : V} (st : S3 K mg O σ S σV H) (h : Rep K mg O H d v) : S3 K mg O (σ.set i (.val d)) S (σV.set i (some v)) H := st.set ⟨v, rfl, h⟩
theorem RepAll.gs {K : PySem.W.Frag} {mg : Str → Option Value} {O O' : Ow} {H H' : Hp} (g : Gs O O' H H') : ∀ {ds : List D} {ys : List V}, RepAll K mg O H ds ys → RepAll K mg O' H' ds ys := by
  have rep : ∀ (d : D) (v : V), Rep K mg O H d v → Rep K mg O' H' d v := by
    intro d
    induction d using D.rec (motive_2 := fun ds => ∀ ys, RepAll K mg O H ds ys → RepAll K mg O' H' ds ys) with
    | non => exact fun v h => h
    | bl _ => exact fun v h => h
    | int _ => exact fun v h => h
    | str _ => exact fun v h => h
    | fn _ => exact fun v h => h
    | ty _ => exact fun v h => h
    | dic l _ _ => exact fun v h => h
    | tup xs ih => exact fun v ⟨a, ys, q, l, r⟩ => ⟨a, ys, q, g.sqT l, ih ys r⟩
    | lst xs ih => exact fun v ⟨a, ys, q, l, r⟩ => ⟨a, ys, q, ⟨g.cells _ _ l.1 (.inl l.2), by rw [g.own a (by rw [l.1]; intro z; cases z) (.inl l.2)]; exact l.2⟩, ih ys r⟩
    | nil => assumption
    | cons x xs ih1 ih2 =>
      rename_i zs hz
      obtain ⟨y, r, q, a, b⟩ := hz
      exact ⟨y, r, q, ih1 y a, ih2 r b⟩
  intro ds
  induction ds with
  | nil => exact fun h => h
  | cons x xs ih => rintro ys ⟨y, r, q, a, b⟩; exact ⟨y, r, q, rep x y a, ih b⟩
section
variable {X : Cx} {tg iter : Expr} {it : MI} {i : Nat} {b : MS} {body : List Stmt} {pos tpos : Pos} {x : Str} {c : Expr} {t : En → M Bool}
theorem RepAll.get' {K : PySem.W.Frag} {mg : Str → Option Value} {O : Ow} {H : Hp} {ds : List D} {ys : List V} {k : Nat} {d : D} {ds' : List D} (h : RepAll K mg O H ds ys) (e : ds.drop k = d :: ds') : ∃ y, ys[k]? = some y ∧ Rep K mg O H d y ∧ ds.drop (k + 1) = ds' := by
  have e1 : ds[k]? = some d := by
    have := congrArg (·[0]?) e
    simpa using this
  obtain ⟨y, q, r⟩ := h.get e1
  refine ⟨y, q, r, ?_⟩
  have := congrArg (List.drop 1) e
  simpa [List.drop_drop] using this
theorem forG_read {K : PySem.W.Frag} {mg : Str → Option Value} {G : TG} {B : L3.D → MS} (hG : ∀ O σ S σV H d y f S2 Q, S3 K mg O σ S σV H → Rep K mg O H d y → (B d σ).run S = .ok f S2 → (∀ σn σVn, S3 K mg O σn S σVn H → Kp σ σn σV σVn → (b σn).run S = .ok f S2 → Q σVn H) → G y σV H Q) :
    ∀ D σV H, tsOf K mg (fun σ => do
      let ds ← it σ
      fLoop B ds σ) D σV H → tFor (tfOf K mg it) G (tsOf K mg b) D σV H := by
  rintro D σV H ⟨O, σ, S, fl, S', st, h, q⟩
  obtain ⟨ds, S1, h1, h⟩ := M.inv h
  refine ⟨O, σ, S, ds, S1, st, h1, fun O1 H1 J ys g1 st1 its ra => ?_⟩
  refine ⟨fun k m σV' H' => m = ys.length - k ∧ k ≤ ys.length ∧ ∃ O' σ' S'', S3 K mg O' σ' S'' σV' H' ∧ Gs O1 O' H1 H' ∧ Kp σ σ' σV σV' ∧ (fLoop B (ds.drop k) σ').run S'' = .ok fl S',
    ⟨_, rfl, Nat.zero_le _, O1, σ, S1, st1, Gs.refl _ _, Kp.refl _ _, h⟩, ?_⟩
  rintro k m σV' H' ⟨rfl, hk, O', σ', S'', st', g', kp, h⟩
  cases e : ds.drop k with
  | nil =>
    have hl : ys.length ≤ k := by
      have := congrArg List.length e
      rw [List.length_drop, List.length_nil] at this
      rw [ra.len]; omega
    rw [e] at h
    cases h
    exact .inl ⟨(its O' H' g' k).2 hl, q O' σV' H' (g1.gs.trans g') st' kp⟩
  | cons d ds' =>
    obtain ⟨y, ey, ry, e'⟩ := (RepAll.gs g' ra).get' e
    have hlt : k < ys.length := (List.getElem?_eq_some_iff.mp ey).1
    obtain ⟨go, yl⟩ := (its O' H' g' k).1 hlt
    rw [e] at h
    obtain ⟨f1, S2, h2, h⟩ := M.inv h
    refine .inr ⟨go, fun σV2 H2 => ∃ O2 σ2 S2, S3 K mg O2 σ2 S2 σV2 H2 ∧ Gs O1 O2 H1 H2 ∧ Kp σ σ2 σV σV2 ∧ (fLoop B (ds.drop (k + 1)) σ2).run S2 = .ok fl S', ?_, fun x H2 yy => ?_⟩
    · rintro σV2 H2 ⟨O2, σ2, S2, a1, a2, a3, a4⟩
      exact ⟨_, by omega, rfl, hlt, O2, σ2, S2, a1, a2, a3, a4⟩
    · obtain ⟨rfl, ex⟩ := yl x H2 yy
      rw [ey] at ex
      cases ex
      refine hG _ _ _ _ _ _ _ _ _ _ st' ry h2 fun σn σVn stn ks hb => ?_
      refine ⟨O', σn, S'', f1, S2, stn, hb, ?_⟩
      cases f1 with
      | nx σ2 => exact fun O2 σV2 H2 g2 st2 k2 => ⟨O2, σ2, S2, st2, g'.trans g2, kp.trans (ks.trans k2), by rw [e']; exact h⟩
      | ct σ2 => exact fun O2 σV2 H2 g2 st2 k2 => ⟨O2, σ2, S2, st2, g'.trans g2, kp.trans (ks.trans k2), by rw [e']; exact h⟩
      | bk σ2 => cases h; exact fun O2 σV2 H2 g2 st2 k2 => q O2 σV2 H2 (g1.gs.trans (g'.trans g2)) st2 (kp.trans (ks.trans k2))
      | rt r => cases h; exact fun O2 v H2 g2 d2 e2 r2 => q O2 v H2 (g1.gs.trans (g'.trans g2)) d2 e2 r2
theorem for_read {K : PySem.W.Frag} {mg : Str → Option Value} : ∀ D σV H, tsOf K mg (cFor i it b) D σV H → tFor (tfOf K mg it) (gName i) (tsOf K mg b) D σV H :=
  forG_read (B := fun d σ => b (σ.set i (.val d))) fun _ _ _ _ _ _ _ _ _ _ st ry h k => k _ _ (st.val ry) (Kp.set fun xs z => by cases z) h
theorem cs_for (hp : PassesOwn (model X.prog X.w) X.A X.env X.xe) (hc : X.calm = true) (hi : CIf X (.Name x tpos) iter it) (hN : X.N.Nodup) (hx : X.N[i]? = some x) (hl : Loc X.env.scope x) (hb : CSs X body b)
    (hs : ∀ x, foldedSetIterable iter X.env x = pure x := by intro _; rfl) (hf : X.fn x = true ∨ X.env.scope.names.lookup x = some .local := by first | exact .inl rfl | exact .inr rfl | assumption) : CS X (.For (.Name x tpos) iter body [] pos) (cFor i it b) :=
  ps_imp (ps_for hp hc hi (pg_name hN hx hl hf) hb hs) for_read
end
/-! ### comprehensions -/
def kLoop (t : En → M Bool) (el : ME) (σ : En) : List D → M (List D)
  | [] => pure []
  | d :: ds => do
    let b ← t (σ.set 0 (.val d))
    if b = true then do
      let r ← el (σ.set 0 (.val d))
      let x ← r.dat
      let xs ← kLoop t el σ ds
      pure (x :: xs)
    else kLoop t el σ ds
def cpSlot : Option Slot → Slot
  | some (.val d) => .val d
  | some (.ow _ xs) => .vw xs
  | some (.vw xs) => .vw xs
  | some (.dct kvs) => .vd kvs
  | some (.vd kvs) => .vd kvs
  | some (.pd kvs) => .vp kvs
  | some (.vp kvs) => .vp kvs
  | _ => .emp
def cpEn (n : Nat) (cap : List Nat) (σ : En) : En := List.replicate n .emp ++ cap.map fun k => cpSlot σ[k]?
def cComp (n : Nat) (cap : List Nat) (it : MI) (t : En → M Bool) (el : ME) : ME := fun σ => do
  let ds ← it σ
  chk (ds.length < sizeLine)
  let xs ← kLoop t el (cpEn n cap σ) ds
  pure (.fr xs)
def tYes : En → M Bool := fun _ => pure true
abbrev CFs (X : Cx) (ifs : List Expr) (t : En → M Bool) : Prop := PIfs X ifs (ttOf X.K X.mg t)
theorem cfs_nil {X : Cx} : CFs X [] tYes := fun pins s σ H Q I ⟨O, σ', S, b, S', st, h, q⟩ => by
  cases h
  exact pf_nil pins s σ H Q I (q O H (Go.refl _ _) st)
/-- the block's owners: what is a name's own around is others' within -/
def Own.blk : Own → Own
  | .loc _ => .out
  | .tr _ _ => .out
  | .tmp => .out
  | o => o
def blk (O : Ow) : Ow := fun b => (O b).blk
theorem blk_free {O : Ow} {b : Addr} : blk O b = .free ↔ O b = .free := by unfold blk; cases O b <;> simp [Own.blk]
theorem blk_cases (O : Ow) (b : Addr) : blk O b = .free ∨ blk O b = .out := by unfold blk; cases O b <;> simp [Own.blk]
theorem blk_fre (O : Ow) : Fre O (blk O) := ⟨fun _ h => blk_free.mpr h⟩
theorem LsV.blk {K : PySem.W.Frag} {O : Ow} {H : Hp} {a : Addr} {ys : List V} (h : LsV K O H a ys) : LsV K (blk O) H a ys := by
  rcases h with ⟨h, f⟩ | h
  · refine .inl ⟨h, ?_⟩
    rcases f with f | f
    · exact .inl (blk_free.mpr f)
    · exact .inr (by unfold L3.blk; rw [f]; rfl)
  · exact .inr h
theorem S3.blk {K : PySem.W.Frag} {mg : Str → Option Value} {O : Ow} {σ : En} {S : Store} {σV : St} {H : Hp} (st : S3 K mg O σ S σV H) (n : Nat) (cap : List Nat) : S3 K mg (blk O) (cpEn n cap σ) S (cpSt n cap σV) H := by
  refine ⟨⟨fun a ha => st.dom.has a fun z => ha (blk_free.mpr z), st.dom.tabs⟩, ?_, fun i s e => ?_, st.emp⟩
  · unfold cpEn cpSt
    rw [List.length_append, List.length_append, List.length_replicate, List.length_replicate, List.length_map, List.length_map]
  · unfold cpEn at e
    unfold cpSt
    by_cases hi : i < n
    · rw [List.getElem?_append_left (by simpa using hi), List.getElem?_replicate, if_pos hi] at e
      cases e
      exact trivial
    · rw [List.getElem?_append_right (by simpa using hi), List.length_replicate, List.getElem?_map] at e
      rw [List.getElem?_append_right (by simpa using hi), List.length_replicate, List.getElem?_map]
      cases ec : cap[i - n]? with
      | none => rw [ec] at e; cases e
      | some k =>
        rw [ec] at e
        have e' : cpSlot σ[k]? = s := Option.some.inj e
        show SlotR K mg _ H _ s (some (σV[k]?.join)).join
        cases es : σ[k]? with
        | none => rw [es] at e'; subst e'; exact trivial
        | some s0 =>
          rw [es] at e'
          have l := st.loc k s0 es
          cases s0 with
          | emp => subst e'; exact trivial
          | dct _ => subst e'; obtain ⟨a, ys, q, o, l, r⟩ := l; exact ⟨a, ys, q, ⟨.inl l, .inr (by unfold L3.blk; rw [o]; rfl)⟩, r.fre (blk_fre O)⟩
          | pd _ => subst e'; obtain ⟨a, ys, q, o, l, r⟩ := l; exact ⟨a, ys, q, ⟨.inl l, .inr (by unfold L3.blk; rw [o]; rfl)⟩, r.1, r.2.fre (blk_fre O)⟩
          | vp _ => subst e'; obtain ⟨a, ys, q, l, r⟩ := l; exact ⟨a, ys, q, ⟨l.1, l.2.elim (fun f => .inl (blk_free.mpr f)) fun f => .inr (by unfold L3.blk; rw [f]; rfl)⟩, r.1, r.2.fre (blk_fre O)⟩
          | tr _ _ => subst e'; exact trivial
          | vd _ => subst e'; obtain ⟨a, ys, q, l, r⟩ := l; exact ⟨a, ys, q, ⟨l.1, l.2.elim (fun f => .inl (blk_free.mpr f)) fun f => .inr (by unfold L3.blk; rw [f]; rfl)⟩, r.fre (blk_fre O)⟩
          | val d => subst e'; obtain ⟨v, q, r⟩ := l; exact ⟨v, q, r.fre (blk_fre O)⟩
          | vw xs => subst e'; obtain ⟨a, ys, q, l, r⟩ := l; exact ⟨a, ys, q, l.blk, r.fre (blk_fre O)⟩
          | ow p xs => subst e'; obtain ⟨a, ys, q, o, l, r⟩ := l; exact ⟨a, ys, q, .inl ⟨.inl l, .inr (by unfold L3.blk; rw [o]; rfl)⟩, r.fre (blk_fre O)⟩
theorem S3.updT {K : PySem.W.Frag} {mg : Str → Option Value} {O : Ow} {H : Hp} {l : Addr} {zs ws : List V} {σ : En} {S : Store} {σV : St} (st : S3 K mg O σ S σV H) (ho : O l = .tmp) (hl : H l = some (.lst zs)) : S3 K mg O σ S σV (upd H l (.lst ws)) := by
  have ne : ∀ w : Own, w ≠ .tmp → O l ≠ w := fun w hw z => hw (z.symm.trans ho)
  exact ⟨st.dom.updL hl, st.len, fun j t e => (st.loc j t e).updL (ne _ (by intro z; cases z)) (ne _ (by intro z; cases z)) (ne _ (by intro z; cases z)) (fun p => ne _ (by intro z; cases z)) hl, st.emp⟩
section
variable {K : PySem.W.Frag} {mg : Str → Option Value} {n : Nat} {cap : List Nat} {it : MI} {t : En → M Bool} {el : ME}
inductive CompI (K : PySem.W.Frag) (mg : Str → Option Value) (n : Nat) (cap : List Nat) (t : En → M Bool) (el : ME) (O1 : Ow) (σ : En) (S' : Store) (σV : St) (H1 : Hp) (A : Addr) (ds xs : List L3.D) (k : Nat) (zs : List V) (H' : Hp) : Prop
  | mk (O' : Ow) (S'' : Store) (acc xs' : List L3.D) (st' : S3 K mg O' (cpEn n cap σ) S'' (cpSt n cap σV) H') (s' : Same H1 H') (own' : ∀ b, H1 b ≠ none → O' b = blk O1 b) (tD : O' A = .tmp) (hH : H' A = some (.lst zs)) (hz : zs.length ≤ k)
      (rz : RepAll K mg O' H' acc zs) (h : (kLoop t el (cpEn n cap σ) (ds.drop k)).run S'' = .ok xs' S') (ex : acc ++ xs' = xs)
theorem comp_read (hn : 0 < n) : ∀ σV H Q, teOf K mg (cComp n cap it t el) σV H Q → tComp n cap (tcOf K mg it) (gName 0) (ttOf K mg t) (teOf K mg el) σV H Q := by
  rintro σV H Q ⟨O, σ, S, r, S', st, h, q⟩
  obtain ⟨ds, S1, h1, h⟩ := M.inv h
  obtain ⟨_, S2, h2, h⟩ := M.inv h
  obtain ⟨hlen, rfl⟩ := chk_inv h2
  obtain ⟨xs, S3', h3, h⟩ := M.inv h
  cases h
  refine ⟨O, σ, S, ds, S1, st, h1, fun O1 H1 J ys g1 st1 its ra => fun D hD => ?_⟩
  have stb : S3 K mg (updO (blk O1) D .tmp) (cpEn n cap σ) S1 (cpSt n cap σV) (upd H1 D (.lst [])) := (st1.blk n cap).new hD
  refine ⟨fun k m zs H' => m = ys.length - k ∧ k ≤ ys.length ∧ CompI K mg n cap t el O1 σ S' σV H1 D ds xs k zs H',
    ⟨_, rfl, Nat.zero_le _, _, S1, [], xs, stb, same_new hD _, fun b hb => updO_ne (by rintro rfl; exact hb hD), updO_same, upd_same, Nat.le_refl _, rfl, h3, rfl⟩, ?_⟩
  rintro k m zs H' ⟨rfl, hk, O', S'', acc, xs', st', s', own', tD, hH, hz, rz, h, ex⟩
  cases e : ds.drop k with
  | nil =>
    have hl : ys.length ≤ k := by
      have := congrArg List.length e
      rw [List.length_drop, List.length_nil] at this
      rw [ra.len]; omega
    rw [e] at h
    cases h
    rw [List.append_nil] at ex
    subst ex
    refine .inl ⟨(its H' s' k).2 hl, ?_⟩
    let Of : Ow := fun b => match H1 b with | none => O' b | some _ => O1 b
    have ofOld : ∀ b, H1 b ≠ none → Of b = O1 b := fun b hb => by
      show (match H1 b with | none => O' b | some _ => O1 b) = O1 b
      cases e : H1 b with
      | none => exact absurd e hb
      | some _ => rfl
    have ofNew : ∀ b, H1 b = none → Of b = O' b := fun b hb => by
      show (match H1 b with | none => O' b | some _ => O1 b) = O' b
      rw [hb]
    have fre : Fre O' Of := ⟨fun b hb => by
        by_cases hb1 : H1 b = none
        · rw [ofNew b hb1]; exact hb
        · rw [ofOld b hb1]; exact blk_free.mp ((own' b hb1).symm.trans hb)⟩
    have go : Go O1 Of H1 H' := ⟨s', ofOld⟩
    have dom : Dom Of H' := ⟨fun b hb => by
      by_cases hb1 : H1 b = none
      · rw [ofNew b hb1] at hb; exact st'.dom.has b hb
      · exact s'.some hb1, st'.dom.tabs⟩
    have eS : S1 = S' := st1.emp.trans st'.emp.symm
    subst eS
    refine q Of (.ref D) H' (g1.trans go) (st1.go go dom) ⟨D, zs, rfl, hH, (ofNew D hD).trans tD, rz.fre fre⟩ fun a ea => ?_
    cases ea
    exact g1.same.free hD
  | cons d ds' =>
    have raK : RepAll K mg O' H' ds ys := (ra.fre (blk_fre O1)).go ⟨s', own'⟩
    obtain ⟨y, ey, ry, e'⟩ := raK.get' e
    have hlt : k < ys.length := (List.getElem?_eq_some_iff.mp ey).1
    obtain ⟨go, yl⟩ := (its H' s' k).1 hlt
    rw [e] at h
    obtain ⟨b, S2, h2, h⟩ := M.inv h
    refine .inr ⟨go, fun x H2 yy => ?_⟩
    obtain ⟨eH, exx⟩ := yl x H2 yy
    have eH' := eH.symm
    subst eH'
    rw [ey] at exx
    cases exx
    have h0 : (cpSt n cap σV)[0]? = some none := by
      cases n with
      | zero => exact absurd hn (Nat.lt_irrefl _)
      | succ j => rfl
    refine ⟨(Fgt.refl _).set h0, O', _, S'', b, S2, st'.val ry, h2, fun O2 H3 g2 st2 => ?_⟩
    cases b with
    | false =>
      rw [if_neg Bool.false_ne_true] at h
      refine iteF ⟨ys.length - (k + 1), by omega, rfl, hlt, O2, S2, acc, xs', ?_, s'.trans g2.same, fun b hb => (g2.own b (s'.some hb)).trans (own' b hb), (g2.own D (by rw [hH]; intro z; cases z)).trans tD, g2.same.at' _ _ hH, by omega, rz.go g2, by rw [e']; exact h, ex⟩
      have eS : S'' = S2 := st'.emp.trans st2.emp.symm
      exact eS ▸ st'.go g2 st2.dom
    | true =>
      rw [if_pos rfl] at h
      obtain ⟨r, S4, h4, h⟩ := M.inv h
      obtain ⟨x, S5, h5, h⟩ := M.inv h
      obtain ⟨xs2, S6, h6, h⟩ := M.inv h
      cases h
      refine iteT ⟨O2, _, S2, r, S4, st2, h4, fun O3 v H4 g3 st3 rr nn => ?_⟩
      obtain ⟨rx, rfl⟩ := dat_rep (H₀ := H3) rr nn h5
      have G : Go O' (frz H3 O3) H' H4 := g2.trans g3.frz
      have hD4 : H4 D = some (.lst zs) := G.same.at' _ _ hH
      have tD4 : frz H3 O3 D = .tmp := (G.own D (by rw [hH]; intro z; cases z)).trans tD
      have eS : S'' = S4 := st'.emp.trans st3.emp.symm
      refine ⟨hD4, by rw [ra.len] at hlt; omega, ys.length - (k + 1), by omega, rfl, hlt, frz H3 O3, S4, acc ++ [x], xs2, ?_, upd_over hD (s'.trans G.same) hD4 _, fun b hb => (G.own b (s'.some hb)).trans (own' b hb), tD4, upd_same,
        by rw [List.length_append, List.length_singleton]; omega, ((rz.go G).append (.one rx)).updL (by rw [tD4]; intro z; cases z) hD4, by rw [e']; exact h6, by rw [List.append_assoc]; exact ex⟩
      exact eS ▸ (st'.go G (st3.frz H3).dom).updT tD4 hD4
end
section
variable {X : Cx} {scope esc : Scope} {EN N : List Str} {n : Nat} {cap : List Nat} {elt iter : Expr} {ifs : List Expr} {pos tpos : Pos} {x : Str} {it : MI} {t : En → M Bool} {el : ME}
/-- [elt for x in iter if ..] -/
theorem ce_comp (S : CpScope esc scope EN N n cap) (hn : 0 < n) (hi : CIc X (.Name x tpos) iter it) (hx : N[0]? = some x) (hlx : ∀ C fp s H, Loc (cxComp X scope N C fp s H).env.scope x ∧ (cxComp X scope N C fp s H).env.scope.names.lookup x = some .local)
    (ht : ∀ C fp s H, CFs (cxComp X scope N C fp s H) ifs t) (hel : ∀ C fp s H, CE (cxComp X scope N C fp s H) elt el)
    (he : X.env.scope = esc := by rfl) (hN : X.N = EN := by rfl) (hc : X.calm = true := by rfl) (hs : ∀ x, foldedSetIterable iter X.env x = pure x := by intro _; rfl) : CE X (.ListComp elt [⟨.Name x tpos, iter, ifs, 0⟩] scope pos) (cComp n cap it t el) :=
  pe_imp (pe_comp (wi := tcOf X.K X.mg it) (g := gName 0) (tt := ttOf X.K X.mg t) (te := teOf X.K X.mg el) S hi (fun C fp s H => pg_name S.nd hx (hlx C fp s H).1 (.inr (hlx C fp s H).2)) ht hel he hN hc hs) (comp_read hn)
end
/-! ### calls of defs -/
abbrev MF := List D → M R
def ArgR (K : PySem.W.Frag) (mg : Str → Option Value) (O : Ow) (H : Hp) : D → V → Prop
  | .lst xs, v => ∃ a ys, v = .ref a ∧ SqL K H a ys ∧ RepAll K mg O H xs ys
  | .dic ks vs, v => ∃ a kvv, v = .ref a ∧ Rd H a (.dK kvv) ∧ RepKV K mg O H (ks.zip vs) kvv
  | d, v => Rep K mg O H d v
def ArgAll (K : PySem.W.Frag) (mg : Str → Option Value) (O : Ow) (H : Hp) : List D → List V → Prop
  | [], ys => ys = []
  | x :: xs, ys => ∃ y r, ys = y :: r ∧ ArgR K mg O H x y ∧ ArgAll K mg O H xs r
theorem zip_un {α β : Type} : ∀ l : List (α × β), (l.map (·.1)).zip (l.map (·.2)) = l
  | [] => rfl
  | x :: l => by rw [List.map_cons, List.map_cons, List.zip_cons_cons, zip_un l]
def slotOf : D → Slot
  | .lst xs => .vw xs
  | .dic ks vs => .vd (ks.zip vs)
  | d => .val d
theorem arg_of {K : PySem.W.Frag} {mg : Str → Option Value} {O : Ow} {H : Hp} {r : R} {v : V} (h : RepR K mg O H r v) : ArgR K mg O H r.arg v := by
  match r, h with
  | .v (.lst xs), h => obtain ⟨a, ys, q, l, r⟩ := h; exact ⟨a, ys, q, l.sq, r⟩
  | .fr xs, h => obtain ⟨a, ys, q, l, _, r⟩ := h; exact ⟨a, ys, q, SqL.of l, r⟩
  | .vw xs, h => obtain ⟨a, ys, q, l, r⟩ := h; exact ⟨a, ys, q, l.sq, r⟩
  | .mv xs, h => obtain ⟨a, ys, q, l, r⟩ := h; exact ⟨a, ys, q, SqL.of l, r⟩
  | .v .non, h => exact h
  | .v (.bl _), h => exact h
  | .v (.int _), h => exact h
  | .v (.str _), h => exact h
  | .v (.tup _), h => exact h
  | .v (.dic _ _), h => exact False.elim h
  | .dv kvs, h => obtain ⟨a, kvv, q, l, r⟩ := h; exact ⟨a, kvv, q, l, by rw [zip_un]; exact r⟩
  | .v (.fn _), h => exact h
  | .v (.ty _), h => exact h
theorem args_of {K : PySem.W.Frag} {mg : Str → Option Value} {O : Ow} {H : Hp} : ∀ {rs : List R} {vs : List V}, RepRs K mg O H rs vs → ArgAll K mg O H (rs.map R.arg) vs
  | [], _, h => h
  | _ :: _, _, h => by obtain ⟨y, r, q, a, b⟩ := h; exact ⟨y, r, q, arg_of a, args_of b⟩
theorem ArgAll.len {K : PySem.W.Frag} {mg : Str → Option Value} {O : Ow} {H : Hp} : ∀ {ds : List D} {vs : List V}, ArgAll K mg O H ds vs → vs.length = ds.length
  | [], _, h => by cases h; rfl
  | _ :: _, _, h => by obtain ⟨x, r, rfl, _, b⟩ := h; rw [List.length_cons, List.length_cons, ArgAll.len b]
theorem ArgAll.get {K : PySem.W.Frag} {mg : Str → Option Value} {O : Ow} {H : Hp} : ∀ {ds : List D} {xs : List V} {i : Nat} {d : D}, ArgAll K mg O H ds xs → ds[i]? = some d → ∃ x, xs[i]? = some x ∧ ArgR K mg O H d x
  | [], _, _, _, _, e => by simp at e
  | _ :: _, _, 0, d, h, e => by obtain ⟨x, r, rfl, a, _⟩ := h; cases (show some _ = some d from e); exact ⟨x, rfl, a⟩
  | _ :: ds, _, i + 1, d, h, e => by
    obtain ⟨x, r, rfl, _, b⟩ := h
    obtain ⟨y, e1, e2⟩ := ArgAll.get (i := i) b (by simpa using e)
    exact ⟨y, by simpa using e1, e2⟩
def spF (K : PySem.W.Frag) (mg : Str → Option Value) (mf : MF) : Sp := fun vs H Q _ => ∃ O ds r S', Dom O H ∧ ArgAll K mg O H ds vs ∧ (mf ds).run [] = .ok r S' ∧ ∀ O' v H', Go O O' H H' → Dom O' H' → S' = [] → RepR K mg O' H' r v → NewR H r v → Q v H'
def cCall (mf : MF) (ms : MA) : ME := fun σ => do
  let rs ← ms σ
  mf (rs.map R.arg)
section
variable {X : Cx} {x : Str} {ps : List Str} {k : Nat} {mf : MF} {p pos : Pos} {e : Expr} {es : List Expr} {ms : MA}
theorem call_read {K : PySem.W.Frag} {mg : Str → Option Value} : ∀ σV H Q, teOf K mg (cCall mf ms) σV H Q → tFn (spF K mg mf) (taOf K mg ms) σV H Q := by
  rintro σV H Q ⟨O, σ, S, r, S', st, h, q⟩
  obtain ⟨rs, S1, h1, h⟩ := M.inv h
  refine ⟨O, σ, S, rs, S1, st, h1, fun O1 vs H1 g1 st1 rr nn => ?_⟩
  have eS := st1.emp
  subst eS
  refine ⟨O1, _, r, S', st1.dom, args_of rr, h, fun O' v H' g d e r' n' => q O' v H' (g1.trans g) ?_ r' (n'.back g1.same)⟩
  subst e
  exact st1.go g d
theorem ce_call (h : Has X.prog X.w X.K X.mg X.base x ps k (spF X.K X.mg mf)) (hr : Room k X.A) (hg : Gl X x) (ha : CA X (e :: es) ms) (hdb : (x == ("__debug__" : Str)) = false := by decide)
    (he : starEach (e :: es) X.env = (false, eval e X.env) :: starEach es X.env := by rfl) (hpl : (backTo pos (starEach es X.env)).any (·.1) = false := by rfl) : CE X (.Call (.Name x p) (e :: es) [] pos) (cCall mf ms) :=
  pe_imp (pe_fn h hr hg ha hdb he hpl) call_read
end
/-! ### defs -/
def fnOf (n N : Nat) (b : MS) : MF := fun ds => if ds.length = n then do
    let fl ← b (ds.map slotOf ++ List.replicate (N - n) .emp)
    match fl with
    | .rt (.v d) => pure (.v d)
    | .rt (.fr xs) => pure (.fr xs)
    | .nx _ => pure (.v .non)
    | _ => bad
  else bad
/-- a callee's owners: all that is somebody's is others' -/
theorem slot_arg {K : PySem.W.Frag} {mg : Str → Option Value} {O : Ow} {H : Hp} {w : Own} {d : D} {v : V} (h : ArgR K mg O H d v) : SlotR K mg (blk O) H w (slotOf d) (some v) := by
  have val : Rep K mg O H d v → SlotR K mg (blk O) H w (.val d) (some v) := fun h => ⟨v, rfl, h.fre (blk_fre O)⟩
  match d, h, val with
  | .lst xs, h, _ =>
    obtain ⟨a, ys, rfl, l, r⟩ := h
    exact ⟨a, ys, rfl, l.imp (fun z => ⟨z, blk_cases O a⟩) id, r.fre (blk_fre O)⟩
  | .non, h, val => exact val h
  | .bl _, h, val => exact val h
  | .int _, h, val => exact val h
  | .str _, h, val => exact val h
  | .tup _, h, val => exact val h
  | .dic ks vs, h, _ => obtain ⟨a, kvv, rfl, l, r⟩ := h; exact ⟨a, kvv, rfl, ⟨l, blk_cases O a⟩, r.fre (blk_fre O)⟩
  | .fn _, h, val => exact val h
  | .ty _, h, val => exact val h
omit [L2.TabP] in
theorem fnOf_len {n N : Nat} {b : MS} {ds : List D} {S S' : Store} {r : R} (h : (fnOf n N b ds).run S = .ok r S') : ds.length = n := by
  unfold fnOf at h
  by_cases c : ds.length = n
  · exact c
  · rw [if_neg c] at h; cases h
theorem body_read {K : PySem.W.Frag} {mg : Str → Option Value} {ps N : List Str} {mb : MS} {vs : List V} {H : Hp} {Q : VK} {E : XK} (hsp : spF K mg (fnOf ps.length N.length mb) vs H Q E) : tsOf K mg mb { nx := fun _ H' => Q .non H', rt := Q } (L2.start N vs) H := by
  obtain ⟨O, ds, r, S', dm, ar, h, q⟩ := hsp
  have hl := fnOf_len h
  have hlv := ar.len
  unfold fnOf at h
  rw [if_pos hl] at h
  obtain ⟨fl, S1, h1, h⟩ := M.inv h
  have st0 : S3 K mg (blk O) (ds.map slotOf ++ List.replicate (N.length - ps.length) .emp) [] (L2.start N vs) H := by
    refine ⟨⟨fun a ha => dm.has a fun z => ha (blk_free.mpr z), dm.tabs⟩, ?_, fun i s e => ?_, rfl⟩
    · unfold L2.start
      rw [List.length_append, List.length_append, List.length_map, List.length_map, List.length_replicate, List.length_replicate, hlv, hl]
    · by_cases hi : i < ds.length
      · rw [List.getElem?_append_left (by rw [List.length_map]; exact hi), List.getElem?_map] at e
        cases ed : ds[i]? with
        | none => rw [ed] at e; cases e
        | some d =>
          rw [ed] at e
          cases e
          obtain ⟨v, ev, rv⟩ := ar.get ed
          unfold L2.start
          rw [List.getElem?_append_left (by rw [List.length_map, hlv]; exact hi), List.getElem?_map, ev]
          exact slot_arg rv
      · rw [List.getElem?_append_right (by rw [List.length_map]; omega), List.getElem?_replicate] at e
        split at e
        · cases e; exact trivial
        · cases e
  have old : ∀ b, H b ≠ none → blk O b = .free ∨ blk O b = .out := fun b _ => blk_cases O b
  -- the caller's owners behind the call
  have back : ∀ {O' : Ow} {H' : Hp}, Gs (blk O) O' H H' → Dom O' H' → ∃ O2 : Ow, Go O O2 H H' ∧ Dom O2 H' ∧ Fre O' O2 ∧ ∀ b, (O' b = .tmp ∨ ∃ i, O' b = .loc i) → H b = none ∧ O2 b = .tmp := fun {O' H'} g d => by
    refine ⟨fun b => match H b with | some _ => O b | none => (match O' b with | .loc _ => .tmp | o => o), ⟨⟨fun b o e n => g.cells b o e ((old b (by rw [e]; intro z; cases z)).elim .inl fun z => .inr (.inl z)) n, g.tb, g.gd⟩, fun b hb => ?_⟩, ⟨fun b hb => ?_, d.tabs⟩, ⟨fun b hb => ?_⟩, fun b hb => ?_⟩
    · cases e : H b with
      | none => exact absurd e hb
      | some o => rfl
    · cases e : H b with
      | some o => exact g.has b (by rw [e]; intro z; cases z)
      | none =>
        rw [e] at hb
        refine d.has b fun z => hb ?_
        dsimp only
        rw [z]
    · cases e : H b with
      | some o =>
        dsimp only
        have := (g.own b (by rw [e]; intro z; cases z) (blk_cases O b)).symm.trans hb
        exact blk_free.mp this
      | none =>
        dsimp only
        rw [hb]
    · have hn : H b = none := by
        cases e : H b with
        | none => rfl
        | some o =>
          exfalso
          have q1 := g.own b (by rw [e]; intro z; cases z) (blk_cases O b)
          rcases blk_cases O b with z | z <;> rw [z] at q1 <;> rcases hb with w | ⟨i, w⟩ <;> rw [q1] at w <;> cases w
      refine ⟨hn, ?_⟩
      dsimp only
      rw [hn]
      rcases hb with w | ⟨i, w⟩ <;> rw [w]
  refine ⟨blk O, _, [], fl, S1, st0, h1, ?_⟩
  cases fl with
  | nx σ' =>
    cases h
    intro O' σV' H' g st' _
    obtain ⟨O2, g2, d2, f2, _⟩ := back g st'.dom
    exact q O2 .non H' g2 d2 st'.emp rfl trivial
  | bk σ' => cases h
  | ct σ' => cases h
  | rt r' =>
    intro O' v H' g d eS rr
    obtain ⟨O2, g2, d2, f2, t2⟩ := back g d
    cases r' with
    | v dd => cases h; exact q O2 v H' g2 d2 eS (Rep.fre f2 rr) trivial
    | fr xs =>
      cases h
      obtain ⟨a, ys, rfl, l, t, ra⟩ := rr
      obtain ⟨hn, ht⟩ := t2 a t
      exact q O2 _ H' g2 d2 eS ⟨a, ys, rfl, l, ht, ra.fre f2⟩ fun b eb => by cases eb; exact hn
    | vw xs => exact False.elim rr
    | mv xs => exact False.elim rr
    | dv _ => exact False.elim rr
theorem fn_sim {P : Program} {w : World} {K : PySem.W.Frag} {mg : Str → Option Value} {base : Heap} {x qual : Str} {st : Stmt} {ps N : List Str} {k : Nat} {mb : MS} {f : Addr} {fd : FuncData} {n nl : Nat} (F : Fun K x qual st f fd) (Sc : FnScope N ps (defScope st)) (hn : ps.length = n) (hl : N.length = nl)
    (hb : ∀ (cdv : Value) (A : Around) (outer : List Env) (s : Shared) (H : Hp) (E : XK), Room k (A.deeper (PyProof.Rows.envOfC qual (defScope st) s.heap.objs.size f cdv)) →
      CSs (cxOf CX0 P w K mg base N qual (defScope st) f cdv A outer s H E).nox (defBody st) mb) : FnOk P w K mg base CX0 (k + 1) f fd ps (spF K mg (fnOf n nl mb)) := by
  subst hn hl
  exact F.ok Sc (fun vs H Q E ⟨O, ds, r, S', dm, ar, h, q⟩ => ar.len.trans (fnOf_len h)) fun cdv A outer s H vs Q E hr hsp => ⟨_, hb cdv A outer s H E hr, body_read hsp⟩
theorem has_of {P : Program} {w : World} {K : PySem.W.Frag} {mg : Str → Option Value} {base : Heap} {x : Str} {st : Stmt} {ps N : List Str} {k : Nat} {mb : MS} {n nl : Nat} (Df : Df K mg x st ps) (Sc : FnScope N ps (defScope st)) (hn : ps.length = n) (hl : N.length = nl)
    (hb : ∀ (f : Addr) (cdv : Value) (A : Around) (outer : List Env) (s : Shared) (H : Hp) (E : XK), Room k (A.deeper (PyProof.Rows.envOfC x (defScope st) s.heap.objs.size f cdv)) →
      CSs (cxOf CX0 P w K mg base N x (defScope st) f cdv A outer s H E).nox (defBody st) mb) : Has P w K mg base x ps (k + 1) (spF K mg (fnOf n nl mb)) := by
  obtain ⟨f, fd, F, b, m⟩ := Df.ex
  exact ⟨f, fd, fn_sim F Sc hn hl (fun cdv => hb f cdv), b, F.kp, m⟩
/-- the law itself -/
theorem law_of {P : Program} {w : World} {K : PySem.W.Frag} {mg : Str → Option Value} {base : Heap} {f : Addr} {fd : FuncData} {k : Nat} {mf : MF} (F : FnOk P w K mg base CX0 k f fd ["script"] (spF K mg mf))
    (h : ∀ ns : List Int, ns.length ≤ 63 → ∃ S', (mf [.lst (ns.map D.int)]).run [] = .ok (.v (.bl true)) S') :
    FnOk P w K mg base CX0 k f fd ["script"] (fun vs H Q _ => ∃ (a : Addr) (ns : List Int), vs = [.ref a] ∧ SqL K H a (ns.map V.int) ∧ ns.length ≤ 63 ∧ TabsOk H ∧ ∀ H', Q (.bl true) H') := by
  refine F.imp fun vs H Q E ⟨a, ns, e, hS, hn, tb, q⟩ => ?_
  subst e
  obtain ⟨S', h'⟩ := h ns hn
  refine ⟨fun _ => .free, [.lst (ns.map D.int)], _, S', ⟨fun a ha => absurd rfl ha, tb⟩, ⟨_, _, rfl, ⟨a, _, rfl, hS, repAll_ints ns⟩, rfl⟩, h', fun O' v H' _ _ _ rr _ => ?_⟩
  cases (show v = .bl true from rr)
  exact q H'
end L3

set_option Elab.async false
set_option linter.all false
set_option maxRecDepth 100000
set_option maxHeartbeats 1000000
namespace L3
open PySem PySem.Spec L2
variable [L2.TabP]
omit [L2.TabP] in
theorem df_mk {K : PySem.W.Frag} {h : Heap} {mg : Str → Option Value} {x : Str} {st : Stmt} {f : Addr} {ps : List Str} {od an : Option Addr} {sl : Array (Option Value)} {oc kV dc pm cd ct : Value} (X : K.In h) (G : h.Ns mainGlobals mg)
    (a : PySem.W.nsIn K mainGlobals x = some (some (.ref f))) (l : K.lookup f = some ⟨oc, od, .func (PySem.W.fnOf x x (defArgs st) (defBody st) (defScope st) .none kV dc pm an cd ct), sl⟩) (c : PySem.W.codeIn K cd x = true) (k : PySem.W.keepIn K (.ref f) = true)
    (hb : ∀ (kV doc pm : Value) (an : Option Addr) (cdv ct : Value) (us : List Value), us.length = ps.length → bindArgs (PySem.W.fnOf x x (defArgs st) (defBody st) (defScope st) .none kV doc pm an cdv ct) ⟨us, []⟩ = pure (ps.zip us)) : Df K mg x st ps :=
  ⟨f, _, fun_mk (st := st) l c k, (fun_mk (st := st) l c k).binds hb, PySem.W.mg_of X G a⟩
abbrev spLaw (K : PySem.W.Frag) : Sp := fun vs H Q _ => ∃ (a : Addr) (ns : List Int), vs = [.ref a] ∧ SqL K H a (ns.map V.int) ∧ ns.length ≤ 63 ∧ TabsOk H ∧ ∀ H', Q (.bl true) H'
theorem all_mk {l : PySem.W.OpenLaw} {w : World} {K : PySem.W.Frag} {mg : Str → Option Value} {fa : Addr} {k : Nat} {st : Stmt} {mf : MF} (hfa : mg "law" = some (.ref fa)) (Dl : Df K mg "law" st ["script"])
    (hb : ∀ (kV doc pm : Value) (an : Option Addr) (cdv ct v : Value), bindArgs (PySem.W.fnOf "law" "law" (defArgs st) (defBody st) (defScope st) .none kV doc pm an cdv ct) ⟨[v], []⟩ = pure [(("script" : Str), v)])
    (ht : ∀ ns : List Int, ns.length ≤ 63 → ∃ S', (mf [.lst (ns.map D.int)]).run [] = .ok (.v (.bl true)) S')
    (ok : ∀ (base : Heap) (f : Addr) (fd : FuncData), Fun K "law" "law" st f fd → FnOk l.prog w K mg base CX0 k f fd ["script"] (spF K mg mf)) :
    ∃ fd : FuncData, (∀ (s : Shared) (v : Value), BindsTo s fd ⟨[v], []⟩ [("script", v)]) ∧ ∀ base : Heap, K.In base → base.Ns mainGlobals mg → FnOk l.prog w K mg base CX0 k fa fd ["script"] (spLaw K) := by
  obtain ⟨f, fd, F, b, m⟩ := Dl.ex
  have e : Value.ref fa = Value.ref f := Option.some.inj (hfa.symm.trans m)
  cases e
  refine ⟨fd, fun s v => ?_, fun base _ _ => law_of (ok base fa fd F) ht⟩
  obtain ⟨oc, od, kV, doc, pm, an, cdv, ct, osl, rfl, lk, hcd⟩ := F.ex
  exact .of_eq (hb kV doc pm an cdv ct v)
theorem walk {l : PySem.W.OpenLaw} {q : Program} {k : Nat} {loose : List Str} {XP : (Str → Option Value) → Heap → Prop} {YP : World → Heap → Prop} {d : DefRec} {K : Params → PySem.W.Frag} (hn : l.most = some 63) (hdf : d.params.defaults = []) (hr : Room k callerA) (hT : ∀ P, ¬ TabP.tp P)
    (hY : ∀ (w : World) (h : Heap), YP w h → (K w.params).In h)
    (F : ∀ (w : World) (mg : Str → Option Value) (fa : Addr) (h : Heap), (K w.params).In h → h.Ns mainGlobals mg → mg d.name = some (.ref fa) →
      ∃ fd : FuncData, (∀ (s : Shared) (u : Value), BindsTo s fd ⟨[u], []⟩ [("script", u)]) ∧ ∀ base : Heap, (K w.params).In base → base.Ns mainGlobals mg → FnOk l.prog w (K w.params) mg base CX0 k fa fd ["script"] (spLaw (K w.params))) :
    PySem.W.WalkO q loose XP YP l.row.toRowW d [] (fun f vs => PySem.call f vs) :=
  L2.walk_of (n := 63) (k := k) (x := "script") (CX := fun _ => CX0) (sp := fun w => spLaw (K w.params)) hn (by decide) hdf hr hY F (fun _ _ a ns hl _ hS => ⟨a, ns, rfl, hS, hl, fun P hP => (hT P hP).elim, fun _ => rfl⟩) fun _ _ _ _ _ z => z
end L3

set_option Elab.async false
set_option linter.all false
set_option maxRecDepth 100000
set_option maxHeartbeats 1000000
namespace L3
open PySem PySem.Spec L2
variable [L2.TabP]
/-! ### big numbers -/
/-- 2 to the 1000 -/
abbrev BIG : Nat := 10715086071862673209484250490600018105614048117055336074437503883703510511249361224931983788156958581275946729175531468251871452856923140435984577574698574803934567774824230985421074605062371141877954182153046474983581941267398767559165543946077062914571196477686542167660429831652624386837205668069376
omit [L2.TabP] in
theorem big_eq : BIG = 2 ^ 1000 := by decide +kernel
omit [L2.TabP] in
theorem natBits {i : Int} (h : i.natAbs < BIG) : Builtin.Int.intBits i ≤ 1000 := by
  unfold Builtin.Int.intBits
  split
  · exact Nat.zero_le _
  · rename_i hz
    have : i.natAbs.log2 < 1000 := (Nat.log2_lt (by simpa using hz)).mpr (big_eq ▸ h)
    omega
def CMulB (i j : Int) : Prop := (-(2 ^ 64) < i ∧ i < 2 ^ 64) ∨ (-(2 ^ 64) < j ∧ j < 2 ^ 64) ∨ (i.natAbs < BIG ∧ j.natAbs < BIG)
omit [L2.TabP] in
theorem CMulB.ok {i j : Int} (h : CMulB i j) : IntMulOk i j := by
  rcases h with h | h | h
  · exact (show CMul i j from .inl h).ok
  · exact (show CMul i j from .inr h).ok
  · have h1 := natBits h.1
    have h2 := natBits h.2
    have hb : Builtin.Int.intTooBig (Builtin.Int.intBits i + Builtin.Int.intBits j) = false := by
      unfold Builtin.Int.intTooBig
      refine decide_eq_false ?_
      have : (2000 : Int) ≤ ((bitsLine : Nat) : Int) := by decide
      omega
    unfold IntMulOk
    rw [hb]
    simp
instance (i j : Int) : Decidable (CMulB i j) := by unfold CMulB; exact inferInstance
theorem op_mulB {X : Cx} : OpR X (binaryOp .Mult) (rI CMulB fun i j => .int (i * j)) := opI fun _ _ _ _ _ _ _ hc q => PyProof.Rows.mul_int q hc.ok
abbrev oMulB := oI CMulB (· * ·)
theorem bMulB {X : Cx} : Bin X.K X.mg (rI CMulB fun i j => .int (i * j)) oMulB := bin_I fun _ _ h => h
def CDivB (_ j : Int) : Prop := 0 < j ∧ j.natAbs < BIG
instance (i j : Int) : Decidable (CDivB i j) := by unfold CDivB; exact inferInstance
theorem op_fdivB {X : Cx} : OpR X (binaryOp .FloorDiv) (rI CDivB fun i j => .int (i / j)) := opI fun i j _ _ _ _ _ hc q => by
  have h1 : (0 : Int) < j := hc.1
  have h2 : j.natAbs < BIG := hc.2
  refine PyProof.Rows.floordiv_int (by omega) (by rw [Int.fdiv_eq_ediv_of_nonneg i (by omega)]; exact q) (.inl (PyProof.noPylong_of_log2 ?_))
  have : j.natAbs.log2 < 1000 := (Nat.log2_lt (by omega)).mpr (big_eq ▸ h2)
  omega
abbrev oDivB := oI CDivB (· / ·)
theorem bDivB {X : Cx} : Bin X.K X.mg (rI CDivB fun i j => .int (i / j)) oDivB := bin_I fun _ _ h => h
def oBits : R → M R
  | .v (.int i) => pure (.v (.int (Builtin.Int.intBits i : Nat)))
  | _ => bad
section
variable {X : Cx} {a : Expr} {ma : ME} {apos cpos : Pos}
end
/-- the built-in names that the text leaves as they are -/
structure Bl3 (mg : Str → Option Value) : Prop where
  len : mg "len" = none
  range : mg "range" = none
  isinstance : mg "isinstance" = none
  max : mg "max" = none
  min : mg "min" = none
  any : mg "any" = none
  all : mg "all" = none
  int' : mg "int" = none
  bool' : mg "bool" = none
  list' : mg "list" = none
  tuple' : mg "tuple" = none
  str' : mg "str" = none
  abs : mg "abs" = none
  sorted : mg "sorted" = none
  sum : mg "sum" = none
  zip : mg "zip" = none
  enumerate : mg "enumerate" = none
  reversed : mg "reversed" = none
  set' : mg "set" = none
end L3

set_option Elab.async false
set_option linter.all false
set_option maxRecDepth 100000
set_option maxHeartbeats 1000000
namespace L3
open PySem PySem.Spec L2
/-! ### evaluation by simp -/
@[simp] theorem e_bad {α β : Type} (f : α → M β) : (bad >>= f) = bad := rfl
@[simp] theorem e_chk {p : Prop} [Decidable p] : chk p = if p then pure () else bad := rfl
@[simp] theorem e_var {i : Nat} {σ : En} : cVar i σ = match σ[i]? with
  | some (.val d) => pure (.v d)
  | some (.ow _ xs) => pure (.mv xs)
  | some (.vw xs) => pure (.vw xs)
  | some (.dct kvs) => pure (.dv kvs)
  | some (.vd kvs) => pure (.dv kvs)
  | _ => bad := rfl
@[simp] theorem e_K {d : D} {σ : En} : cK d σ = pure (.v d) := rfl
@[simp] theorem e_2 {f : R → R → M R} {a b : ME} {σ : En} : c2 f a b σ = (do let x ← a σ; let y ← b σ; f x y) := rfl
@[simp] theorem e_1 {f : R → M R} {a : ME} {σ : En} : c1 f a σ = (do let x ← a σ; f x) := rfl
@[simp] theorem e_tru {b : Bool} : R.tru (.v (.bl b)) = pure b := rfl
@[simp] theorem e_T {m : ME} {σ : En} : cT m σ = (do let x ← m σ; x.tru) := rfl
@[simp] theorem e_3 {f g : R → R → M R} {a b c : ME} {σ : En} : c3 f g a b c σ = (do
  let x ← a σ
  let y ← b σ
  let z ← f x y
  let t ← z.tru
  if t = true then do
    let w ← c σ
    g y w
  else pure (.v (.bl false))) := rfl
@[simp] theorem e_and {a b : ME} {σ : En} : cAnd a b σ = (do
  let x ← a σ
  let t ← x.tru
  if t = true then b σ else pure (.v (.bl false))) := rfl
@[simp] theorem e_or {a b : ME} {σ : En} : cOr a b σ = (do
  let x ← a σ
  let t ← x.tru
  if t = true then pure (.v (.bl true)) else b σ) := rfl
@[simp] theorem e_not {a : ME} {σ : En} : cNot a σ = (do
  let x ← a σ
  let t ← x.tru
  pure (.v (.bl (!t)))) := rfl
@[simp] theorem e_andM {a b : En → M Bool} {σ : En} : tAndM a b σ = (do
  let t ← a σ
  if t = true then b σ else pure false) := rfl
@[simp] theorem e_orM {a b : En → M Bool} {σ : En} : tOrM a b σ = (do
  let t ← a σ
  if t = true then pure true else b σ) := rfl
@[simp] theorem e_notM {a : En → M Bool} {σ : En} : tNotM a σ = (do
  let t ← a σ
  pure (!t)) := rfl
@[simp] theorem e_if {t : En → M Bool} {a b : ME} {σ : En} : cIf t a b σ = (do
  let t ← t σ
  if t = true then a σ else b σ) := rfl
@[simp] theorem e_I0 {g : Int → Int → Int} {i j : Int} : oI0 g (.v (.int i)) (.v (.int j)) = pure (.v (.int (g i j))) := rfl
@[simp] theorem e_I {C : Int → Int → Prop} [∀ i j, Decidable (C i j)] {g : Int → Int → Int} {i j : Int} : oI C g (.v (.int i)) (.v (.int j)) = if C i j then pure (.v (.int (g i j))) else bad := rfl
@[simp] theorem e_B {g : Int → Int → Bool} {i j : Int} : oB g (.v (.int i)) (.v (.int j)) = pure (.v (.bl (g i j))) := rfl
@[simp] theorem e_neg {i : Int} : oNeg (.v (.int i)) = pure (.v (.int (-i))) := rfl
@[simp] theorem e_bits {i : Int} : oBits (.v (.int i)) = pure (.v (.int (Builtin.Int.intBits i : Nat))) := rfl
@[simp] theorem e_nil {σ : En} : cNil σ = pure [] := rfl
@[simp] theorem e_cons {m : ME} {ms : MA} {σ : En} : cCons m ms σ = (do
  let x ← m σ
  let xs ← ms σ
  pure (x :: xs)) := rfl
@[simp] theorem e_datv {d : D} : R.dat (.v d) = pure d := rfl
@[simp] theorem e_datf {xs : List D} : R.dat (.fr xs) = pure (.lst xs) := rfl
@[simp] theorem e_dats0 : dats [] = pure [] := rfl
@[simp] theorem e_dats {r : R} {rs : List R} : dats (r :: rs) = (do
    let d ← r.dat
    let ds ← dats rs
    pure (d :: ds)) := rfl
@[simp] theorem e_tup {ms : MA} {σ : En} : cTup ms σ = (do
  let rs ← ms σ
  let ds ← dats rs
  chk (ds.length ≤ 1000)
  pure (.v (.tup ds))) := rfl
@[simp] theorem e_lst {ms : MA} {σ : En} : cLst ms σ = (do
  let rs ← ms σ
  let ds ← dats rs
  chk (ds.length ≤ 1000)
  pure (.fr ds)) := rfl
@[simp] theorem e_cB {f : List R → M R} {ms : MA} {σ : En} : cB f ms σ = (do
  let rs ← ms σ
  f rs) := rfl
@[simp] theorem e_lisv {xs : List D} : R.lis (.v (.lst xs)) = some xs := rfl
@[simp] theorem e_lisf {xs : List D} : R.lis (.fr xs) = some xs := rfl
@[simp] theorem e_lisw {xs : List D} : R.lis (.vw xs) = some xs := rfl
@[simp] theorem e_lism {xs : List D} : R.lis (.mv xs) = some xs := rfl
@[simp] theorem e_seqv {xs : List D} : R.seq (.v (.lst xs)) = some xs := rfl
@[simp] theorem e_seqt {xs : List D} : R.seq (.v (.tup xs)) = some xs := rfl
@[simp] theorem e_seqf {xs : List D} : R.seq (.fr xs) = some xs := rfl
@[simp] theorem e_seqw {xs : List D} : R.seq (.vw xs) = some xs := rfl
@[simp] theorem e_seqm {xs : List D} : R.seq (.mv xs) = some xs := rfl
@[simp] theorem e_ownv {xs : List D} : R.own (.v (.lst xs)) = some xs := rfl
@[simp] theorem e_ownf {xs : List D} : R.own (.fr xs) = some xs := rfl
@[simp] theorem e_ownm {xs : List D} : R.own (.mv xs) = some xs := rfl
@[simp] theorem e_argv {d : D} : R.arg (.v d) = d := rfl
@[simp] theorem e_argf {xs : List D} : R.arg (.fr xs) = .lst xs := rfl
@[simp] theorem e_argw {xs : List D} : R.arg (.vw xs) = .lst xs := rfl
@[simp] theorem e_argm {xs : List D} : R.arg (.mv xs) = .lst xs := rfl
@[simp] theorem e_len {x : R} : fLen [x] = match x.seq with
    | some xs => pure (.v (.int (xs.length : Nat)))
    | none => bad := rfl
@[simp] theorem e_kn : R.kind (.v .non) = some "NoneType" := rfl
@[simp] theorem e_kb {b : Bool} : R.kind (.v (.bl b)) = some "bool" := rfl
@[simp] theorem e_ki {i : Int} : R.kind (.v (.int i)) = some "int" := rfl
@[simp] theorem e_ks {x : Str} : R.kind (.v (.str x)) = some "str" := rfl
@[simp] theorem e_kt {xs : List D} : R.kind (.v (.tup xs)) = some "tuple" := rfl
@[simp] theorem e_kl {xs : List D} : R.kind (.v (.lst xs)) = some "list" := rfl
@[simp] theorem e_kf {xs : List D} : R.kind (.fr xs) = some "list" := rfl
@[simp] theorem e_kw {xs : List D} : R.kind (.vw xs) = some "list" := rfl
@[simp] theorem e_km {xs : List D} : R.kind (.mv xs) = some "list" := rfl
@[simp] theorem e_isi {x : R} {n : String} : fIsi [x, .v (.ty n)] = match x.kind with
    | some t => if n ∈ ["int", "bool", "tuple", "list", "str"] then pure (.v (.bl (isiB t n))) else bad
    | none => bad := rfl
@[simp] theorem e_isiB {t n : String} : isiB t n = (t == n || (t == "bool" && n == "int")) := rfl
@[simp] theorem e_2I {g : Int → Int → Int} {i j : Int} : f2I g [.v (.int i), .v (.int j)] = pure (.v (.int (g i j))) := rfl
@[simp] theorem e_abs {i : Int} : fAbs [.v (.int i)] = pure (.v (.int (if i < 0 then -i else i))) := rfl
@[simp] theorem e_any {x : R} : fAny [x] = match x.lis.bind bls with
    | some bs => pure (.v (.bl (bs.any id)))
    | none => bad := rfl
@[simp] theorem e_all {x : R} : fAll [x] = match x.lis.bind bls with
    | some bs => pure (.v (.bl (bs.all id)))
    | none => bad := rfl
theorem bls_map {α : Type} (p : α → Bool) : ∀ xs : List α, bls (xs.map fun x => D.bl (p x)) = some (xs.map p)
  | [] => rfl
  | x :: xs => by rw [List.map_cons, List.map_cons, bls, bls_map p xs]; rfl
@[simp] theorem e_inti {i : Int} : fInt [.v (.int i)] = pure (.v (.int i)) := rfl
@[simp] theorem e_intb {b : Bool} : fInt [.v (.bl b)] = pure (.v (.int (if b then 1 else 0))) := rfl
@[simp] theorem e_list {x : R} : fList [x] = match x.seq with
    | some xs => pure (.fr xs)
    | none => bad := rfl
@[simp] theorem e_tuple {x : R} : fTuple [x] = match x.seq with
    | some xs => pure (.v (.tup xs))
    | none => bad := rfl
@[simp] theorem e_ixt {xs : List D} {i : Int} : oIx (.v (.tup xs)) (.v (.int i)) = match atI xs i with
      | some d => pure (.v d)
      | none => bad := rfl
@[simp] theorem e_ixl {xs : List D} {i : Int} : oIx (.v (.lst xs)) (.v (.int i)) = match atI xs i with
      | some d => pure (.v d)
      | none => bad := rfl
@[simp] theorem e_ixf {xs : List D} {i : Int} : oIx (.fr xs) (.v (.int i)) = match atI xs i with
      | some d => pure (.v d)
      | none => bad := rfl
@[simp] theorem e_ixw {xs : List D} {i : Int} : oIx (.vw xs) (.v (.int i)) = match atI xs i with
      | some d => pure (.v d)
      | none => bad := rfl
@[simp] theorem e_ixm {xs : List D} {i : Int} : oIx (.mv xs) (.v (.int i)) = match atI xs i with
      | some d => pure (.v d)
      | none => bad := rfl
theorem at_k {α : Type} {xs : List α} (k : Nat) {v : α} (h : xs[k]? = some v) : atI xs (k : Int) = some v := atI_nat h
@[simp] theorem e_at0 {α : Type} {x : α} {xs : List α} : atI (x :: xs) 0 = some x := at_k 0 rfl
@[simp] theorem e_at1 {α : Type} {x y : α} {xs : List α} : atI (x :: y :: xs) 1 = some y := at_k 1 rfl
@[simp] theorem e_call {mf : MF} {ms : MA} {σ : En} : cCall mf ms σ = (do
  let rs ← ms σ
  mf (rs.map R.arg)) := rfl
@[simp] theorem e_pass {σ : En} : cPass σ = pure (.nx σ) := rfl
@[simp] theorem e_brk {σ : En} : cBrk σ = pure (.bk σ) := rfl
@[simp] theorem e_cnt {σ : En} : cCnt σ = pure (.ct σ) := rfl
@[simp] theorem e_retN {σ : En} : cRetN σ = pure (.rt (.v .non)) := rfl
@[simp] theorem e_seqS {a b : MS} {σ : En} : cSeq a b σ = (do
  let fl ← a σ
  match fl with
  | .nx σ' => b σ'
  | fl => pure fl) := rfl
@[simp] theorem e_ret {m : ME} {σ : En} : cRet m σ = (do
  let r ← m σ
  match r with
  | .v d => pure (.rt (.v d))
  | .fr xs => pure (.rt (.fr xs))
  | _ => bad) := rfl
@[simp] theorem e_retO {i : Nat} {σ : En} : cRetO i σ = match σ[i]? with
  | some (.ow false xs) => pure (.rt (.fr xs))
  | _ => bad := rfl
@[simp] theorem e_ifS {t : En → M Bool} {a b : MS} {σ : En} : cIfS t a b σ = (do
  let t ← t σ
  if t = true then a σ else b σ) := rfl
@[simp] theorem e_drop {m : ME} {σ : En} : cDrop m σ = (do
  let _ ← m σ
  pure (.nx σ)) := rfl
@[simp] theorem e_set {i : Nat} {m : ME} {σ : En} : cSet i m σ = (do
  let r ← m σ
  let d ← r.dat
  pure (.nx (σ.set i (.val d)))) := rfl
@[simp] theorem e_own {i : Nat} {m : ME} {σ : En} : cOwn i m σ = (do
  let r ← m σ
  match r with
  | .fr xs => pure (.nx (σ.set i (.ow false xs)))
  | _ => bad) := rfl
@[simp] theorem e_mut {i : Nat} {f : List D → List R → M (R × List D)} {ms : MA} {σ : En} : cMut i f ms σ = (do
  let rs ← ms σ
  match σ[i]? with
  | some (.ow p xs) => do
    let (r, ys) ← f xs rs
    pure (r, σ.set i (.ow p ys))
  | _ => bad) := rfl
@[simp] theorem e_mutS {i : Nat} {f : List D → List R → M (R × List D)} {ms : MA} {σ : En} : cMutS i f ms σ = (do
  let (_, σ') ← cMut i f ms σ
  pure (.nx σ')) := rfl
@[simp] theorem e_mutSet {j i : Nat} {f : List D → List R → M (R × List D)} {ms : MA} {σ : En} : cMutSet j i f ms σ = (do
  let (r, σ') ← cMut i f ms σ
  let d ← r.dat
  pure (.nx (σ'.set j (.val d)))) := rfl
@[simp] theorem e_append {xs : List D} {r : R} : uAppend xs [r] = (do
    let d ← r.dat
    chk (xs.length < sizeLine)
    pure (.v .non, xs ++ [d])) := rfl
@[simp] theorem e_extend {xs : List D} {r : R} : uExtend xs [r] = match r.own with
    | some ys => do
      chk (xs.length + ys.length ≤ sizeLine)
      pure (.v .non, xs ++ ys)
    | none => bad := rfl
@[simp] theorem e_for {i : Nat} {it : MI} {b : MS} {σ : En} : cFor i it b σ = (do
  let ds ← it σ
  fLoop (fun d σ => b (σ.set i (.val d))) ds σ) := rfl
@[simp] theorem e_iT {m : ME} {σ : En} : iT m σ = (do
  let r ← m σ
  match r with
  | .v (.tup xs) => pure xs
  | _ => bad) := rfl
@[simp] theorem e_iL {m : ME} {σ : En} : iL m σ = (do
  let r ← m σ
  match r with
  | .v (.lst xs) => pure xs
  | .fr xs => pure xs
  | .vw xs => pure xs
  | _ => bad) := rfl
@[simp] theorem e_iLc {m : ME} {σ : En} : iLc m σ = (do
  let r ← m σ
  match r.lis with
  | some xs => pure xs
  | none => bad) := rfl
@[simp] theorem e_iR1 {m : MA} {σ : En} : iR1 m σ = (do
  let rs ← m σ
  match rs with
  | [.v (.int j)] => if -(2 ^ 62) ≤ j ∧ j < 2 ^ 62 then pure (rngD 0 j.toNat) else bad
  | _ => bad) := rfl
@[simp] theorem e_iR2 {m : MA} {σ : En} : iR2 m σ = (do
  let rs ← m σ
  match rs with
  | [.v (.int i), .v (.int j)] => if -(2 ^ 62) ≤ i ∧ i < 2 ^ 62 ∧ -(2 ^ 62) ≤ j ∧ j < 2 ^ 62 then pure (rngD i (j - i).toNat) else bad
  | _ => bad) := rfl
@[simp] theorem e_sl {a : ME} {lo hi : MO} {σ : En} : cSl a lo hi σ = (do
  let x ← a σ
  let l ← lo σ
  let h ← hi σ
  oSl x l h) := rfl
@[simp] theorem e_noPart {σ : En} : cNoPart σ = pure none := rfl
@[simp] theorem e_part {m : ME} {σ : En} : cPart m σ = (do
  let r ← m σ
  match r with
  | .v (.int i) => pure (some i)
  | _ => bad) := rfl
@[simp] theorem e_slf {xs : List D} {l h : Option Int} : oSl (.fr xs) l h = pure (.fr (cutD xs l h)) := rfl
@[simp] theorem e_slw {xs : List D} {l h : Option Int} : oSl (.vw xs) l h = pure (.fr (cutD xs l h)) := rfl
@[simp] theorem e_slm {xs : List D} {l h : Option Int} : oSl (.mv xs) l h = pure (.fr (cutD xs l h)) := rfl
@[simp] theorem e_sll {xs : List D} {l h : Option Int} : oSl (.v (.lst xs)) l h = pure (.fr (cutD xs l h)) := rfl
@[simp] theorem e_slt {xs : List D} {l h : Option Int} : oSl (.v (.tup xs)) l h = if HT.sIx xs.length 0 l = 0 ∧ HT.sIx xs.length xs.length h = xs.length then bad else pure (.v (.tup (cutD xs l h))) := rfl
@[simp] theorem e_comp {n : Nat} {cap : List Nat} {it : MI} {t : En → M Bool} {el : ME} {σ : En} : cComp n cap it t el σ = (do
  let ds ← it σ
  chk (ds.length < sizeLine)
  let xs ← kLoop t el (cpEn n cap σ) ds
  pure (.fr xs)) := rfl
@[simp] theorem e_cpEn {n : Nat} {cap : List Nat} {σ : En} : cpEn n cap σ = List.replicate n .emp ++ cap.map fun k => cpSlot σ[k]? := rfl
@[simp] theorem e_cpv {d : D} : cpSlot (some (.val d)) = .val d := rfl
@[simp] theorem e_cpo {p : Bool} {xs : List D} : cpSlot (some (.ow p xs)) = .vw xs := rfl
@[simp] theorem e_cpw {xs : List D} : cpSlot (some (.vw xs)) = .vw xs := rfl
@[simp] theorem e_yes {σ : En} : tYes σ = pure true := rfl
@[simp] theorem e_isN {x : R} : oIsN x (.v .non) = pure (.v (.bl x.isN)) := rfl
@[simp] theorem e_notN {x : R} : oNotN x (.v .non) = pure (.v (.bl (!x.isN))) := rfl
@[simp] theorem e_isn : R.isN (.v .non) = true := rfl
@[simp] theorem e_isni {i : Int} : R.isN (.v (.int i)) = false := rfl
@[simp] theorem e_isnt {xs : List D} : R.isN (.v (.tup xs)) = false := rfl
@[simp] theorem e_isnf {xs : List D} : R.isN (.fr xs) = false := rfl
@[simp] theorem e_isns {x : Str} : R.isN (.v (.str x)) = false := rfl
@[simp] theorem e_isB {a b : Bool} : oIsB (.v (.bl a)) (.v (.bl b)) = pure (.v (.bl (decide (a = b)))) := rfl
@[simp] theorem e_notB {a b : Bool} : oNotB (.v (.bl a)) (.v (.bl b)) = pure (.v (.bl (!decide (a = b)))) := rfl
@[simp] theorem e_eqii {i j : Int} : oEq (.v (.int i)) (.v (.int j)) = pure (.v (.bl (i == j))) := rfl
@[simp] theorem e_neii {i j : Int} : oNe (.v (.int i)) (.v (.int j)) = pure (.v (.bl (!(i == j)))) := rfl
theorem e_eq {x y : R} (hx : x.arg.gd 64 = true) (hy : y.arg.gd 64 = true) : oEq x y = pure (.v (.bl (peq x.arg y.arg))) := if_pos ⟨hx, hy⟩
theorem e_ne {x y : R} (hx : x.arg.gd 64 = true) (hy : y.arg.gd 64 = true) : oNe x y = pure (.v (.bl (!peq x.arg y.arg))) := if_pos ⟨hx, hy⟩
@[simp] theorem e_slotl {xs : List D} : slotOf (.lst xs) = .vw xs := rfl
@[simp] theorem e_sloti {i : Int} : slotOf (.int i) = .val (.int i) := rfl
@[simp] theorem e_slott {xs : List D} : slotOf (.tup xs) = .val (.tup xs) := rfl
@[simp] theorem e_slots {x : Str} : slotOf (.str x) = .val (.str x) := rfl
@[simp] theorem e_slotn : slotOf .non = .val .non := rfl
@[simp] theorem e_slotb {b : Bool} : slotOf (.bl b) = .val (.bl b) := rfl
@[simp] theorem e_fn {n N : Nat} {b : MS} {ds : List D} : fnOf n N b ds = if ds.length = n then (do
    let fl ← b (ds.map slotOf ++ List.replicate (N - n) .emp)
    match fl with
    | .rt (.v d) => pure (.v d)
    | .rt (.fr xs) => pure (.fr xs)
    | .nx _ => pure (.v .non)
    | _ => bad) else bad := rfl
/-! loops -/
theorem fLoop_inv {b : D → MS} (I : Nat → En → Prop) : ∀ (ds : List D) (k : Nat) (σ : En), I k σ → (∀ i d σ, ds[i]? = some d → I (k + i) σ → ∃ σ', (b d σ = pure (.nx σ') ∨ b d σ = pure (.ct σ')) ∧ I (k + i + 1) σ') →
    ∃ σ', fLoop b ds σ = pure (.nx σ') ∧ I (k + ds.length) σ'
  | [], k, σ, h0, _ => ⟨σ, rfl, h0⟩
  | d :: ds, k, σ, h0, step => by
    obtain ⟨σ1, e, h1⟩ := step 0 d σ rfl h0
    obtain ⟨σ2, e2, h2⟩ := fLoop_inv I ds (k + 1) σ1 h1 fun i d' σ' hd hI => by
      have := step (i + 1) d' σ' (by simpa using hd) (by rw [show k + (i + 1) = k + 1 + i by omega]; exact hI)
      rw [show k + (i + 1) + 1 = k + 1 + i + 1 by omega] at this
      exact this
    refine ⟨σ2, ?_, by rw [List.length_cons, show k + (ds.length + 1) = k + 1 + ds.length by omega]; exact h2⟩
    show (b d σ >>= _) = _
    rcases e with e | e <;> rw [e] <;> exact e2
/-- a loop by what holds between two turns -/
theorem for_inv {b : D → MS} {ds : List D} {σ : En} (I : Nat → En → Prop) (h0 : I 0 σ) (step : ∀ i d σ, ds[i]? = some d → I i σ → ∃ σ', (b d σ = pure (.nx σ') ∨ b d σ = pure (.ct σ')) ∧ I (i + 1) σ') :
    ∃ σ', fLoop b ds σ = pure (.nx σ') ∧ I ds.length σ' := by
  obtain ⟨σ', e, h⟩ := fLoop_inv I ds 0 σ h0 fun i d σ hd hI => by
    rw [Nat.zero_add] at hI ⊢
    exact step i d σ hd hI
  exact ⟨σ', e, by rw [Nat.zero_add] at h; exact h⟩
/-- a comprehension by what its turn is worth -/
theorem comp_eq {t : En → M Bool} {el : ME} {σ : En} (p : D → Bool) (g : D → D) : ∀ ds : List D, (∀ d ∈ ds, t (σ.set 0 (.val d)) = pure (p d)) → (∀ d ∈ ds, p d = true → (el (σ.set 0 (.val d)) >>= R.dat) = pure (g d)) →
    kLoop t el σ ds = pure ((ds.filter p).map g)
  | [], _, _ => rfl
  | d :: ds, h1, h2 => by
    have ih := comp_eq p g ds (fun x hx => h1 x (List.mem_cons_of_mem _ hx)) fun x hx => h2 x (List.mem_cons_of_mem _ hx)
    unfold kLoop
    rw [h1 d List.mem_cons_self, pure_bind]
    cases e : p d with
    | false => rw [if_neg Bool.false_ne_true, ih, List.filter_cons_of_neg (by rw [e]; exact Bool.false_ne_true)]
    | true =>
      have h := h2 d List.mem_cons_self e
      rw [if_pos rfl, ← bind_assoc, h, pure_bind, ih, pure_bind, List.filter_cons_of_pos e]
      rfl
end L3

set_option Elab.async false
set_option linter.all false
set_option maxRecDepth 100000
set_option maxHeartbeats 1000000
namespace L3
open PySem PySem.Spec L2
/-! ### what the laws' small helpers are worth -/
theorem at_ints {ns : List Int} {k : Nat} (h : k < ns.length) : atI (ns.map D.int) (k : Int) = some (.int (ns.getD k 0)) := by
  refine at_k k ?_
  rw [List.getElem?_map, List.getElem?_eq_getElem h]
  simp [List.getD_eq_getElem?_getD, h]
theorem mod_lt {a b : Int} (h : 0 < b) : 0 ≤ a % b ∧ a % b < b := ⟨Int.emod_nonneg _ (by omega), Int.emod_lt_of_pos _ h⟩
theorem lt_big {i : Int} (h1 : -(10 ^ 200) < i) (h2 : i < 10 ^ 200) : i.natAbs < BIG := by
  unfold BIG
  omega
theorem divB {i j : Int} (h1 : 0 < j) (h2 : j < 10 ^ 200) : CDivB i j := ⟨h1, lt_big (by omega) h2⟩
end L3

set_option Elab.async false
set_option linter.all false
set_option maxRecDepth 100000
set_option maxHeartbeats 1000000
namespace L3
open PySem PySem.Spec L2
variable [L2.TabP]
/-! ### a def that changes the list that is its first parameter -/
structure GoA (a : Addr) (O O' : Ow) (H H' : Hp) : Prop where
  cells : ∀ b o, b ≠ a → H b = some o → (h : nT o := by exact trivial) → H' b = some o
  tb : ∀ b ps, H b = some (.tbl ps) → ∃ ps', H' b = some (.tbl ps')
  gd : TabsOk H → TabsOk H'
  own : ∀ b, b ≠ a → H b ≠ none → O' b = O b
  owa : O' a = O a
section
variable {K : PySem.W.Frag} {mg : Str → Option Value} {O O' : Ow} {H H' : Hp} {a : Addr} {zs : List V}
mutual
theorem Rep.goA (g : GoA a O O' H H') (ho : O a ≠ .free) (hl : H a = some (.lst zs)) : ∀ {d : D} {v : V}, Rep K mg O H d v → Rep K mg O' H' d v
  | .non, _, h => h
  | .bl _, _, h => h
  | .int _, _, h => h
  | .str _, _, h => h
  | .tup _, _, h => by
    obtain ⟨b, ys, q, t, r⟩ := h
    refine ⟨b, ys, q, ?_, RepAll.goA g ho hl r⟩
    rcases t with (t | ⟨o, t⟩) | t
    · exact .inl (.inl (g.cells _ _ (ne_of t hl (by intro z; cases z)) t))
    · exact .inl (.inr ⟨o, g.cells _ _ (ne_of t hl (by intro z; cases z)) t⟩)
    · exact .inr t
  | .lst _, _, h => by
    obtain ⟨b, ys, q, t, r⟩ := h
    have nb : b ≠ a := by rintro rfl; exact ho t.2
    exact ⟨b, ys, q, ⟨g.cells _ _ nb t.1, (g.own b nb (by rw [t.1]; intro z; cases z)).trans t.2⟩, RepAll.goA g ho hl r⟩
  | .dic _ _, _, h => h
  | .fn _, _, h => h
  | .ty _, _, h => h
theorem RepAll.goA (g : GoA a O O' H H') (ho : O a ≠ .free) (hl : H a = some (.lst zs)) : ∀ {ds : List D} {ys : List V}, RepAll K mg O H ds ys → RepAll K mg O' H' ds ys
  | [], _, h => h
  | _ :: _, _, h => by obtain ⟨x, r, q, a, b⟩ := h; exact ⟨x, r, q, Rep.goA g ho hl a, RepAll.goA g ho hl b⟩
end
end
abbrev MIO := List D → M (List D)
def ioEnd (σ' : En) : M (List D) := match (σ'[(0 : Nat)]? : Option Slot) with
  | some (.ow true ys) => pure ys
  | _ => bad
def fnIO (n N : Nat) (b : MS) : MIO := fun ds => match ds with
  | .lst xs :: ds' => if ds'.length + 1 = n then do
      let fl ← b (.ow true xs :: ds'.map slotOf ++ List.replicate (N - n) .emp)
      match fl with
      | .nx σ' => ioEnd σ'
      | _ => bad
    else bad
  | _ => bad
def R.noMv : R → Bool
  | .mv _ => false
  | _ => true
def cIO (i : Nat) (mf : MIO) (ms : MA) : MS := fun σ => do
  let rs ← ms σ
  match σ[i]? with
  | some (.ow p xs) => (if rs.all R.noMv = true then (do
      let ys ← mf (.lst xs :: rs.map R.arg)
      pure (.nx (σ.set i (.ow p ys)))) else bad)
  | _ => bad
section
variable {X : Cx} {x y : Str} {ps : List Str} {k i : Nat} {mf : MIO} {p q pos pos' : Pos} {es : List Expr} {ms : MA}
end
/-! ### for x in xs, xs one's own list that the body leaves -/
omit [L2.TabP] in
@[simp] theorem e_noMvv {d : D} : R.noMv (.v d) = true := rfl
omit [L2.TabP] in
@[simp] theorem e_noMvf {xs : List D} : R.noMv (.fr xs) = true := rfl
omit [L2.TabP] in
@[simp] theorem e_noMvw {xs : List D} : R.noMv (.vw xs) = true := rfl
omit [L2.TabP] in
@[simp] theorem e_io {i : Nat} {mf : MIO} {ms : MA} {σ : En} : cIO i mf ms σ = (do
  let rs ← ms σ
  match σ[i]? with
  | some (.ow p xs) => (if rs.all R.noMv = true then (do
      let ys ← mf (.lst xs :: rs.map R.arg)
      pure (.nx (σ.set i (.ow p ys)))) else bad)
  | _ => bad) := rfl
omit [L2.TabP] in
@[simp] theorem e_ioEnd {σ : En} : ioEnd σ = match (σ[(0 : Nat)]? : Option Slot) with
  | some (.ow true ys) => pure ys
  | _ => bad := rfl
omit [L2.TabP] in
@[simp] theorem e_fnIO {n N : Nat} {b : MS} {xs ds : List D} : fnIO n N b (.lst xs :: ds) = if ds.length + 1 = n then (do
      let fl ← b (.ow true xs :: ds.map slotOf ++ List.replicate (N - n) .emp)
      match fl with
      | .nx σ' => ioEnd σ'
      | _ => bad) else bad := rfl
omit [L2.TabP] in
@[simp] theorem e_pop {xs : List D} : uPop xs [] = match xs[xs.length - 1]? with
    | some d => pure (.v d, xs.dropLast)
    | none => bad := rfl
omit [L2.TabP] in
@[simp] theorem e_catL {x y : R} : oCatL x y = match x.own, y.own with
  | some xs, some ys => if xs.length + ys.length ≤ sizeLine then pure (.fr (xs ++ ys)) else bad
  | _, _ => bad := rfl
omit [L2.TabP] in
@[simp] theorem e_catT {xs ys : List D} : oCatT (.v (.tup xs)) (.v (.tup ys)) = if xs.length + ys.length ≤ sizeLine then pure (.v (.tup (xs ++ ys))) else bad := rfl
omit [L2.TabP] in
@[simp] theorem e_while {c : En → M Bool} {b : MS} {σ : En} : cWhile c b σ = wLoop c b wFuel σ := rfl
omit [L2.TabP] in
theorem comp_map {el : ME} {σ : En} (g : D → D) (ds : List D) (h : ∀ d ∈ ds, (el (σ.set 0 (.val d)) >>= R.dat) = pure (g d)) : kLoop tYes el σ ds = pure (ds.map g) := by
  have := comp_eq (t := tYes) (el := el) (σ := σ) (fun _ => true) g ds (fun _ _ => rfl) fun d hd _ => h d hd
  rw [this]
  congr 2
  exact List.filter_eq_self.mpr fun _ _ => rfl
omit [L2.TabP] in
@[simp] theorem s_div {i j : Int} (h1 : 0 < j) (h2 : j < 10 ^ 200) : CDivB i j := divB h1 h2
omit [L2.TabP] in
theorem atI_mem {α : Type} {xs : List α} {i : Int} {v : α} (h : atI xs i = some v) : v ∈ xs := by
  obtain ⟨j, _, e, _⟩ := atI_get h
  exact List.mem_of_getElem? e
omit [L2.TabP] in
theorem atI_some {α : Type} {xs : List α} {i : Int} (h0 : 0 ≤ i) (h1 : i < xs.length) : ∃ v, atI xs i = some v := by
  have hl : i.toNat < xs.length := by omega
  refine ⟨xs[i.toNat], ?_⟩
  have := at_k (xs := xs) i.toNat (v := xs[i.toNat]) (by simp [hl])
  rwa [Int.toNat_of_nonneg h0] at this
omit [L2.TabP] in
theorem cut_mem {α : Type} {xs : List α} {lo hi : Option Int} {v : α} (h : v ∈ cutD xs lo hi) : v ∈ xs := List.mem_of_mem_drop (List.mem_of_mem_take h)
end L3

set_option Elab.async false
set_option linter.all false
set_option maxRecDepth 100000
set_option maxHeartbeats 1000000
namespace L3
open PySem PySem.Spec L2
variable [L2.TabP]
/-! ### a, b = e and for a, b in e -/
def setsD : List Nat → List D → En → En
  | i :: is, d :: ds, σ => setsD is ds (σ.set i (.val d))
  | _, _, σ => σ
def gNames : List Nat → TGs
  | [] => gNil
  | i :: is => gCons (gName i) (gNames is)
def cUnp (is : List Nat) (m : ME) : MS := fun σ => do
  let r ← m σ
  match r with
  | .v (.tup ds) => if ds.length = is.length then pure (.nx (setsD is ds σ)) else bad
  | _ => bad
theorem unp_sim {K : PySem.W.Frag} {mg : Str → Option Value} {O : Ow} {S : Store} {H : Hp} : ∀ {is : List Nat} {ds : List D} {xs : List V} {σ : En} {σV : St} {Q : St → Hp → Prop}, S3 K mg O σ S σV H → RepAll K mg O H ds xs → ds.length = is.length →
    (∀ σV', S3 K mg O (setsD is ds σ) S σV' H → Kp σ (setsD is ds σ) σV σV' → Q σV' H) → gNames is xs σV H Q
  | [], [], xs, σ, σV, Q, st, ra, hl, q => ⟨ra, q σV st (Kp.refl _ _)⟩
  | [], _ :: _, xs, σ, σV, Q, st, ra, hl, q => by cases hl
  | _ :: _, [], xs, σ, σV, Q, st, ra, hl, q => by cases hl
  | i :: is, d :: ds, xs, σ, σV, Q, st, ra, hl, q => by
    obtain ⟨y, r, e, ry, rr⟩ := ra
    refine ⟨y, r, e, ?_⟩
    exact unp_sim (is := is) (st.val ry) rr (by simpa using hl) fun σV' st' k => q σV' st' (Kp.trans (Kp.set fun xs z => by cases z) k)
section
variable {X : Cx} {pos tpos : Pos} {is : List Nat} {e : Expr} {m : ME} {es : List Expr} {k : Nat} {iter : Expr} {it : MI} {body : List Stmt} {b : MS}
theorem pgs_names_cons {i : Nat} {x : Str} {p : Pos} (hN : X.N.Nodup) (hi : X.N[i]? = some x) (hx : Loc X.env.scope x) (h : PGs X es (gNames is)) (hs : (assignEach (.Name x p :: es) X.env).map (·.2) = assign (.Name x p) X.env :: (assignEach es X.env).map (·.2) := by rfl)
    (hf : X.fn x = true ∨ X.env.scope.names.lookup x = some .local := by first | exact .inl rfl | exact .inr rfl | assumption) : PGs X (.Name x p :: es) (gNames (i :: is)) := pgs_cons (pg_name hN hi hx hf) h hs
theorem pgs_names_nil : PGs X [] (gNames []) := pgs_nil
def cForT (is : List Nat) (it : MI) (b : MS) : MS := fun σ => do
  let ds ← it σ
  fLoop (fun d σ => match d with
    | .tup es => if es.length = is.length then b (setsD is es σ) else bad
    | _ => bad) ds σ
end
omit [L2.TabP] in
@[simp] theorem e_unp {is : List Nat} {m : ME} {σ : En} : cUnp is m σ = (do
  let r ← m σ
  match r with
  | .v (.tup ds) => if ds.length = is.length then pure (.nx (setsD is ds σ)) else bad
  | _ => bad) := rfl
omit [L2.TabP] in
@[simp] theorem e_sets {i : Nat} {is : List Nat} {d : D} {ds : List D} {σ : En} : setsD (i :: is) (d :: ds) σ = setsD is ds (σ.set i (.val d)) := rfl
omit [L2.TabP] in
@[simp] theorem e_forT {is : List Nat} {it : MI} {b : MS} {σ : En} : cForT is it b σ = (do
  let ds ← it σ
  fLoop (fun d σ => match d with
    | .tup es => if es.length = is.length then b (setsD is es σ) else bad
    | _ => bad) ds σ) := rfl
end L3

set_option Elab.async false
set_option linter.all false
set_option maxRecDepth 100000
set_option maxHeartbeats 1000000
namespace L3
open PySem PySem.Spec L2
variable [L2.TabP]
/-! ### an own list is lent while a statement runs: looked at only -/
def lendEnd (j : Nat) (p : Bool) (xs : List D) : Fl → M Fl
  | .nx σ' => match (σ'[j]? : Option Slot) with
    | some (.vw _) => pure (.nx (σ'.set j (.ow p xs)))
    | _ => bad
  | .rt r => pure (.rt r)
  | _ => bad
def cLend (j : Nat) (m : MS) : MS := fun σ => match σ[j]? with
  | some (.ow p xs) => do
    let fl ← m (σ.set j (.vw xs))
    lendEnd j p xs fl
  | _ => bad
section
variable {K : PySem.W.Frag} {mg : Str → Option Value} {O : Ow} {H : Hp}
end
omit [L2.TabP] in
@[simp] theorem e_lend {j : Nat} {m : MS} {σ : En} : cLend j m σ = match σ[j]? with
  | some (.ow p xs) => do
    let fl ← m (σ.set j (.vw xs))
    lendEnd j p xs fl
  | _ => bad := rfl
omit [L2.TabP] in
@[simp] theorem e_lendr {j : Nat} {p : Bool} {xs : List D} {r : R} : lendEnd j p xs (.rt r) = pure (.rt r) := rfl
omit [L2.TabP] in
@[simp] theorem e_lendn {j : Nat} {p : Bool} {xs : List D} {σ' : En} : lendEnd j p xs (.nx σ') = match (σ'[j]? : Option Slot) with
    | some (.vw _) => pure (.nx (σ'.set j (.ow p xs)))
    | _ => bad := rfl
end L3

set_option Elab.async false
set_option linter.all false
set_option maxRecDepth 100000
set_option maxHeartbeats 1000000
namespace L2
open PySem PySem.Spec PyProof.Rows
variable [L2.TabP]
/-! ### sum of a list of ints -/
end L2
namespace L3
open PySem PySem.Spec L2
variable [L2.TabP]
def nums : List D → Option (List Int)
  | [] => some []
  | .int b :: r => (nums r).map (b :: ·)
  | _ => none
def fSum : List R → M R
  | [x] => match x.lis.bind nums with
    | some bs => pure (.v (.int bs.sum))
    | none => bad
  | _ => bad
section
variable {K : PySem.W.Frag} {mg : Str → Option Value}
end
omit [L2.TabP] in
@[simp] theorem e_sum {x : R} : fSum [x] = match x.lis.bind nums with
    | some bs => pure (.v (.int bs.sum))
    | none => bad := rfl
end L3

set_option Elab.async false
set_option linter.all false
set_option maxRecDepth 100000
set_option maxHeartbeats 1000000
namespace L3
open PySem PySem.Spec L2
/-! ### the rules over judgements that stay shut -/
section
variable [L2.TabP] (X : Cx)
structure WE (e : Expr) (m : ME) : Prop where
  un : CE X e m
structure WT (e : Expr) (m : En → M Bool) : Prop where
  un : CT X e m
structure WW (e : Expr) (m : En → M Bool) : Prop where
  un : CW X e m
structure WA (e : List Expr) (m : MA) : Prop where
  un : CA X e m
structure WO (e : Option Expr) (m : MO) : Prop where
  un : CO X e m
structure WS (e : Stmt) (m : MS) : Prop where
  un : CS X e m
structure WSs (e : List Stmt) (m : MS) : Prop where
  un : CSs X e m
structure WIc (tg e : Expr) (m : MI) : Prop where
  un : CIc X tg e m
structure WIf (tg e : Expr) (m : MI) : Prop where
  un : CIf X tg e m
structure WFs (e : List Expr) (m : En → M Bool) : Prop where
  un : CFs X e m
end
section
variable [L2.TabP]
variable {X : Cx} {a b c e : Expr} {ma mb mc m : ME} {ta tb : En → M Bool} {pos : Pos}
theorem we_var (i : Nat) {x : Str} {pos : Pos} (hN : X.N[i]? = some x := by rfl) (hv : Vis X.env.scope x := by first | exact Or.inl rfl | exact Or.inr (Or.inl rfl) | exact Or.inr (Or.inr rfl)) (hd : (x == ("__debug__" : Str)) = false := by decide) (hcd : (x == ("__classdict__" : Str)) = false := by decide) : WE X (.Name x pos) (cVar i) := ⟨ce_var i hN hv hd hcd⟩
end
section
variable [L2.TabP]
variable {X : Cx} {e : Expr} {es : List Expr} {m : ME} {ms : MA} {pos : Pos}
theorem wa_cons (ha : WE X e m) (hr : WA X es ms) (hs : starEach (e :: es) X.env = (false, eval e X.env) :: starEach es X.env := by rfl) : WA X (e :: es) (cCons m ms) := ⟨ca_cons ha.un hr.un hs⟩
end
section
variable [L2.TabP]
variable {X : Cx} {a b c e : Expr} {ma mb mc m : ME} {ta tb : En → M Bool} {pos : Pos}
theorem we_int {i j pos} : WE X (.Constant (.int i) j pos) (cK (.int i)) := ⟨ce_int⟩
end
section
variable [L2.TabP]
variable {X : Cx} {e : Expr} {es : List Expr} {m : ME} {ms : MA} {pos : Pos}
theorem wa_nil  : WA X [] cNil := ⟨ca_nil⟩
end
section
variable [L2.TabP]
variable {X : Cx} {a b c e : Expr} {ma mb mc m : ME} {ta tb : En → M Bool} {pos : Pos}
theorem we_op {op : Operator} {r : R2} {f : R → R → M R} (ho : OpR X (binaryOp op) r) (hf : Bin X.K X.mg r f) (ha : WE X a ma) (hb : WE X b mb) : WE X (.BinOp a op b pos) (c2 f ma mb) := ⟨ce_op ho hf ha.un hb.un⟩
end
section
variable [L2.TabP]
variable {X : Cx} {st : Stmt} {rest : List Stmt} {pos : Pos} {a b : MS} {e : Expr} {m : ME}
theorem wss_cons (h1 : WS X st a) (h2 : WSs X rest b) : WSs X (st :: rest) (cSeq a b) := ⟨css_cons h1.un h2.un⟩
end
section
variable [L2.TabP]
variable {X : Cx} {st : Stmt} {rest : List Stmt} {pos : Pos} {a b : MS} {e : Expr} {m : ME}
theorem wss_one (h : WS X st a) : WSs X [st] a := ⟨css_one h.un⟩
end
section
variable [L2.TabP]
variable {X : Cx} {a b c e : Expr} {ma mb mc m : ME} {ta tb : En → M Bool} {pos : Pos}
theorem we_ix {r : R2} {f : R → R → M R} (ho : IxR X r) (hf : Bin X.K X.mg r f) (ha : WE X a ma) (hb : WE X b mb) (hs : PlainIx b) : WE X (.Subscript a b pos) (c2 f ma mb) := ⟨ce_ix ho hf ha.un hb.un hs⟩
end
section
variable [L2.TabP]
variable {X : Cx} {st : Stmt} {rest : List Stmt} {pos : Pos} {a b : MS} {e : Expr} {m : ME}
theorem ws_ret (he : WE X e m) : WS X (.Return (some e) pos) (cRet m) := ⟨cs_ret he.un⟩
end
section
variable [L2.TabP]
variable {X : Cx} {e : Expr} {es : List Expr} {m : ME} {ms : MA} {pos : Pos}
theorem we_tup {x1} (h : WA X es ms) : WE X (.Tuple es x1 pos) (cTup ms) := ⟨ce_tup h.un⟩
end
section
variable [L2.TabP]
variable {X : Cx} {st : Stmt} {rest : List Stmt} {pos : Pos} {a b : MS} {e : Expr} {m : ME}
variable {i : Nat} {x : Str} {pos' : Pos}
theorem ws_set (hN : X.N.Nodup) (hi : X.N[i]? = some x) (hx : Loc X.env.scope x) (he : WE X e m) (hs : swapsWith e (some (.Name x pos')) pos.line X.env = pure false := by rfl) (hf : X.fn x = true ∨ X.env.scope.names.lookup x = some .local := by first | exact .inl rfl | exact .inr rfl | assumption) : WS X (.Assign [.Name x pos'] e pos) (cSet i m) := ⟨cs_set hN hi hx he.un hs hf⟩
end
section
variable [L2.TabP]
variable {X : Cx} {x : Str} {ps : List Str} {k : Nat} {mf : MF} {p pos : Pos} {e : Expr} {es : List Expr} {ms : MA}
theorem we_call (h : Has X.prog X.w X.K X.mg X.base x ps k (spF X.K X.mg mf)) (hr : Room k X.A) (hg : Gl X x) (ha : WA X (e :: es) ms) (hdb : (x == ("__debug__" : Str)) = false := by decide) (he : starEach (e :: es) X.env = (false, eval e X.env) :: starEach es X.env := by rfl) (hpl : (backTo pos (starEach es X.env)).any (·.1) = false := by rfl) : WE X (.Call (.Name x p) (e :: es) [] pos) (cCall mf ms) := ⟨ce_call h hr hg ha.un hdb he hpl⟩
end
section
variable [L2.TabP]
variable {X : Cx} {x : Str} {ps : List Str} {k : Nat} {mf : MF} {p pos : Pos} {e : Expr} {es : List Expr} {ms : MA}
end
section
variable [L2.TabP]
variable {X : Cx} {e : Expr} {es : List Expr} {ms : MA} {pos p : Pos} {x : Str} {id T : String} {r : List V → Hp → VK → Prop} {f : List R → M R}
theorem we_callB (hc : CallR X (.builtin id) r) (hf : BinC X.K X.mg r f) (hg : Gl X x) (hm : X.mg x = none) (hv : bootBuiltins x = some (.builtin id)) (ha : WA X (e :: es) ms) (hn : x ≠ "__name__" := by decide) (hdb : (x == ("__debug__" : Str)) = false := by decide) (he : starEach (e :: es) X.env = (false, eval e X.env) :: starEach es X.env := by rfl) (hpl : (backTo pos (starEach es X.env)).any (·.1) = false := by rfl) : WE X (.Call (.Name x p) (e :: es) [] pos) (cB f ms) := ⟨ce_callB hc hf hg hm hv ha.un hn hdb he hpl⟩
end
section
variable [L2.TabP]
variable {X : Cx} {st : Stmt} {rest : List Stmt} {pos : Pos} {a b : MS} {e : Expr} {m : ME}
theorem ws_if {c : Expr} {A B : List Stmt} {t : En → M Bool} (hc : WT X c t) (ha : WSs X A a) (hb : WSs X B b) : WS X (.If c A B pos) (cIfS t a b) := ⟨cs_if hc.un ha.un hb.un⟩
end
section
variable [L2.TabP]
variable {X : Cx} {st : Stmt} {rest : List Stmt} {pos : Pos} {a b : MS} {e : Expr} {m : ME}
theorem wss_nil  : WSs X [] cPass := ⟨css_nil⟩
end
section
variable [L2.TabP]
variable {X : Cx} {a b c e : Expr} {ma mb mc m : ME} {ta tb : En → M Bool} {pos : Pos}
theorem wt_cmp {op : CmpOp} {r : R2} {f : R → R → M R} (ho : OpR X (compareOp op) r) (hf : Bin X.K X.mg r f) (ha : WE X a ma) (hb : WE X b mb) (hm : behindInMarks op b = false) : WT X (.Compare a [op] [b] pos) (cT (c2 f ma mb)) := ⟨ct_cmp ho hf ha.un hb.un hm⟩
end
section
variable [L2.TabP]
variable {X : Cx} {a b c e : Expr} {ma mb mc m : ME} {ta tb : En → M Bool} {pos : Pos}
variable {rest : List Expr}
theorem wt_val (ha : WE X a ma) (he : ∀ whole, isTrue a X.env whole = (do let v ← whole; standAt a.pos; holding [v] (truthy v)) := by intro _; rfl) : WT X a (cT ma) := ⟨ct_val ha.un he⟩
end
section
variable [L2.TabP]
variable {X : Cx} {a b c e : Expr} {ma mb mc m : ME} {ta tb : En → M Bool} {pos : Pos}
theorem we_k {d : D} {v : V} (h : PE X e (tC v)) (r : ∀ O H, Rep X.K X.mg O H d v) : WE X e (cK d) := ⟨ce_k h r⟩
end
section
variable [L2.TabP]
variable {X : Cx} {e : Expr} {es : List Expr} {m : ME} {ms : MA} {pos : Pos}
theorem we_lst (h : WA X es ms) : WE X (.List es pos) (cLst ms) := ⟨ce_lst h.un⟩
end
section
variable [L2.TabP]
variable {X : Cx} {a b c e : Expr} {ma mb mc m : ME} {ta tb : En → M Bool} {pos : Pos}
theorem we_bl {b j pos} : WE X (.Constant (.bool b) j pos) (cK (.bl b)) := ⟨ce_bl⟩
end
section
variable [L2.TabP]
variable {X : Cx} {a b c e : Expr} {ma mb mc m : ME} {ta tb : En → M Bool} {pos : Pos}
variable {rest : List Expr}
theorem wt_not (ha : WT X a ta) : WT X (.UnaryOp .Not a pos) (tNotM ta) := ⟨ct_not ha.un⟩
end
section
variable [L2.TabP]
variable {X : Cx} {a b c e : Expr} {ma mb mc m : ME} {ta tb : En → M Bool} {pos : Pos}
variable {rest : List Expr}
theorem ww_or (ha : WT X a ta) (hb : WW X (.BoolOp .Or (b :: rest) pos) tb) : WW X (.BoolOp .Or (a :: b :: rest) pos) (tOrM ta tb) := ⟨cw_or ha.un hb.un⟩
end
section
variable [L2.TabP]
variable {X : Cx} {a b c e : Expr} {ma mb mc m : ME} {ta tb : En → M Bool} {pos : Pos}
theorem we_str {x j pos} : WE X (.Constant (.str x) j pos) (cK (.str x)) := ⟨ce_str⟩
end
section
variable [L2.TabP]
variable {X : Cx} {a b c e : Expr} {ma mb mc m : ME} {ta tb : En → M Bool} {pos : Pos}
theorem we_non {j pos} : WE X (.Constant .none j pos) (cK .non) := ⟨ce_non⟩
end
section
variable [L2.TabP]
variable {X : Cx} {a b c e : Expr} {ma mb mc m : ME} {ta tb : En → M Bool} {pos : Pos}
theorem we_cmp {op : CmpOp} {r : R2} {f : R → R → M R} (ho : OpR X (compareOp op) r) (hf : Bin X.K X.mg r f) (ha : WE X a ma) (hb : WE X b mb) (hm : behindInMarks op b = false) : WE X (.Compare a [op] [b] pos) (c2 f ma mb) := ⟨ce_cmp ho hf ha.un hb.un hm⟩
end
section
variable [L2.TabP]
variable {X : Cx} {tg iter : Expr} {it : MI} {i : Nat} {b : MS} {body : List Stmt} {pos tpos : Pos} {x : Str} {c : Expr} {t : En → M Bool}
theorem ws_for (hp : PassesOwn (model X.prog X.w) X.A X.env X.xe) (hc : X.calm = true) (hi : WIf X (.Name x tpos) iter it) (hN : X.N.Nodup) (hx : X.N[i]? = some x) (hl : Loc X.env.scope x) (hb : WSs X body b) (hs : ∀ x, foldedSetIterable iter X.env x = pure x := by intro _; rfl) (hf : X.fn x = true ∨ X.env.scope.names.lookup x = some .local := by first | exact .inl rfl | exact .inr rfl | assumption) : WS X (.For (.Name x tpos) iter body [] pos) (cFor i it b) := ⟨cs_for hp hc hi.un hN hx hl hb.un hs hf⟩
end
section
variable [L2.TabP]
variable {X : Cx} {a b c e : Expr} {ma mb mc m : ME} {ta tb : En → M Bool} {pos : Pos}
variable {rest : List Expr}
theorem we_and (ha : WE X a ma) (hb : WE X (.BoolOp .And (b :: rest) pos) mb) : WE X (.BoolOp .And (a :: b :: rest) pos) (cAnd ma mb) := ⟨ce_and ha.un hb.un⟩
end
section
variable [L2.TabP]
variable {X : Cx} {a b c e : Expr} {ma mb mc m : ME} {ta tb : En → M Bool} {pos : Pos}
variable {rest : List Expr}
end
section
variable [L2.TabP]
variable {X : Cx} {a b c e : Expr} {ma mb mc m : ME} {ta tb : En → M Bool} {pos : Pos}
variable {rest : List Expr}
theorem ww_or1 (ha : WT X a ta) : WW X (.BoolOp .Or [a] pos) ta := ⟨cw_or1 ha.un⟩
end
section
variable [L2.TabP]
variable {X : Cx} {a b c e : Expr} {ma mb mc m : ME} {ta tb : En → M Bool} {pos : Pos}
variable {rest : List Expr}
theorem ww_and (ha : WT X a ta) (hb : WW X (.BoolOp .And (b :: rest) pos) tb) : WW X (.BoolOp .And (a :: b :: rest) pos) (tAndM ta tb) := ⟨cw_and ha.un hb.un⟩
end
section
variable [L2.TabP]
variable {X : Cx} {e : Expr} {m : ME} {lo hi : Option Expr} {ml mh : MO} {pos p2 : Pos}
theorem wo_some (he : WE X e m) : WO X (some e) (cPart m) := ⟨co_some he.un⟩
end
section
variable [L2.TabP]
variable {X : Cx} {e : Expr} {m : ME} {lo hi : Option Expr} {ml mh : MO} {pos p2 : Pos}
theorem wo_none  : WO X none cNoPart := ⟨co_none⟩
end
section
variable [L2.TabP]
variable {X : Cx} {e : Expr} {m : ME} {lo hi : Option Expr} {ml mh : MO} {pos p2 : Pos}
theorem we_slice (he : WE X e m) (hl : WO X lo ml) (hu : WO X hi mh) : WE X (.Subscript e (.Slice lo hi none p2) pos) (cSl m ml mh) := ⟨ce_slice he.un hl.un hu.un⟩
end
section
variable [L2.TabP]
variable {X : Cx} {a b c e : Expr} {ma mb mc m : ME} {ta tb : En → M Bool} {pos : Pos}
variable {rest : List Expr}
theorem we_one {op} (h : WE X a ma) : WE X (.BoolOp op [a] pos) ma := ⟨ce_one h.un⟩
end
section
variable [L2.TabP]
variable {X : Cx} {scope esc : Scope} {EN N : List Str} {n : Nat} {cap : List Nat} {elt iter : Expr} {ifs : List Expr} {pos tpos : Pos} {x : Str} {it : MI} {t : En → M Bool} {el : ME}
theorem we_comp (S : CpScope esc scope EN N n cap) (hn : 0 < n) (hi : WIc X (.Name x tpos) iter it) (hx : N[0]? = some x) (hlx : ∀ C fp s H, Loc (cxComp X scope N C fp s H).env.scope x ∧ (cxComp X scope N C fp s H).env.scope.names.lookup x = some .local) (ht : ∀ C fp s H, WFs (cxComp X scope N C fp s H) ifs t) (hel : ∀ C fp s H, WE (cxComp X scope N C fp s H) elt el) (he : X.env.scope = esc := by rfl) (hN : X.N = EN := by rfl) (hc : X.calm = true := by rfl) (hs : ∀ x, foldedSetIterable iter X.env x = pure x := by intro _; rfl) : WE X (.ListComp elt [⟨.Name x tpos, iter, ifs, 0⟩] scope pos) (cComp n cap it t el) := ⟨ce_comp S hn hi.un hx hlx (fun C fp s H => (ht C fp s H).un) (fun C fp s H => (hel C fp s H).un) he hN hc hs⟩
end
section
variable [L2.TabP]
variable {X : Cx} {x : Str} {i j : Nat} {p apos cpos pos pos' : Pos} {e : Expr} {es : List Expr} {ms : MA} {name y : Str} {id : String} {f : List D → List R → M (R × List D)} {r : V → List V → Hp → VK → Prop}
end
section
variable [L2.TabP]
variable {X : Cx} {x : Str} {i j : Nat} {p apos cpos pos pos' : Pos} {e : Expr} {es : List Expr} {ms : MA} {name y : Str} {id : String} {f : List D → List R → M (R × List D)} {r : V → List V → Hp → VK → Prop}
end
section
variable [L2.TabP]
variable {X : Cx} {a b c e : Expr} {ma mb mc m : ME} {ta tb : En → M Bool} {pos : Pos}
variable {rest : List Expr}
theorem ww_and1 (ha : WT X a ta) : WW X (.BoolOp .And [a] pos) ta := ⟨cw_and1 ha.un⟩
end
section
variable [L2.TabP]
variable {X : Cx} {tg l : Expr} {m : ME} {e a b : Expr} {ms : MA} {pos p : Pos}
end
section
variable [L2.TabP]
end
section
variable [L2.TabP]
variable {X : Cx} {st : Stmt} {rest : List Stmt} {pos : Pos} {a b : MS} {e : Expr} {m : ME}
variable {i : Nat} {x : Str} {pos' : Pos}
end
section
variable [L2.TabP]
theorem wfs_nil {X : Cx} : WFs X [] tYes := ⟨cfs_nil⟩
end
section
variable [L2.TabP]
variable {X : Cx} {a b c e : Expr} {ma mb mc m : ME} {ta tb : En → M Bool} {pos : Pos}
variable {rest : List Expr}
theorem we_not (ha : WE X a ma) : WE X (.UnaryOp .Not a pos) (cNot ma) := ⟨ce_not ha.un⟩
end
section
variable [L2.TabP]
variable {X : Cx} {a b c e : Expr} {ma mb mc m : ME} {ta tb : En → M Bool} {pos : Pos}
variable {rest : List Expr}
end
section
variable [L2.TabP]
variable {X : Cx} {e : Expr} {es : List Expr} {ms : MA} {pos p : Pos} {x : Str} {id T : String} {r : List V → Hp → VK → Prop} {f : List R → M R}
theorem we_callTy (hc : CallR X (.type T) r) (hf : BinC X.K X.mg r f) (hg : Gl X x) (hm : X.mg x = none) (hv : bootBuiltins x = some (.type T)) (ha : WA X (e :: es) ms) (hn : x ≠ "__name__" := by decide) (hdb : (x == ("__debug__" : Str)) = false := by decide) (he : starEach (e :: es) X.env = (false, eval e X.env) :: starEach es X.env := by rfl) (hpl : (backTo pos (starEach es X.env)).any (·.1) = false := by rfl) : WE X (.Call (.Name x p) (e :: es) [] pos) (cB f ms) := ⟨ce_callTy hc hf hg hm hv ha.un hn hdb he hpl⟩
end
section
variable [L2.TabP]
end
section
variable [L2.TabP]
variable {X : Cx} {tg l : Expr} {m : ME} {e a b : Expr} {ms : MA} {pos p : Pos}
end
section
variable [L2.TabP]
variable {X : Cx} {tg l : Expr} {m : ME} {e a b : Expr} {ms : MA} {pos p : Pos}
end
section
variable [L2.TabP]
variable {X : Cx} {a b c e : Expr} {ma mb mc m : ME} {ta tb : En → M Bool} {pos : Pos}
theorem wt_chain {op op' : CmpOp} {r r' : R2} {f g : R → R → M R} (ho : OpR X (compareOp op) r) (hf : Bin X.K X.mg r f) (ho' : OpR X (compareOp op') r') (hg : Bin X.K X.mg r' g) (ha : WE X a ma) (hb : WE X b mb) (hc : WE X c mc) (hm : lastMarks [op, op'] [b, c] = false := by with_unfolding_all rfl) : WT X (.Compare a [op, op'] [b, c] pos) (cT (c3 f g ma mb mc)) := ⟨ct_chain ho hf ho' hg ha.un hb.un hc.un hm⟩
end
section
variable [L2.TabP]
variable {X : Cx} {x y : Str} {ps : List Str} {k i : Nat} {mf : MIO} {p q pos pos' : Pos} {es : List Expr} {ms : MA}
end
section
variable [L2.TabP]
variable {X : Cx} {tg l : Expr} {m : ME} {e a b : Expr} {ms : MA} {pos p : Pos}
end
section
variable [L2.TabP]
variable {X : Cx} {tg l : Expr} {m : ME} {e a b : Expr} {ms : MA} {pos p : Pos}
theorem wc_list (hl : WE X l m) : WIc X tg l (iLc m) := ⟨cc_list hl.un⟩
end
section
variable [L2.TabP]
variable {X : Cx} {tg iter : Expr} {it : MI} {i : Nat} {b : MS} {body : List Stmt} {pos tpos : Pos} {x : Str} {c : Expr} {t : En → M Bool}
end
section
variable [L2.TabP]
variable {X : Cx} {tg l : Expr} {m : ME} {e a b : Expr} {ms : MA} {pos p : Pos}
end
section
variable [L2.TabP]
variable {X : Cx} {tg l : Expr} {m : ME} {e a b : Expr} {ms : MA} {pos p : Pos}
end
section
variable [L2.TabP]
variable {X : Cx} {tg l : Expr} {m : ME} {e a b : Expr} {ms : MA} {pos p : Pos}
end
section
variable [L2.TabP]
variable {X : Cx} {st : Stmt} {rest : List Stmt} {pos : Pos} {a b : MS} {e : Expr} {m : ME}
end
section
variable [L2.TabP]
variable {X : Cx} {st : Stmt} {rest : List Stmt} {pos : Pos} {a b : MS} {e : Expr} {m : ME}
end
section
variable [L2.TabP]
variable {X : Cx} {x : Str} {i j : Nat} {p apos cpos pos pos' : Pos} {e : Expr} {es : List Expr} {ms : MA} {name y : Str} {id : String} {f : List D → List R → M (R × List D)} {r : V → List V → Hp → VK → Prop}
end
section
variable [L2.TabP]
variable {X : Cx} {a b c e : Expr} {ma mb mc m : ME} {ta tb : En → M Bool} {pos : Pos}
end
section
variable [L2.TabP]
variable {X : Cx} {pos tpos : Pos} {is : List Nat} {e : Expr} {m : ME} {es : List Expr} {k : Nat} {iter : Expr} {it : MI} {body : List Stmt} {b : MS}
end
section
variable [L2.TabP]
variable {X : Cx} {pos tpos : Pos} {is : List Nat} {e : Expr} {m : ME} {es : List Expr} {k : Nat} {iter : Expr} {it : MI} {body : List Stmt} {b : MS}
end
section
variable [L2.TabP]
variable {X : Cx} {a : Expr} {ma : ME} {apos cpos : Pos}
end
section
variable [L2.TabP]
variable {X : Cx} {st : Stmt} {rest : List Stmt} {pos : Pos} {a b : MS} {e : Expr} {m : ME}
end
section
variable [L2.TabP]
variable {X : Cx} {st : Stmt} {rest : List Stmt} {pos : Pos} {a b : MS} {e : Expr} {m : ME}
end
section
variable [L2.TabP]
variable {X : Cx} {st : Stmt} {rest : List Stmt} {pos : Pos} {a b : MS} {e : Expr} {m : ME}
end
section
variable [L2.TabP]
variable {X : Cx} {st : Stmt} {rest : List Stmt} {pos : Pos} {a b : MS} {e : Expr} {m : ME}
end
section
variable [L2.TabP]
variable {X : Cx} {st : Stmt} {rest : List Stmt} {pos : Pos} {a b : MS} {e : Expr} {m : ME}
end
section
variable [L2.TabP]
variable {K : PySem.W.Frag} {mg : Str → Option Value} {O : Ow} {H : Hp}
end
section
variable [L2.TabP]
variable {X : Cx} {a b c e : Expr} {ma mb mc m : ME} {ta tb : En → M Bool} {pos : Pos}
variable {rest : List Expr}
theorem WW.ct (h : WW X a ta) : WT X a ta := ⟨CW.ct h.un⟩
end
section
variable [L2.TabP]
variable {X : Cx} {scope esc : Scope} {EN N : List Str} {n : Nat} {cap : List Nat} {elt iter : Expr} {ifs : List Expr} {pos tpos : Pos} {x : Str} {it : MI} {t : En → M Bool} {el : ME}
end
section
variable [L2.TabP]
variable {X : Cx} {scope esc : Scope} {EN N : List Str} {n : Nat} {cap : List Nat} {elt iter : Expr} {ifs : List Expr} {pos tpos : Pos} {x : Str} {it : MI} {t : En → M Bool} {el : ME}
end
end L3

set_option Elab.async false
set_option linter.all false
set_option maxRecDepth 100000
set_option maxHeartbeats 1000000
namespace L3
open PySem PySem.Spec L2 PyProof.Rows
/-! ### sorting by keys -/
/-- keys of one kind, as data -/
structure KO where
  κ : PyProof.Rows.KeyKind
  kd : κ.α → D
  un : D → Option κ.α
structure KO.Ok (Z : KO) : Prop where
  one : Z.κ.OneLt
  un_kd : ∀ d a, Z.un d = some a → d = Z.kd a
  key : ∀ (a : Z.κ.α) (K : PySem.W.Frag) (mg : Str → Option Value) (O : Ow) (H : Hp) (v : V) (u : Value), Rep K mg O H (Z.kd a) v → RelV v u → Z.κ.keyOf u = some a
  kind : ∀ (v₁ v₂ : Value) (vs : List Value), (∀ v ∈ v₁ :: v₂ :: vs, ∃ a, Z.κ.keyOf v = some a) → keyKind' (v₁ :: v₂ :: vs).toArray = pure oneType'
/-! the sorted list, in plain -/
section
variable {β : Type}
def insB (blt : β → β → Bool) (p : β × D) : List (β × D) → List (β × D)
  | [] => [p]
  | q :: r => if blt q.1 p.1 then q :: insB blt p r else p :: q :: r
def sortB (blt : β → β → Bool) : List (β × D) → List (β × D)
  | [] => []
  | p :: r => insB blt p (sortB blt r)
end
end L3

set_option Elab.async false
set_option linter.all false
set_option maxRecDepth 100000
set_option maxHeartbeats 1000000
namespace L3
open PySem PySem.Spec L2 PyProof.Rows
variable [L2.TabP]
def lstP (a : Addr) (e : Nat) : Heap → Prop := fun h => h.get? a = some (seqObj "list" #[] e)
/-- the state between two keys -/
structure KSt (X : Cx) (pins : List (Addr × Obj)) (σ : L2.St) (G : Hp → Prop) (O : Ow) (H : Hp) (a kS : Addr) (e1 : Nat) (ks : List D) (s' : Shared) : Prop where
  ex : ∃ O' H' ys, Inv X pins σ H' s' ∧ Go O O' H H' ∧ Dom O' H' ∧ G H' ∧ H' a = some (.ext (lstP a e1)) ∧ H' kS = some (.lst ys) ∧ RepAll X.K X.mg O' H' ks ys ∧ O' kS = .tmp
section
variable {X : Cx} {pins : List (Addr × Obj)} {σ : L2.St} {H : Hp} {s : Shared} {G : Hp → Prop} {mf : MF} {f a kS : Addr} {k : Nat} {O : Ow} {e1 : Nat}
end
end L3

set_option Elab.async false
set_option linter.all false
set_option maxRecDepth 100000
set_option maxHeartbeats 1000000
namespace L3
open PySem PySem.Spec L2 PyProof.Rows
variable [L2.TabP]
section
variable {K : PySem.W.Frag} {mg : Str → Option Value} {O : Ow} {H : Hp} {Z : KO}
end
section
variable {X : Cx} {pins : List (Addr × Obj)} {σ : L2.St} {H : Hp} {s : Shared} {G : Hp → Prop} {mf : MF} {f a kS : Addr} {k : Nat} {O : Ow} {e1 : Nat} {Z : KO} {ds : List D} {ka : List Z.κ.α} {xs : List V} {us : List Value} {E : Value → Shared → Prop} {keys : Array Value}
end
end L3

set_option Elab.async false
set_option linter.all false
set_option maxRecDepth 100000
set_option maxHeartbeats 1000000
namespace L3
open PySem PySem.Spec L2 PyProof.Rows
variable [L2.TabP]
section
variable {X : Cx} {pins : List (Addr × Obj)} {σ : L2.St} {H : Hp} {s : Shared} {G : Hp → Prop} {mf : MF} {f l : Addr} {k : Nat} {O : Ow} {Z : KO} {ds : List D} {ka : List Z.κ.α} {xs : List V} {E : Value → Shared → Prop}
end
end L3

set_option Elab.async false
set_option linter.all false
set_option maxRecDepth 100000
set_option maxHeartbeats 1000000
namespace L3
open PySem PySem.Spec L2 PyProof.Rows
variable [L2.TabP]
/-! ### lambdas -/
/-- the code and the table of the def in which a lambda stands -/
structure Lm (K : PySem.W.Frag) (c P : Addr) (q : Str) : Prop where
  hd : ∀ h, K.In h → PySem.W.CodeHd h c P
  tp : TabP.tp P
  ql : TabP.ql P = q
structure Bm (base : Heap) (mg : Str → Option Value) : Prop where
  ex : ∃ bm o, mg (Str.ofString "__builtins__") = some (Value.ref bm) ∧ bm ≠ builtinsNs ∧ bm ≠ mainGlobals ∧ base.get? bm = some o ∧ o.cls = Value.type "module" ∧ o.dict = some builtinsNs ∧ o.data = Data.plain
section
variable {X : Cx} {k : Nat} {f c : Addr} {name q : Str} {params : Arguments} {body : Expr} {scope : Scope} {pm ctv : Value} {N ps : List Str} {m : ME}
end
end L3

set_option Elab.async false
set_option linter.all false
set_option maxRecDepth 100000
set_option maxHeartbeats 1000000
namespace L3
open PySem PySem.Spec L2 PyProof.Rows
variable [L2.TabP]
section
variable {X : Cx} {pins : List (Addr × Obj)} {σ : L2.St} {H : Hp} {s : Shared} {O : Ow} {c P : Addr} {q : Str} {params : Arguments} {body : Expr} {scope : Scope} {pos : Pos}
end
end L3

set_option Elab.async false
set_option linter.all false
set_option maxRecDepth 100000
set_option maxHeartbeats 1000000
namespace L3
open PySem PySem.Spec L2 PyProof.Rows
/-! ### sorted(.., key = ..) -/
variable [L2.TabP]
section
variable {X : Cx} {k : Nat} {e : Expr} {ma : ME} {Z : KO} {p pos kp : Pos} {kx : Expr} {mf : MF} {G : Addr → Hp → Prop}
end
/-! ### a def in which lambdas stand -/
end L3

set_option Elab.async false
set_option linter.all false
set_option maxRecDepth 100000
set_option maxHeartbeats 1000000
namespace L2
open PySem PySem.Spec PyProof.Rows
/-- tuples of ints compared: r of the first two that differ, else z of the sizes -/
def lexR (r : Int → Int → Bool) (z : Nat → Nat → Bool) : List Int → List Int → Bool
  | x :: xs, y :: ys => if x = y then lexR r z xs ys else r x y
  | xs, ys => z xs.length ys.length
section
open PySem.SeqAt
open PySem.AutoSeq1 (wpAny_loadPart')
open PySem.MeetsSeq PySem.MeetsSeq2 PySem.MeetsSeq3
end
section
open PySem.SeqAt
open PySem.AutoSeq1 (wpAny_loadPart')
open PySem.MeetsSeq PySem.MeetsSeq2 PySem.MeetsSeq3
end
abbrev lexGt : List Int → List Int → Bool := lexR (fun i j => decide (j < i)) (fun i j => decide (j < i))
section
open PySem.SeqAt
open PySem.AutoSeq1 (wpAny_loadPart')
open PySem.MeetsSeq PySem.MeetsSeq2 PySem.MeetsSeq3
end
section
open PySem.SeqAt
open PySem.AutoSeq1 (wpAny_loadPart')
open PySem.MeetsSeq PySem.MeetsSeq2 PySem.MeetsSeq3
end
end L2
namespace L3
open PySem PySem.Spec L2
variable [L2.TabP]
end L3

set_option Elab.async false
set_option linter.all false
set_option maxRecDepth 100000
set_option maxHeartbeats 1000000
namespace L3
open PySem PySem.Spec L2 PyProof.Rows
/-! ### the head of a law in whose text lambdas stand -/
end L3
namespace L3
open PySem PySem.Spec L2 PyProof.Rows
end L3

set_option Elab.async false
set_option linter.all false
set_option maxRecDepth 100000
set_option maxHeartbeats 1000000
namespace L3
open PySem PySem.Spec L2 PyProof.Rows
variable [L2.TabP]
section
variable {X : Cx} {k : Nat} {e : Expr} {ma : ME} {Z : KO} {p pos kp : Pos} {mf : MF}
end
end L3

set_option Elab.async false
set_option linter.all false
set_option maxRecDepth 100000
set_option maxHeartbeats 1000000
namespace L3
open PySem PySem.Spec L2
/-! ### dicts with ints and texts for keys -/
def keyD : D → Option Key
  | .int i => some (.inl i)
  | .str x => some (.inr x)
  | _ => none
def dvalD (kvs : List (Key × D)) (k : Key) : Option D := (kvs.find? fun kv => decide (kv.1 = k)).map (·.2)
def dputD (kvs : List (Key × D)) (k : Key) (d : D) : List (Key × D) :=
  if (kvs.any fun kv => decide (kv.1 = k)) = true then kvs.map (fun kv => if kv.1 = k then (kv.1, d) else kv) else kvs ++ [(k, d)]
/-- d.get(k, x) -/
def cDGet2 (m mk mx : ME) : ME := fun σ => do
  let x ← m σ
  let k ← mk σ
  let z ← mx σ
  match x, k, z with
  | .dv kvs, .v kd, .v zd => match keyD kd with
    | some key => pure (.v ((dvalD kvs key).getD zd))
    | none => bad
  | _, _, _ => bad
/-- d[k] -/
def oDIx : R → R → M R
  | .dv kvs, .v kd => match keyD kd with
    | some key => match dvalD kvs key with
      | some d => pure (.v d)
      | none => bad
    | none => bad
  | _, _ => bad
/-- k in d -/
def oDIn (neg : Bool) : R → R → M R
  | .v kd, .dv kvs => match keyD kd with
    | some key => pure (.v (.bl (if neg then !(dvalD kvs key).isSome else (dvalD kvs key).isSome)))
    | none => bad
  | _, _ => bad
/-- x = {} -/
def cDNew (i : Nat) : MS := fun σ => pure (.nx (σ.set i (.dct [])))
/-- x[k] = v -/
def cDPut (i : Nat) (mk mv : ME) : MS := fun σ => do
  let r ← mv σ
  let d ← r.dat
  let k ← mk σ
  match σ[i]?, k with
  | some (.dct kvs), .v kd => match keyD kd with
    | some key => if kvs.length < 1000 then pure (.nx (σ.set i (.dct (dputD kvs key d)))) else bad
    | none => bad
  | _, _ => bad
variable [L2.TabP]
section
variable {K : PySem.W.Frag} {mg : Str → Option Value} {O : Ow} {H : Hp}
end
/-! what stands while a dict is written -/
section
variable {K : PySem.W.Frag} {mg : Str → Option Value} {O : Ow} {H : Hp} {l : Addr} {zs : List (Key × V)} {o : HO}
mutual
theorem Rep.updK (hl : H l = some (.dK zs)) : ∀ {d : D} {v : V}, Rep K mg O H d v → Rep K mg O (upd H l o) d v
  | .non, _, h => h
  | .bl _, _, h => h
  | .int _, _, h => h
  | .str _, _, h => h
  | .tup _, _, h => by
    obtain ⟨a, ys, q, t, r⟩ := h
    refine ⟨a, ys, q, ?_, RepAll.updK hl r⟩
    rcases t with (t | ⟨o, t⟩) | t
    · exact .inl (.inl (by rw [upd_ne (ne_of t hl (by intro z; cases z))]; exact t))
    · exact .inl (.inr ⟨o, by rw [upd_ne (ne_of t hl (by intro z; cases z))]; exact t⟩)
    · exact .inr t
  | .lst _, _, h => by
    obtain ⟨a, ys, q, t, r⟩ := h
    exact ⟨a, ys, q, ⟨by rw [upd_ne (ne_of t.1 hl (by intro z; cases z))]; exact t.1, t.2⟩, RepAll.updK hl r⟩
  | .dic _ _, _, h => h
  | .fn _, _, h => h
  | .ty _, _, h => h
theorem RepAll.updK (hl : H l = some (.dK zs)) : ∀ {ds : List D} {ys : List V}, RepAll K mg O H ds ys → RepAll K mg O (upd H l o) ds ys
  | [], _, h => h
  | _ :: _, _, h => by obtain ⟨x, r, q, a, b⟩ := h; exact ⟨x, r, q, Rep.updK hl a, RepAll.updK hl b⟩
end
end
section
variable {X : Cx} {o i e f value : Expr} {m mk mx mv : ME} {pos pos' apos cpos : Pos} {x : Str} {j : Nat}
end
end L3

set_option Elab.async false
set_option linter.all false
set_option maxRecDepth 100000
set_option maxHeartbeats 1000000
namespace L3
open PySem PySem.Spec L2
variable [L2.TabP]
section
variable {X : Cx} {o i e f value : Expr} {m mk mx mv : ME} {pos pos' apos cpos : Pos} {x : Str} {j : Nat}
end
/-! ### evaluation -/
end L3
namespace L3
open PySem PySem.Spec L2
@[simp] theorem e_dget2 {m mk mx : ME} {σ : En} : cDGet2 m mk mx σ = (do
  let x ← m σ
  let k ← mk σ
  let z ← mx σ
  match x, k, z with
  | .dv kvs, .v kd, .v zd => match keyD kd with
    | some key => pure (.v ((dvalD kvs key).getD zd))
    | none => bad
  | _, _, _ => bad) := rfl
@[simp] theorem e_keyi {i : Int} : keyD (.int i) = some (.inl i) := rfl
@[simp] theorem e_keys {x : Str} : keyD (.str x) = some (.inr x) := rfl
@[simp] theorem e_dix {kvs : List (Key × D)} {kd : D} : oDIx (.dv kvs) (.v kd) = match keyD kd with
    | some key => match dvalD kvs key with
      | some d => pure (.v d)
      | none => bad
    | none => bad := rfl
@[simp] theorem e_din {neg : Bool} {kvs : List (Key × D)} {kd : D} : oDIn neg (.v kd) (.dv kvs) = match keyD kd with
    | some key => pure (.v (.bl (if neg then !(dvalD kvs key).isSome else (dvalD kvs key).isSome)))
    | none => bad := rfl
@[simp] theorem e_dnew {i : Nat} {σ : En} : cDNew i σ = pure (.nx (σ.set i (.dct []))) := rfl
@[simp] theorem e_dput {i : Nat} {mk mv : ME} {σ : En} : cDPut i mk mv σ = (do
  let r ← mv σ
  let d ← r.dat
  let k ← mk σ
  match σ[i]?, k with
  | some (.dct kvs), .v kd => match keyD kd with
    | some key => if kvs.length < 1000 then pure (.nx (σ.set i (.dct (dputD kvs key d)))) else bad
    | none => bad
  | _, _ => bad) := rfl
end L3


set_option Elab.async false
set_option linter.all false
set_option maxRecDepth 100000
set_option maxHeartbeats 1000000
namespace L3
open PySem PySem.Spec L2 PyProof.Rows
/-! ### sorted(..) of a list or of a dict's keys, without a key -/
def kD : Key → D
  | .inl i => .int i
  | .inr x => .str x
variable [L2.TabP]
section
variable {X : Cx} {pins : List (Addr × Obj)} {σ : L2.St} {H : Hp} {s : Shared} {O : Ow} {Z : KO} {ka : List Z.κ.α} {xs : List V} {us : List Value} {E : Value → Shared → Prop} {A : Around} {Q : VK}
end
section
variable {K : PySem.W.Frag} {mg : Str → Option Value} {Z : KO}
end
end L3

set_option Elab.async false
set_option linter.all false
set_option maxRecDepth 100000
set_option maxHeartbeats 1000000
namespace L3
open PySem PySem.Spec L2 PyProof.Rows
/-! ### slices of texts -/
def cutS (z : Str) (lo hi : Option Int) : Str := ⟨(cutD z.cps.toList lo hi).toArray⟩
def oSlS : R → Option Int → Option Int → M R
  | .v (.str z), lo, hi => if z.length ≤ sizeLine then pure (.v (.str (cutS z lo hi))) else bad
  | _, _, _ => bad
def cSlS (a : ME) (lo hi : MO) : ME := fun σ => do
  let x ← a σ
  let l ← lo σ
  let h ← hi σ
  oSlS x l h
theorem part_of {v : Value} {o : Option Int} (h : IsPart v o) : ∃ l : Option (Int × Tok), v = partValue l ∧ l.map (·.1) = o := by
  cases h with
  | none => exact ⟨none, rfl, rfl⟩
  | int i t => exact ⟨some (i, t), rfl, rfl⟩
theorem sIx_le' (n d : Nat) (hd : d ≤ n) (o : Option Int) : HT.sIx n d o ≤ n := by
  unfold HT.sIx
  cases o with
  | none => exact hd
  | some i => simp only []; split <;> omega
theorem picked_cut (z : Str) (lo hi : Option Int) : (Builtin.Str.strSliceIndices lo hi 1 z.length).filterMap (fun x => z.cps[x]?) = cutD z.cps.toList lo hi ∧ (Builtin.Str.strSliceIndices lo hi 1 z.length).length = HT.sIx z.length z.length hi - HT.sIx z.length 0 lo := by
  obtain ⟨h1, h2, h3⟩ := slice_bounds lo hi z.length
  have e : Builtin.Str.strSliceIndices lo hi 1 z.length = sliceRange (sliceBounds lo hi none z.length).1 (sliceBounds lo hi none z.length).2.1 1 := rfl
  rw [e, h1, h2, sliceRange_one]
  refine ⟨?_, by rw [List.length_map, List.length_range]⟩
  rw [pick_run]
  unfold cutD
  rw [show z.cps.toList.length = z.length from Array.length_toList]
theorem cutS_whole {z : Str} {lo hi : Option Int} (h : HT.sIx z.length z.length hi - HT.sIx z.length 0 lo = z.length) : cutS z lo hi = z := by
  have h1 := sIx_le' z.length 0 (Nat.zero_le _) lo
  have h2 := sIx_le' z.length z.length (Nat.le_refl _) hi
  have zl : z.cps.toList.length = z.length := Array.length_toList
  unfold cutS cutD
  rw [zl]
  have ha : HT.sIx z.length 0 lo = 0 ∨ z.length = 0 := by omega
  have : (z.cps.toList.drop (HT.sIx z.length 0 lo)).take (HT.sIx z.length z.length hi - HT.sIx z.length 0 lo) = z.cps.toList := by
    rcases ha with ha | ha
    · rw [ha, List.drop_zero, List.take_of_length_le (by omega)]
    · have : z.cps.toList = [] := List.eq_nil_of_length_eq_zero (by omega)
      rw [this]; simp
  rw [this]
theorem cutS_len (z : Str) (lo hi : Option Int) : (cutS z lo hi).length ≤ z.length := by
  show (cutD z.cps.toList lo hi).toArray.size ≤ z.cps.size
  rw [List.size_toArray]
  unfold cutD
  rw [List.length_take, List.length_drop, Array.length_toList]
  omega
theorem sl_str {X : Cx} : SlR X (fun x lo hi H Q => ∃ z, x = .str z ∧ z.length ≤ sizeLine ∧ Q (.str (cutS z lo hi)) H) := by
  intro pins s σ H x v vl vu lo hi sl Q I rx hs pl pu ⟨z, ex, hz, q⟩
  subst ex
  obtain ⟨t, rfl⟩ := rx
  obtain ⟨l, rfl, el⟩ := part_of pl
  obtain ⟨u, rfl, eu⟩ := part_of pu
  refine ⟨"str", _, slot_str_getitem.lookup, typeIs_str s z t, ?_⟩
  refine wpAny_getItem_str_slice (l := l) (u := u) (st := none) hs rfl ?_
  obtain ⟨p1, p2⟩ := picked_cut z lo hi
  have ep : slicePicked z l u none = Builtin.Str.strSliceIndices lo hi 1 z.length := by
    unfold slicePicked
    rw [el, eu]; rfl
  unfold sliceMade
  rw [ep, p2]
  by_cases c : HT.sIx z.length z.length hi - HT.sIx z.length 0 lo = z.length
  · rw [if_pos (by simp [c])]
    rw [cutS_whole c] at q
    exact ⟨.str z, H, I, ⟨t, rfl⟩, q⟩
  · rw [if_neg (by simp [c])]
    show _ ≤ sizeLine ∧ _
    rw [p1]
    refine ⟨Nat.le_trans (cutS_len z lo hi) hz, .str (cutS z lo hi), H, ?_, ⟨s.toks, rfl⟩, q⟩
    exact I.kept (t' := s.toks + 1) fun b o e => e
variable [L2.TabP]
section
variable {X : Cx} {e : Expr} {m : ME} {lo hi : Option Expr} {ml mh : MO} {pos p2 : Pos}
theorem ce_sliceS (he : CE X e m) (hl : CO X lo ml) (hu : CO X hi mh) : CE X (.Subscript e (.Slice lo hi none p2) pos) (cSlS m ml mh) := pe_imp (pe_slice sl_str he hl hu) fun σV H Q ⟨O, σ, S, r, S', st, h, q⟩ => by
  obtain ⟨x, S1, h1, ha⟩ := M.inv h
  clear h
  obtain ⟨l, S2, h2, hb⟩ := M.inv ha
  clear ha
  obtain ⟨u, S3', h3, h⟩ := M.inv hb
  clear hb
  refine ⟨O, σ, S, x, S1, st, h1, fun O1 vx H1 g1 st1 rx nx => ?_⟩
  refine ⟨O1, σ, S1, l, S2, st1, h2, fun O2 H2 g2 st2 => ?_⟩
  refine ⟨O2, σ, S2, u, S3', st2, h3, fun O3 H3 g3 st3 => ?_⟩
  have g := (g1.trans g2).trans g3
  unfold oSlS at h
  split at h
  · rename_i z
    by_cases c : z.length ≤ sizeLine
    · rw [if_pos c] at h
      cases h
      cases (show vx = .str z from rx)
      exact ⟨z, rfl, c, q O3 _ H3 g st3 rfl trivial⟩
    · rw [if_neg c] at h; cases h
  · cases h
theorem we_sliceS (he : WE X e m) (hl : WO X lo ml) (hu : WO X hi mh) : WE X (.Subscript e (.Slice lo hi none p2) pos) (cSlS m ml mh) := ⟨ce_sliceS he.un hl.un hu.un⟩
end
omit [L2.TabP] in
@[simp] theorem e_slS {a : ME} {lo hi : MO} {σ : En} : cSlS a lo hi σ = (do
  let x ← a σ
  let l ← lo σ
  let h ← hi σ
  oSlS x l h) := rfl
omit [L2.TabP] in
@[simp] theorem e_sls {z : Str} {lo hi : Option Int} : oSlS (.v (.str z)) lo hi = if z.length ≤ sizeLine then pure (.v (.str (cutS z lo hi))) else bad := rfl
end L3

set_option Elab.async false
set_option linter.all false
set_option maxRecDepth 100000
set_option maxHeartbeats 1000000
namespace L3
open PySem PySem.Spec L2 PyProof.Rows
/-! ### a table of defs, by texts; a def in a local name -/
structure FnTab (P : Program) (w : World) (K : PySem.W.Frag) (mg : Str → Option Value) (x : Str) (ps : List (Str × Str)) : Prop where
  ex : ∃ (a : Addr) (es : Array DictEntry) (n : Nat), mg x = some (.ref a) ∧ List.lookup a K = some { cls := .type "dict", data := .dict es n } ∧ PySem.KeysOf (PySem.strKind P w) es ∧
    ∀ k fn, ps.lookup k = some fn → ∃ f, findBy Value.isStrOf es k = some (.ref f) ∧ mg fn = some (.ref f)
def cTab (ps : List (Str × Str)) (mk : ME) : ME := fun σ => do
  let k ← mk σ
  match k with
  | .v (.str z) => match ps.lookup z with
    | some fn => pure (.v (.fn fn))
    | none => bad
  | _ => bad
def cCallV (i : Nat) (fs : List (Str × MF)) (ms : MA) : ME := fun σ => match σ[i]? with
  | some (.val (.fn f)) => match fs.lookup f with
    | some mf => cCall mf ms σ
    | none => bad
  | _ => bad
variable [L2.TabP]
section
variable {X : Cx} {x : Str} {ps : List (Str × Str)} {i : Expr} {pos p : Pos} {ty : TE} {mk : ME} {j k : Nat} {e : Expr} {es : List Expr} {ms : MA} {pp : List Str} {fs : List (Str × MF)}
end
omit [L2.TabP] in
@[simp] theorem e_tab {ps : List (Str × Str)} {mk : ME} {σ : En} : cTab ps mk σ = (do
  let k ← mk σ
  match k with
  | .v (.str z) => match ps.lookup z with
    | some fn => pure (.v (.fn fn))
    | none => bad
  | _ => bad) := rfl
omit [L2.TabP] in
@[simp] theorem e_callV {i : Nat} {fs : List (Str × MF)} {ms : MA} {σ : En} : cCallV i fs ms σ = match σ[i]? with
  | some (.val (.fn f)) => match fs.lookup f with
    | some mf => cCall mf ms σ
    | none => bad
  | _ => bad := rfl
omit [L2.TabP] in
@[simp] theorem e_slotfn {f : Str} : slotOf (.fn f) = .val (.fn f) := rfl
end L3

set_option Elab.async false
set_option linter.all false
set_option maxRecDepth 100000
set_option maxHeartbeats 1000000
namespace L3
open PySem PySem.Spec L2 PyProof.Rows
/-! ### xs[i] = v of an own list; xs * n; a, b from a list -/
def cIPut (j : Nat) (mk mv : ME) : MS := fun σ => do
  let r ← mv σ
  let d ← r.dat
  let k ← mk σ
  match σ[j]?, k with
  | some (.ow p xs), .v (.int i) => if 0 ≤ i ∧ i < xs.length then pure (.nx (σ.set j (.ow p (xs.set i.toNat d)))) else bad
  | _, _ => bad
section
variable {prog : Program} {w : World} {A : Around} {E : Value → Shared → Prop} {s : Shared}
end
variable [L2.TabP]
section
variable {K : PySem.W.Frag} {mg : Str → Option Value}
end
section
variable {X : Cx} {o i e value : Expr} {m mk mv : ME} {pos pos' apos tpos : Pos} {x : Str} {j : Nat}
end
section
variable {X : Cx} {pos tpos : Pos} {is : List Nat} {es : List Expr} {k : Nat} {iter : Expr} {it : MI} {body : List Stmt} {b : MS}
def cForL (is : List Nat) (it : MI) (b : MS) : MS := fun σ => do
  let ds ← it σ
  fLoop (fun d σ => match d with
    | .lst es => if es.length = is.length then b (setsD is es σ) else bad
    | _ => bad) ds σ
end
omit [L2.TabP] in
@[simp] theorem e_iput {j : Nat} {mk mv : ME} {σ : En} : cIPut j mk mv σ = (do
  let r ← mv σ
  let d ← r.dat
  let k ← mk σ
  match σ[j]?, k with
  | some (.ow p xs), .v (.int i) => if 0 ≤ i ∧ i < xs.length then pure (.nx (σ.set j (.ow p (xs.set i.toNat d)))) else bad
  | _, _ => bad) := rfl
omit [L2.TabP] in
@[simp] theorem e_forL {is : List Nat} {it : MI} {b : MS} {σ : En} : cForL is it b σ = (do
  let ds ← it σ
  fLoop (fun d σ => match d with
    | .lst es => if es.length = is.length then b (setsD is es σ) else bad
    | _ => bad) ds σ) := rfl
end L3

set_option Elab.async false
set_option linter.all false
set_option maxRecDepth 100000
set_option maxHeartbeats 1000000
namespace L3
open PySem PySem.W PyProof.Rows
/-! ### the sort's asks, by an order of distinct things -/
/-- a strict order in which any two stand apart -/
structure Ord (n : Nat) (lt : Nat → Nat → Bool) : Prop where
  tr : ∀ i j k, i < n → j < n → k < n → lt i j = true → lt j k = true → lt i k = true
  tot : ∀ i j, i < n → j < n → i ≠ j → lt i j = false → lt j i = true
  asy : ∀ i j, i < n → j < n → lt i j = true → lt j i = false
/-- a row of the places 0 .. n - 1 -/
structure Row (n : Nat) (p : Array Nat) : Prop where
  sz : p.size = n
  lt : ∀ i, i < n → p.getD i 0 < n
  ap : ∀ i j, i < n → j < n → i ≠ j → p.getD i 0 ≠ p.getD j 0
  pm : p.toList.Perm (List.range n)
section
variable {n : Nat} {lt : Nat → Nat → Bool} (O : Ord n lt)
include O
end
end L3

set_option Elab.async false
set_option linter.all false
set_option maxRecDepth 100000
set_option maxHeartbeats 1000000
namespace L3
open PySem PySem.W PyProof.Rows
/-! ### list.sort, by the asks -/
section
variable {prog : Program} {w : World} {A : Around} {E : Value → Shared → Prop} {s : Shared}
end
end L3

set_option Elab.async false
set_option linter.all false
set_option maxRecDepth 100000
set_option maxHeartbeats 1000000
namespace L3
open PySem
open Sem (wp)
/-! ### a place (e, (n, i)) as a key -/
section
variable {prog : Program} {w : World}
variable {A : Around} {E : Value → Shared → Prop} {s : Shared}
end
end L3

set_option Elab.async false
set_option linter.all false
set_option maxRecDepth 100000
set_option maxHeartbeats 1000000
namespace L3
open PySem PySem.W PyProof.Rows
open Sem (wp)
/-! ### the keys of a dict, whatever they are -/
section
variable {prog : Program} {w : World} {A : Around} {E : Value → Shared → Prop} {s : Shared} {d it : Addr} {es : Array DictEntry} {ep : Nat}
end
end L3

set_option Elab.async false
set_option linter.all false
set_option maxRecDepth 100000
set_option maxHeartbeats 1000000
namespace L3
open PySem PySem.Spec L2 PyProof.Rows
/-! ### dicts whose keys are places -/
def unPl : D → Option Pl
  | .tup [.int e, .tup [.int n, .int i]] => some (e, n, i)
  | _ => none
def pval (kvs : List (Pl × D)) (p : Pl) : Option D := (kvs.find? fun kv => decide (kv.1 = p)).map (·.2)
def pput (kvs : List (Pl × D)) (p : Pl) (d : D) : List (Pl × D) := if (kvs.any fun kv => decide (kv.1 = p)) = true then kvs.map fun kv => if kv.1 = p then (kv.1, d) else kv else kvs ++ [(p, d)]
section
variable {X : Cx} {pins : List (Addr × Obj)} {σ : L2.St} {H : Hp} {s : Shared}
end
section
variable {K : PySem.W.Frag} {mg : Str → Option Value} {O : Ow} {H : Hp}
end
end L3

set_option Elab.async false
set_option linter.all false
set_option maxRecDepth 100000
set_option maxHeartbeats 1000000
namespace L3
open PySem PySem.Spec L2 PyProof.Rows
variable [L2.TabP]
/-! what stands while a dict is written -/
section
variable {K : PySem.W.Frag} {mg : Str → Option Value} {O : Ow} {H : Hp} {l : Addr} {zs : List (Pl × Addr × Value)} {o : HO}
mutual
theorem Rep.updP (hl : H l = some (PD l zs)) : ∀ {d : D} {v : V}, Rep K mg O H d v → Rep K mg O (upd H l o) d v
  | .non, _, h => h
  | .bl _, _, h => h
  | .int _, _, h => h
  | .str _, _, h => h
  | .tup _, _, h => by
    obtain ⟨a, ys, q, t, r⟩ := h
    refine ⟨a, ys, q, ?_, RepAll.updP hl r⟩
    rcases t with (t | ⟨o, t⟩) | t
    · exact .inl (.inl (by rw [upd_ne (ne_of t hl (by intro z; cases z))]; exact t))
    · exact .inl (.inr ⟨o, by rw [upd_ne (ne_of t hl (by intro z; cases z))]; exact t⟩)
    · exact .inr t
  | .lst _, _, h => by
    obtain ⟨a, ys, q, t, r⟩ := h
    exact ⟨a, ys, q, ⟨by rw [upd_ne (ne_of t.1 hl (by intro z; cases z))]; exact t.1, t.2⟩, RepAll.updP hl r⟩
  | .dic _ _, _, h => h
  | .fn _, _, h => h
  | .ty _, _, h => h
theorem RepAll.updP (hl : H l = some (PD l zs)) : ∀ {ds : List D} {ys : List V}, RepAll K mg O H ds ys → RepAll K mg O (upd H l o) ds ys
  | [], _, h => h
  | _ :: _, _, h => by obtain ⟨x, r, q, a, b⟩ := h; exact ⟨x, r, q, Rep.updP hl a, RepAll.updP hl b⟩
end
end
/-! the rules -/
def cPNew (i : Nat) : MS := fun σ => pure (.nx (σ.set i (.pd [])))
def pdOf : Option Slot → Option (List (Pl × D))
  | some (.pd kvs) => some kvs
  | some (.vp kvs) => some kvs
  | _ => none
def cPIx (j : Nat) (mk : ME) : ME := fun σ => do
  let k ← mk σ
  match pdOf σ[j]?, k with
  | some kvs, .v kd => match unPl kd with
    | some p => match pval kvs p with
      | some d => pure (.v d)
      | none => bad
    | none => bad
  | _, _ => bad
def cPGet2 (j : Nat) (mk mx : ME) : ME := fun σ => do
  let k ← mk σ
  let z ← mx σ
  match pdOf σ[j]?, k, z with
  | some kvs, .v kd, .v zd => match unPl kd with
    | some p => pure (.v ((pval kvs p).getD zd))
    | none => bad
  | _, _, _ => bad
def cPPut (i : Nat) (mk mv : ME) : MS := fun σ => do
  let r ← mv σ
  let d ← r.dat
  let k ← mk σ
  match σ[i]?, k with
  | some (.pd kvs), .v kd => match unPl kd with
    | some p => if kvs.length < 1000 then pure (.nx (σ.set i (.pd (pput kvs p d)))) else bad
    | none => bad
  | _, _ => bad
section
variable {K : PySem.W.Frag} {mg : Str → Option Value} {O : Ow} {H : Hp}
end
section
variable {X : Cx} {o i e f value : Expr} {m mk mx mv : ME} {ti tx : TE} {pos pos' apos cpos p : Pos} {x : Str} {j : Nat}
end
end L3

set_option Elab.async false
set_option linter.all false
set_option maxRecDepth 100000
set_option maxHeartbeats 1000000
namespace L3
open PySem PySem.Spec L2 PyProof.Rows
variable [L2.TabP]
section
variable {X : Cx} {o i e f value : Expr} {m mk mx mv : ME} {ti tx : TE} {pos pos' apos cpos p : Pos} {x : Str} {j : Nat}
end
end L3

set_option Elab.async false
set_option linter.all false
set_option maxRecDepth 100000
set_option maxHeartbeats 1000000
namespace L3
open PySem PySem.Spec L2 PyProof.Rows PySem.W
/-! ### the places of a dict, sorted -/
def plB (a b : Pl) : Bool := decide (a.1 < b.1 ∨ a.1 = b.1 ∧ (a.2.1 < b.2.1 ∨ a.2.1 = b.2.1 ∧ a.2.2 < b.2.2))
section
variable [L2.TabP] {X : Cx} {pins : List (Addr × Obj)} {σ : L2.St} {H : Hp} {s : Shared} {A : Around} {E : Value → Shared → Prop} {O : Ow} {Q : VK}
end
end L3

set_option Elab.async false
set_option linter.all false
set_option maxRecDepth 100000
set_option maxHeartbeats 1000000
namespace L3
open PySem PySem.Spec L2 PyProof.Rows PySem.W
variable [L2.TabP]
def cSortPl (j : Nat) : ME := fun σ => match pdOf σ[j]? with
  | some kvs => if kvs.length < 64 then pure (.fr ((sortB plB (kvs.map fun kv => (kv.1, plD kv.1))).map (·.2))) else bad
  | none => bad
section
variable {X : Cx} {o i e f value : Expr} {m mk mx mv : ME} {ti tx : TE} {pos pos' apos cpos p pp : Pos} {x : Str} {j : Nat}
end
section
omit [L2.TabP]
@[simp] theorem e_pnew {i : Nat} {σ : En} : cPNew i σ = pure (.nx (σ.set i (.pd []))) := rfl
@[simp] theorem e_pdOf {kvs : List (Pl × D)} : pdOf (some (.pd kvs)) = some kvs := rfl
@[simp] theorem e_vpOf {kvs : List (Pl × D)} : pdOf (some (.vp kvs)) = some kvs := rfl
@[simp] theorem e_cppd {kvs : List (Pl × D)} : cpSlot (some (.pd kvs)) = .vp kvs := rfl
@[simp] theorem e_unPl {a b c : Int} : unPl (.tup [.int a, .tup [.int b, .int c]]) = some (a, b, c) := rfl
@[simp] theorem e_unPlD {p : Pl} : unPl (plD p) = some p := rfl
@[simp] theorem e_pix {j : Nat} {mk : ME} {σ : En} : cPIx j mk σ = (do
  let k ← mk σ
  match pdOf σ[j]?, k with
  | some kvs, .v kd => match unPl kd with
    | some p => match pval kvs p with
      | some d => pure (.v d)
      | none => bad
    | none => bad
  | _, _ => bad) := rfl
@[simp] theorem e_pget2 {j : Nat} {mk mx : ME} {σ : En} : cPGet2 j mk mx σ = (do
  let k ← mk σ
  let z ← mx σ
  match pdOf σ[j]?, k, z with
  | some kvs, .v kd, .v zd => match unPl kd with
    | some p => pure (.v ((pval kvs p).getD zd))
    | none => bad
  | _, _, _ => bad) := rfl
@[simp] theorem e_pput {i : Nat} {mk mv : ME} {σ : En} : cPPut i mk mv σ = (do
  let r ← mv σ
  let d ← r.dat
  let k ← mk σ
  match σ[i]?, k with
  | some (.pd kvs), .v kd => match unPl kd with
    | some p => if kvs.length < 1000 then pure (.nx (σ.set i (.pd (pput kvs p d)))) else bad
    | none => bad
  | _, _ => bad) := rfl
@[simp] theorem e_sortPl {j : Nat} {σ : En} : cSortPl j σ = match pdOf σ[j]? with
  | some kvs => if kvs.length < 64 then pure (.fr ((sortB plB (kvs.map fun kv => (kv.1, plD kv.1))).map (·.2))) else bad
  | none => bad := rfl
end
end L3
namespace L3
open PySem PySem.Spec L2
section
variable {P : List Value → Prop}
theorem us1 (h : ∀ a, P [a]) : ∀ us : List Value, us.length = 1 → P us
  | [_], _ => h _
theorem us2 (h : ∀ a b, P [a, b]) : ∀ us : List Value, us.length = 2 → P us
  | [_, _], _ => h _ _
end
end L3

set_option Elab.async false
set_option linter.all false
set_option maxRecDepth 100000
set_option maxHeartbeats 1000000
namespace L3
open PySem PySem.Spec L2
variable [L2.TabP]
/-! ### trees: parts of them, puts into them -/
def Tr.kids : Tr → List Tr
  | .lf _ => []
  | .ls ts => ts
  | .dc _ ts => ts
  | .ob _ _ ts => ts
  | .any => []
  | .tp ts => ts
def Tr.sub : Tr → Nat → Tr → Tr
  | .lf d, _, _ => .lf d
  | .ls ts, n, s => .ls (ts.set n s)
  | .dc ks ts, n, s => .dc ks (ts.set n s)
  | .ob c ns ts, n, s => .ob c ns (ts.set n s)
  | .any, _, _ => .any
  | .tp ts, n, s => .tp (ts.set n s)
def Tr.atP : List Nat → Tr → Option Tr
  | [], t => some t
  | n :: p, t => match t.kids[n]? with
    | some s => Tr.atP p s
    | none => none
def Tr.put : List Nat → Tr → Tr → Tr
  | [], _, s => s
  | n :: p, t, s => match t.kids[n]? with
    | some u => t.sub n (Tr.put p u s)
    | none => t
/-- the n-th of what stands at a -/
def kidV (H : Hp) (a : Addr) (n : Nat) : Option V := match H a with
  | some (.lst ys) => ys[n]?
  | some (.tup ys) => ys[n]?
  | some (.dK kvs) => kvs[n]?.map (·.2)
  | some (.ins _ _ fs) => fs[n]?.map (·.2)
  | _ => none
def PathV (H : Hp) : V → List Nat → V → Prop
  | v, [], v' => v = v'
  | v, n :: q, v' => ∃ a y, v = .ref a ∧ kidV H a n = some y ∧ PathV H y q v'
theorem kidV.same {H H' : Hp} (s : Same H H') {a : Addr} {n : Nat} {y : V} (h : kidV H a n = some y) : kidV H' a n = some y := by
  unfold kidV at h
  split at h
  · rename_i ys e; unfold kidV; rw [s.at' _ _ e]; exact h
  · rename_i ys e; unfold kidV; rw [s.at' _ _ e]; exact h
  · rename_i ys e; unfold kidV; rw [s.at' _ _ e]; exact h
  · rename_i e; unfold kidV; rw [s.at' _ _ e]; exact h
  · cases h
section
variable {K : PySem.W.Frag} {mg : Str → Option Value} {O O' : Ow} {H H' : Hp} {w w' : Own}
mutual
theorem TreeR.allP (f : ∀ d v, Rep K mg O H d v → Rep K mg O' H' d v) : ∀ (t : Tr) {p p' : List Nat} {v : V}, (∀ (a : Addr) (u : HO) (r : List Nat), O a = w.at (p ++ r) → H a = some u → nT u → O' a = w'.at (p' ++ r) ∧ H' a = some u) → TreeR K mg O H w p t v → TreeR K mg O' H' w' p' t v
  | .lf _, _, _, _, _, h => f _ _ h
  | .ls ts, p, p', _, g, h => by
    obtain ⟨a, ys, e, o, l, r⟩ := h
    obtain ⟨o', l'⟩ := g a _ [] (by rw [List.append_nil]; exact o) l trivial
    exact ⟨a, ys, e, by rw [List.append_nil] at o'; exact o', l', TreeAll.allP f ts g r⟩
  | .dc _ ts, p, p', _, g, h => by
    obtain ⟨a, ys, e, o, l, q, r⟩ := h
    obtain ⟨o', l'⟩ := g a _ [] (by rw [List.append_nil]; exact o) l trivial
    exact ⟨a, ys, e, by rw [List.append_nil] at o'; exact o', l', q, TreeAll.allP f ts g r⟩
  | .ob _ _ ts, p, p', _, g, h => by
    obtain ⟨a, C, dx, ys, e, o, l, q, r⟩ := h
    obtain ⟨o', l'⟩ := g a _ [] (by rw [List.append_nil]; exact o) l trivial
    exact ⟨a, C, dx, ys, e, by rw [List.append_nil] at o'; exact o', l', q, TreeAll.allP f ts g r⟩
  | .any, _, _, _, _, _ => trivial
  | .tp ts, p, p', _, g, h => by
    obtain ⟨a, ys, e, o, l, r⟩ := h
    obtain ⟨o', l'⟩ := g a _ [] (by rw [List.append_nil]; exact o) l trivial
    exact ⟨a, ys, e, by rw [List.append_nil] at o'; exact o', l', TreeAll.allP f ts g r⟩
theorem TreeAll.allP (f : ∀ d v, Rep K mg O H d v → Rep K mg O' H' d v) : ∀ (ts : List Tr) {p p' : List Nat} {n : Nat} {ys : List V}, (∀ (a : Addr) (u : HO) (r : List Nat), O a = w.at (p ++ r) → H a = some u → nT u → O' a = w'.at (p' ++ r) ∧ H' a = some u) → TreeAll K mg O H w p n ts ys → TreeAll K mg O' H' w' p' n ts ys
  | [], _, _, _, _, _, h => h
  | t :: ts, _, _, n, _, g, h => by
    obtain ⟨y, r, e, a, b⟩ := h
    refine ⟨y, r, e, TreeR.allP f t (fun a u q o l z => ?_) a, TreeAll.allP f ts g b⟩
    rw [List.append_assoc] at o ⊢
    exact g a u _ o l z
end
end
/-! ### a way on which only the things of some trees change -/
def WOw (W : Nat → List Nat → Prop) (o : Own) : Prop := ∃ i p, o = .tr i p ∧ W i p
structure GoT (W : Nat → List Nat → Prop) (O O' : Ow) (H H' : Hp) : Prop where
  cells : ∀ b o, H b = some o → (¬ WOw W (O b) ∨ Fix o) → (h : nT o := by exact trivial) → H' b = some o
  own : ∀ b, H b ≠ none → ¬ WOw W (O b) → O' b = O b
  has : ∀ b, H b ≠ none → H' b ≠ none
  tb : ∀ b ps, H b = some (.tbl ps) → ∃ ps', H' b = some (.tbl ps')
  gd : TabsOk H → TabsOk H'
section
variable {K : PySem.W.Frag} {mg : Str → Option Value} {O O' : Ow} {H H' : Hp} {W : Nat → List Nat → Prop}
end
/-! ### paths: x[k][i].a -/
structure Pt where
  i : Nat
  p : List Nat
  m : TM
  t : Tr
abbrev MP := En → M Pt
def PthR (H : Hp) (σ : En) (σV : St) (x : Pt) (v : V) : Prop := ∃ t0 v0, σ[x.i]? = some (.tr x.m t0) ∧ Tr.atP x.p t0 = some x.t ∧ σV[x.i]?.join = some v0 ∧ PathV H v0 x.p v
def tpOf (K : PySem.W.Frag) (mg : Str → Option Value) (m : MP) : TE := fun σV H Q => ∃ O σ S x S', S3 K mg O σ S σV H ∧ (m σ).run S = .ok x S' ∧ ∀ O' v H', Go O O' H H' → S3 K mg O' σ S' σV H' → PthR H' σ σV x v → Q v H'
abbrev CP (X : Cx) (e : Expr) (m : MP) : Prop := PE X e (tpOf X.K X.mg m)
def pVar (i : Nat) : MP := fun σ => match σ[i]? with
  | some (.tr m t) => pure ⟨i, [], m, t⟩
  | _ => bad
def kidM (ts : List Tr) (n : Nat) (f : Tr → Pt) : M Pt := match ts[n]? with
  | some s => pure (f s)
  | none => bad
def pIx (m : MP) (mk : ME) : MP := fun σ => do
  let x ← m σ
  let k ← mk σ
  match x.t, k with
  | .ls ts, .v (.int j) => if 0 ≤ j then kidM ts j.toNat (Pt.mk x.i (x.p ++ [j.toNat]) x.m) else bad
  | _, _ => bad
def pDk (m : MP) (n : Nat) (key : Str) : MP := fun σ => do
  let x ← m σ
  match x.t with
  | .dc ks ts => if ks[n]? = some (.inr key) then kidM ts n (Pt.mk x.i (x.p ++ [n]) x.m) else bad
  | _ => bad
def pAt (m : MP) (c : Str) (n : Nat) (f : Str) : MP := fun σ => do
  let x ← m σ
  match x.t with
  | .ob c' ns ts => if c' = c ∧ ns[n]? = some f then kidM ts n (Pt.mk x.i (x.p ++ [n]) x.m) else bad
  | _ => bad
/-- the class is the name's, and no class of it has these names -/
structure ClsT (K : PySem.W.Frag) (mg : Str → Option Value) (c : Str) (fs : List Str) : Prop where
  ex : ∃ C, mg c = some (.ref C) ∧ Cls K C ∧ (PySem.W.makesIn K C = true ∧ PySem.W.keepIn K (.ref C) = true) ∧ ∀ f ∈ fs, NoAttr K C f
section
variable {X : Cx} {e k : Expr} {m : MP} {mk : ME} {pos p : Pos}
/-- a leaf -/
def cLeaf (m : MP) : ME := fun σ => do
  let x ← m σ
  match x.t with
  | .lf d => pure (.v d)
  | _ => bad
end
end L3

set_option Elab.async false
set_option linter.all false
set_option maxRecDepth 100000
set_option maxHeartbeats 1000000
namespace L3
open PySem PySem.Spec L2
variable [L2.TabP]
/-! ### puts into a tree -/
section
variable {X : Cx} {e k value : Expr} {mp : MP} {mk mv : ME} {pos pos' : Pos}
/-- e[k] = v -/
def cTIx (mp : MP) (mk mv : ME) : MS := fun σ => do
  let r ← mv σ
  let d ← r.dat
  let x ← mp σ
  let k ← mk σ
  match x.t, k, σ[x.i]? with
  | .ls ts, .v (.int j), some (.tr m t0) => if (0 ≤ j ∧ j < ts.length) ∧ m ≠ .view then pure (.nx (σ.set x.i (.tr m (Tr.put x.p t0 (.ls (ts.set j.toNat (.lf d))))))) else bad
  | _, _, _ => bad
/-- e['k'] = v, the key is there -/
def cTDk (mp : MP) (n : Nat) (key : Str) (mv : ME) : MS := fun σ => do
  let r ← mv σ
  let d ← r.dat
  let x ← mp σ
  match x.t, σ[x.i]? with
  | .dc ks ts, some (.tr m t0) => if (ks[n]? = some (.inr key) ∧ ts.length < 1000) ∧ m ≠ .view then pure (.nx (σ.set x.i (.tr m (Tr.put x.p t0 (.dc ks (ts.set n (.lf d))))))) else bad
  | _, _ => bad
/-- e.f = v, f is there; f is new -/
def cTAt (mp : MP) (c : Str) (n : Nat) (f : Str) (mv : ME) : MS := fun σ => do
  let r ← mv σ
  let d ← r.dat
  let x ← mp σ
  match x.t, σ[x.i]? with
  | .ob c' ns ts, some (.tr m t0) => if (c' = c ∧ ns[n]? = some f ∧ ts.length < 1000) ∧ m ≠ .view then pure (.nx (σ.set x.i (.tr m (Tr.put x.p t0 (.ob c ns (ts.set n (.lf d))))))) else bad
  | _, _ => bad
def cTAn (mp : MP) (c : Str) (A : List Str) (f : Str) (mv : ME) : MS := fun σ => do
  let r ← mv σ
  let d ← r.dat
  let x ← mp σ
  match x.t, σ[x.i]? with
  | .ob c' ns ts, some (.tr m t0) => if (c' = c ∧ ns = A ∧ ts.length < 900) ∧ m ≠ .view then pure (.nx (σ.set x.i (.tr m (Tr.put x.p t0 (.ob c (A ++ [f]) (ts ++ [.lf d])))))) else bad
  | _, _ => bad
end
end L3

set_option Elab.async false
set_option linter.all false
set_option maxRecDepth 100000
set_option maxHeartbeats 1000000
namespace L3
open PySem PySem.Spec L2
variable [L2.TabP]
/-! ### values that are trees, made for a place -/
abbrev MT := En → M Tr
abbrev MTs := En → M (List Tr)
def tvOf (K : PySem.W.Frag) (mg : Str → Option Value) (j : Nat) (p : List Nat) (m : MT) : TE := fun σV H Q => ∃ O σ S t S', S3 K mg O σ S σV H ∧ (m σ).run S = .ok t S' ∧ ∀ O' v H', Go O O' H H' → S3 K mg O' σ S' σV H' → TreeR K mg O' H' (.loc j) p t v → Q v H'
def tvsOf (K : PySem.W.Frag) (mg : Str → Option Value) (j : Nat) (p : List Nat) (n : Nat) (m : MTs) : TA := fun σV H Q => ∃ O σ S ts S', S3 K mg O σ S σV H ∧ (m σ).run S = .ok ts S' ∧ ∀ O' vs H', Go O O' H H' → S3 K mg O' σ S' σV H' → TreeAll K mg O' H' (.loc j) p n ts vs → Q vs H'
abbrev CV (X : Cx) (j : Nat) (p : List Nat) (e : Expr) (m : MT) : Prop := PE X e (tvOf X.K X.mg j p m)
abbrev CVs (X : Cx) (j : Nat) (p : List Nat) (n : Nat) (es : List Expr) (m : MTs) : Prop := PA X es (tvsOf X.K X.mg j p n m)
def vLeaf (m : ME) : MT := fun σ => do
  let r ← m σ
  let d ← r.dat
  pure (.lf d)
def vOwn (m : ME) : MT := fun σ => do
  let r ← m σ
  match r with
  | .fr xs => pure (.ls (xs.map .lf))
  | _ => bad
def vNil : MTs := fun _ => pure []
def vCons (m : MT) (ms : MTs) : MTs := fun σ => do
  let t ← m σ
  let ts ← ms σ
  pure (t :: ts)
def vLst (ms : MTs) : MT := fun σ => do
  let ts ← ms σ
  chk (ts.length ≤ 1000)
  pure (.ls ts)
section
variable {K : PySem.W.Frag} {mg : Str → Option Value} {O O' : Ow} {H H' : Hp}
end
section
variable {X : Cx} {e : Expr} {es : List Expr} {m : ME} {mt : MT} {ms : MTs} {pos : Pos} {j : Nat} {p : List Nat} {n : Nat}
/-! {'k': v, ..} -/
structure CD (X : Cx) (pos : Pos) (j : Nat) (p : List Nat) (n : Nat) (keys : List (Option Expr)) (values : List Expr) (ks : List Key) (ms : MTs) : Prop where
  ex : ∃ trs, PPs X pos keys values trs ∧ ∀ σV H (Q : List (V × V) → Hp → Prop), tvsOf X.K X.mg j p n ms σV H (fun vs H' => Q ((ks.zip vs).map fun kv => (kV kv.1, kv.2)) H') → tPairs trs σV H Q
def vDict (ks : List Key) (ms : MTs) : MT := fun σ => do
  let ts ← ms σ
  chk (ts.length = ks.length)
  pure (.dc ks ts)
/-- x = a tree -/
def cTSet (j : Nat) (m : MT) : MS := fun σ => do
  let t ← m σ
  pure (.nx (σ.set j (.tr .own t)))
/-- x['k'] = a tree, the key is new -/
def cTDn (j : Nat) (A : List Key) (key : Str) (mt : MT) : MS := fun σ => do
  let t ← mt σ
  match σ[j]? with
  | some (.tr md (.dc ks ts)) => if (ks = A ∧ ts.length = A.length ∧ ts.length < 1000) ∧ md ≠ .view then pure (.nx (σ.set j (.tr md (.dc (A ++ [.inr key]) (ts ++ [t]))))) else bad
  | _ => bad
end
end L3

set_option Elab.async false
set_option linter.all false
set_option maxRecDepth 100000
set_option maxHeartbeats 1000000
namespace L3
open PySem PySem.Spec L2
variable [L2.TabP]
/-! ### the bodies of defs that change trees: an early return is a break -/
def Pr (D : Ends) : Ends := { D with bk := fun _ H' => D.rt .non H' }
abbrev CR (X : Cx) (st : Stmt) (m : MS) : Prop := PS X st fun D => tsOf X.K X.mg m (Pr D)
abbrev CRs (X : Cx) (sts : List Stmt) (m : MS) : Prop := PSs X sts fun D => tsOf X.K X.mg m (Pr D)
def cNoB (m : MS) : MS := fun σ => do
  let fl ← m σ
  match fl with
  | .bk _ => bad
  | fl => pure fl
section
variable {X : Cx} {st : Stmt} {rest : List Stmt} {pos : Pos} {a b : MS}
end
/-! ### defs that change the trees that are their first parameters -/
abbrev MTR := List Tr → List D → M (List Tr)
def trsOf : List Slot → M (List Tr)
  | [] => pure []
  | .tr .par t :: r => do
    let ts ← trsOf r
    pure (t :: ts)
  | _ => bad
def trEnd (nt : Nat) (σ' : En) : M (List Tr) := do
  let ts ← trsOf (σ'.take nt)
  chk (ts.length = nt)
  pure ts
def fnTR (nt n N : Nat) (b : MS) : MTR := fun ts ds => if ts.length = nt ∧ nt + ds.length = n then do
    let fl ← b (ts.map (.tr .par) ++ ds.map .val ++ List.replicate (N - n) .emp)
    match fl with
    | .nx σ' => trEnd nt σ'
    | .bk σ' => trEnd nt σ'
    | _ => bad
  else bad
end L3

set_option Elab.async false
set_option linter.all false
set_option maxRecDepth 100000
set_option maxHeartbeats 1000000
namespace L3
open PySem PySem.Spec L2
variable [L2.TabP]
/-! ### methods by name -/
structure DfM (K : PySem.W.Frag) (mg : Str → Option Value) (c m qual : Str) (st : Stmt) (ps : List Str) : Prop where
  ex : ∃ C f fd, mg c = some (.ref C) ∧ Cls K C ∧ Meth K C m f ∧ Fun K m qual st f fd ∧ Binds K fd ps []
structure HasM (P : Program) (w : World) (K : PySem.W.Frag) (mg : Str → Option Value) (base : Heap) (c m : Str) (ps : List Str) (k : Nat) (sp : Sp) : Prop where
  ex : ∃ C f fd, mg c = some (.ref C) ∧ Cls K C ∧ Meth K C m f ∧ FnOk P w K mg base CX0 k f fd ps sp ∧ Binds K fd ps []
section
variable {P : Program} {w : World} {K : PySem.W.Frag} {mg : Str → Option Value} {base : Heap} {x c m qual : Str} {st : Stmt} {ps N : List Str} {k : Nat} {mb : MS} {nt n nl : Nat}
end
/-! ### methods that look only -/
abbrev MTV := Tr → List D → M R
def fnTV (n N : Nat) (b : MS) : MTV := fun t ds => if 1 + ds.length = n then do
    let fl ← b (.tr .view t :: ds.map .val ++ List.replicate (N - n) .emp)
    match fl with
    | .rt (.v d) => pure (.v d)
    | .rt (.fr xs) => pure (.fr xs)
    | .nx _ => pure (.v .non)
    | _ => bad
  else bad
/-! ### defs that return a new tree -/
abbrev MTM := List D → M Tr
def tsTr (K : PySem.W.Frag) (mg : Str → Option Value) (j : Nat) (m : MS) : TS := fun Dn σV H => ∃ O σ S σ' S' t, S3 K mg O σ S σV H ∧ (m σ).run S = .ok (.nx σ') S' ∧ σ'[j]? = some (.tr .own t) ∧ ∀ O' v H', Gs O O' H H' → Dom O' H' → S' = [] → TreeR K mg O' H' (.loc j) [] t v → Dn.rt v H'
abbrev CSt (X : Cx) (j : Nat) (sts : List Stmt) (m : MS) : Prop := PSs X sts (tsTr X.K X.mg j m)
def fnTM (n N j : Nat) (b : MS) : MTM := fun ds => if ds.length = n then do
    let fl ← b (ds.map .val ++ List.replicate (N - n) .emp)
    match fl with
    | .nx σ' => (match σ'[j]? with
      | some (.tr .own t) => pure t
      | _ => bad)
    | _ => bad
  else bad
end L3

set_option Elab.async false
set_option linter.all false
set_option maxRecDepth 100000
set_option maxHeartbeats 1000000
namespace L3
open PySem PySem.Spec L2
variable [L2.TabP]
/-! ### calls of methods by name -/
section
variable {X : Cx} {c m : Str} {ps : List Str} {k : Nat} {sp : Sp} {o e : Expr} {es : List Expr} {ta : TE} {t : TA} {apos pos : Pos}
end
/-! ### o.m(..) in an expression, where m only looks -/
def cTV (mp : MP) (c : Str) (A : List Str) (mf : MTV) (ms : MA) : ME := fun σ => do
  let x ← mp σ
  let rs ← ms σ
  let ds ← dats rs
  match x.t with
  | .ob c' ns ts => if c' = c ∧ ns = A then mf (.ob c ns ts) ds else bad
  | _ => bad
section
variable {X : Cx} {c m : Str} {ps : List Str} {k : Nat} {o e : Expr} {es : List Expr} {apos pos pos' : Pos} {mp : MP} {mf : MTV} {mr : MTR} {ms : MA} {A : List Str}
/-! ### o.m(..) as a statement, where m changes o -/
def put1 (f : Tr → Fl) : List Tr → M Fl
  | [t] => pure (f t)
  | _ => bad
def put2 (f : Tr → Tr → Fl) : List Tr → M Fl
  | [t, s] => pure (f t s)
  | _ => bad
def cTM (mp : MP) (c : Str) (A : List Str) (mf : MTR) (ms : MA) : MS := fun σ => do
  let x ← mp σ
  let rs ← ms σ
  let ds ← dats rs
  match x.t, σ[x.i]? with
  | .ob c' ns ts, some (.tr md t0) => if (c' = c ∧ ns = A) ∧ md ≠ .view then mf [.ob c ns ts] ds >>= put1 (fun s' => .nx (σ.set x.i (.tr md (Tr.put x.p t0 s')))) else bad
  | _, _ => bad
end
/-! ### f(x, ..), f(x, y, ..) as statements, where f changes the trees x, y -/
def cTR1 (i : Nat) (mf : MTR) (ms : MA) : MS := fun σ => do
  let rs ← ms σ
  let ds ← dats rs
  match σ[i]? with
  | some (.tr m t) => if m ≠ .view then mf [t] ds >>= put1 (fun t' => .nx (σ.set i (.tr m t'))) else bad
  | _ => bad
def cTR2 (i j : Nat) (mf : MTR) (ms : MA) : MS := fun σ => do
  let rs ← ms σ
  let ds ← dats rs
  match σ[i]?, σ[j]? with
  | some (.tr m t), some (.tr n s) => if m ≠ .view ∧ n ≠ .view then mf [t, s] ds >>= put2 (fun t' s' => .nx ((σ.set i (.tr m t')).set j (.tr n s'))) else bad
  | _, _ => bad
section
variable {X : Cx} {x y z : Str} {ps : List Str} {k i j : Nat} {mr : MTR} {p p1 p2 pos pos' : Pos} {es : List Expr} {ms : MA}
end
/-! ### new trees by calls: a def's, a class's -/
def vCall (mf : MTM) (ms : MA) : MT := fun σ => do
  let rs ← ms σ
  let ds ← dats rs
  mf ds
def vMake (c : Str) (mf : MTR) (ms : MA) : MT := fun σ => do
  let rs ← ms σ
  let ds ← dats rs
  let ts ← mf [.ob c [] []] ds
  match ts with
  | [t] => pure t
  | _ => bad
section
variable {X : Cx} {x : Str} {ps : List Str} {k j : Nat} {q : List Nat} {mf : MTM} {mr : MTR} {p pos : Pos} {e : Expr} {es : List Expr} {ms : MA}
end
/-! ### what of the text a class has -/
end L3

set_option Elab.async false
set_option linter.all false
set_option maxRecDepth 100000
set_option maxHeartbeats 1000000
namespace L3
open PySem PySem.Spec L2
section
variable [L2.TabP] (X : Cx)
structure WP (e : Expr) (m : MP) : Prop where
  un : CP X e m
structure WV (j : Nat) (p : List Nat) (e : Expr) (m : MT) : Prop where
  un : CV X j p e m
structure WVs (j : Nat) (p : List Nat) (n : Nat) (e : List Expr) (m : MTs) : Prop where
  un : CVs X j p n e m
structure WR (e : Stmt) (m : MS) : Prop where
  un : CR X e m
structure WRs (e : List Stmt) (m : MS) : Prop where
  un : CRs X e m
structure WSt (j : Nat) (e : List Stmt) (m : MS) : Prop where
  un : CSt X j e m
end
section
variable [L2.TabP]
variable {X : Cx} {e k : Expr} {m : MP} {mk : ME} {pos p : Pos}
end
section
variable [L2.TabP]
variable {X : Cx} {e k : Expr} {m : MP} {mk : ME} {pos p : Pos}
end
section
variable [L2.TabP]
variable {X : Cx} {e k : Expr} {m : MP} {mk : ME} {pos p : Pos}
end
section
variable [L2.TabP]
variable {X : Cx} {e k : Expr} {m : MP} {mk : ME} {pos p : Pos}
end
section
variable [L2.TabP]
variable {X : Cx} {e k : Expr} {m : MP} {mk : ME} {pos p : Pos}
end
section
variable [L2.TabP]
variable {X : Cx} {e k value : Expr} {mp : MP} {mk mv : ME} {pos pos' : Pos}
end
section
variable [L2.TabP]
variable {X : Cx} {e k value : Expr} {mp : MP} {mk mv : ME} {pos pos' : Pos}
end
section
variable [L2.TabP]
variable {X : Cx} {e k value : Expr} {mp : MP} {mk mv : ME} {pos pos' : Pos}
end
section
variable [L2.TabP]
variable {X : Cx} {e k value : Expr} {mp : MP} {mk mv : ME} {pos pos' : Pos}
end
section
variable [L2.TabP]
variable {X : Cx} {e : Expr} {es : List Expr} {m : ME} {mt : MT} {ms : MTs} {pos : Pos} {j : Nat} {p : List Nat} {n : Nat}
end
section
variable [L2.TabP]
variable {X : Cx} {e : Expr} {es : List Expr} {m : ME} {mt : MT} {ms : MTs} {pos : Pos} {j : Nat} {p : List Nat} {n : Nat}
end
section
variable [L2.TabP]
variable {X : Cx} {e : Expr} {es : List Expr} {m : ME} {mt : MT} {ms : MTs} {pos : Pos} {j : Nat} {p : List Nat} {n : Nat}
end
section
variable [L2.TabP]
variable {X : Cx} {e : Expr} {es : List Expr} {m : ME} {mt : MT} {ms : MTs} {pos : Pos} {j : Nat} {p : List Nat} {n : Nat}
end
section
variable [L2.TabP]
variable {X : Cx} {e : Expr} {es : List Expr} {m : ME} {mt : MT} {ms : MTs} {pos : Pos} {j : Nat} {p : List Nat} {n : Nat}
end
section
variable [L2.TabP]
variable {X : Cx} {e : Expr} {es : List Expr} {m : ME} {mt : MT} {ms : MTs} {pos : Pos} {j : Nat} {p : List Nat} {n : Nat}
end
section
variable [L2.TabP]
variable {X : Cx} {e : Expr} {es : List Expr} {m : ME} {mt : MT} {ms : MTs} {pos : Pos} {j : Nat} {p : List Nat} {n : Nat}
end
section
variable [L2.TabP]
variable {X : Cx} {e : Expr} {es : List Expr} {m : ME} {mt : MT} {ms : MTs} {pos : Pos} {j : Nat} {p : List Nat} {n : Nat}
end
section
variable [L2.TabP]
variable {X : Cx} {e : Expr} {es : List Expr} {m : ME} {mt : MT} {ms : MTs} {pos : Pos} {j : Nat} {p : List Nat} {n : Nat}
end
section
variable [L2.TabP]
variable {X : Cx} {e : Expr} {es : List Expr} {m : ME} {mt : MT} {ms : MTs} {pos : Pos} {j : Nat} {p : List Nat} {n : Nat}
end
section
variable [L2.TabP]
variable {X : Cx} {st : Stmt} {rest : List Stmt} {pos : Pos} {a b : MS}
end
section
variable [L2.TabP]
variable {X : Cx} {st : Stmt} {rest : List Stmt} {pos : Pos} {a b : MS}
end
section
variable [L2.TabP]
variable {X : Cx} {st : Stmt} {rest : List Stmt} {pos : Pos} {a b : MS}
end
section
variable [L2.TabP]
variable {X : Cx} {st : Stmt} {rest : List Stmt} {pos : Pos} {a b : MS}
end
section
variable [L2.TabP]
variable {X : Cx} {st : Stmt} {rest : List Stmt} {pos : Pos} {a b : MS}
end
section
variable [L2.TabP]
variable {X : Cx} {st : Stmt} {rest : List Stmt} {pos : Pos} {a b : MS}
end
section
variable [L2.TabP]
end
section
variable [L2.TabP]
end
section
variable [L2.TabP]
variable {X : Cx} {c m : Str} {ps : List Str} {k : Nat} {o e : Expr} {es : List Expr} {apos pos pos' : Pos} {mp : MP} {mf : MTV} {mr : MTR} {ms : MA} {A : List Str}
end
section
variable [L2.TabP]
variable {X : Cx} {c m : Str} {ps : List Str} {k : Nat} {o e : Expr} {es : List Expr} {apos pos pos' : Pos} {mp : MP} {mf : MTV} {mr : MTR} {ms : MA} {A : List Str}
end
section
variable [L2.TabP]
variable {X : Cx} {c m : Str} {ps : List Str} {k : Nat} {o e : Expr} {es : List Expr} {apos pos pos' : Pos} {mp : MP} {mf : MTV} {mr : MTR} {ms : MA} {A : List Str}
end
section
variable [L2.TabP]
variable {X : Cx} {x y z : Str} {ps : List Str} {k i j : Nat} {mr : MTR} {p p1 p2 pos pos' : Pos} {es : List Expr} {ms : MA}
end
section
variable [L2.TabP]
variable {X : Cx} {x y z : Str} {ps : List Str} {k i j : Nat} {mr : MTR} {p p1 p2 pos pos' : Pos} {es : List Expr} {ms : MA}
end
section
variable [L2.TabP]
variable {X : Cx} {x : Str} {ps : List Str} {k j : Nat} {q : List Nat} {mf : MTM} {mr : MTR} {p pos : Pos} {e : Expr} {es : List Expr} {ms : MA}
end
section
variable [L2.TabP]
variable {X : Cx} {x : Str} {ps : List Str} {k j : Nat} {q : List Nat} {mf : MTM} {mr : MTR} {p pos : Pos} {e : Expr} {es : List Expr} {ms : MA}
end
end L3

set_option Elab.async false
set_option linter.all false
set_option maxRecDepth 100000
set_option maxHeartbeats 1000000
namespace L3
open PySem PySem.Spec L2
@[simp] theorem e_pVar {i : Nat} {σ : En} : pVar i σ = (match σ[i]? with
  | some (.tr m t) => pure ⟨i, [], m, t⟩
  | _ => bad) := rfl
@[simp] theorem e_pIx {m : MP} {mk : ME} {σ : En} : pIx m mk σ = (do
  let x ← m σ
  let k ← mk σ
  match x.t, k with
  | .ls ts, .v (.int j) => if 0 ≤ j then kidM ts j.toNat (Pt.mk x.i (x.p ++ [j.toNat]) x.m) else bad
  | _, _ => bad) := rfl
@[simp] theorem e_pDk {m : MP} {n : Nat} {key : Str} {σ : En} : pDk m n key σ = (do
  let x ← m σ
  match x.t with
  | .dc ks ts => if ks[n]? = some (.inr key) then kidM ts n (Pt.mk x.i (x.p ++ [n]) x.m) else bad
  | _ => bad) := rfl
@[simp] theorem e_pAt {m : MP} {c : Str} {n : Nat} {f : Str} {σ : En} : pAt m c n f σ = (do
  let x ← m σ
  match x.t with
  | .ob c' ns ts => if c' = c ∧ ns[n]? = some f then kidM ts n (Pt.mk x.i (x.p ++ [n]) x.m) else bad
  | _ => bad) := rfl
@[simp] theorem e_cLeaf {m : MP} {σ : En} : cLeaf m σ = (do
  let x ← m σ
  match x.t with
  | .lf d => pure (.v d)
  | _ => bad) := rfl
@[simp] theorem e_cTIx {mp : MP} {mk mv : ME} {σ : En} : cTIx mp mk mv σ = (do
  let r ← mv σ
  let d ← r.dat
  let x ← mp σ
  let k ← mk σ
  match x.t, k, σ[x.i]? with
  | .ls ts, .v (.int j), some (.tr m t0) => if (0 ≤ j ∧ j < ts.length) ∧ m ≠ .view then pure (.nx (σ.set x.i (.tr m (Tr.put x.p t0 (.ls (ts.set j.toNat (.lf d))))))) else bad
  | _, _, _ => bad) := rfl
@[simp] theorem e_cTDk {mp : MP} {n : Nat} {key : Str} {mv : ME} {σ : En} : cTDk mp n key mv σ = (do
  let r ← mv σ
  let d ← r.dat
  let x ← mp σ
  match x.t, σ[x.i]? with
  | .dc ks ts, some (.tr m t0) => if (ks[n]? = some (.inr key) ∧ ts.length < 1000) ∧ m ≠ .view then pure (.nx (σ.set x.i (.tr m (Tr.put x.p t0 (.dc ks (ts.set n (.lf d))))))) else bad
  | _, _ => bad) := rfl
@[simp] theorem e_cTAt {mp : MP} {c : Str} {n : Nat} {f : Str} {mv : ME} {σ : En} : cTAt mp c n f mv σ = (do
  let r ← mv σ
  let d ← r.dat
  let x ← mp σ
  match x.t, σ[x.i]? with
  | .ob c' ns ts, some (.tr m t0) => if (c' = c ∧ ns[n]? = some f ∧ ts.length < 1000) ∧ m ≠ .view then pure (.nx (σ.set x.i (.tr m (Tr.put x.p t0 (.ob c ns (ts.set n (.lf d))))))) else bad
  | _, _ => bad) := rfl
@[simp] theorem e_cTAn {mp : MP} {c : Str} {A : List Str} {f : Str} {mv : ME} {σ : En} : cTAn mp c A f mv σ = (do
  let r ← mv σ
  let d ← r.dat
  let x ← mp σ
  match x.t, σ[x.i]? with
  | .ob c' ns ts, some (.tr m t0) => if (c' = c ∧ ns = A ∧ ts.length < 900) ∧ m ≠ .view then pure (.nx (σ.set x.i (.tr m (Tr.put x.p t0 (.ob c (A ++ [f]) (ts ++ [.lf d])))))) else bad
  | _, _ => bad) := rfl
@[simp] theorem e_vLeaf {m : ME} {σ : En} : vLeaf m σ = (do
  let r ← m σ
  let d ← r.dat
  pure (.lf d)) := rfl
@[simp] theorem e_vOwn {m : ME} {σ : En} : vOwn m σ = (do
  let r ← m σ
  match r with
  | .fr xs => pure (.ls (xs.map .lf))
  | _ => bad) := rfl
@[simp] theorem e_vNil  {σ : En} : vNil  σ = (pure []) := rfl
@[simp] theorem e_vCons {m : MT} {ms : MTs} {σ : En} : vCons m ms σ = (do
  let t ← m σ
  let ts ← ms σ
  pure (t :: ts)) := rfl
@[simp] theorem e_vLst {ms : MTs} {σ : En} : vLst ms σ = (do
  let ts ← ms σ
  chk (ts.length ≤ 1000)
  pure (.ls ts)) := rfl
@[simp] theorem e_vDict {ks : List Key} {ms : MTs} {σ : En} : vDict ks ms σ = (do
  let ts ← ms σ
  chk (ts.length = ks.length)
  pure (.dc ks ts)) := rfl
@[simp] theorem e_cTSet {j : Nat} {m : MT} {σ : En} : cTSet j m σ = (do
  let t ← m σ
  pure (.nx (σ.set j (.tr .own t)))) := rfl
@[simp] theorem e_cTDn {j : Nat} {A : List Key} {key : Str} {mt : MT} {σ : En} : cTDn j A key mt σ = (do
  let t ← mt σ
  match σ[j]? with
  | some (.tr md (.dc ks ts)) => if (ks = A ∧ ts.length = A.length ∧ ts.length < 1000) ∧ md ≠ .view then pure (.nx (σ.set j (.tr md (.dc (A ++ [.inr key]) (ts ++ [t]))))) else bad
  | _ => bad) := rfl
@[simp] theorem e_cNoB {m : MS} {σ : En} : cNoB m σ = (do
  let fl ← m σ
  match fl with
  | .bk _ => bad
  | fl => pure fl) := rfl
@[simp] theorem e_trEnd {nt : Nat} {σ' : En} : trEnd nt σ' = (do
  let ts ← trsOf (σ'.take nt)
  chk (ts.length = nt)
  pure ts) := rfl
@[simp] theorem e_cTV {mp : MP} {c : Str} {A : List Str} {mf : MTV} {ms : MA} {σ : En} : cTV mp c A mf ms σ = (do
  let x ← mp σ
  let rs ← ms σ
  let ds ← dats rs
  match x.t with
  | .ob c' ns ts => if c' = c ∧ ns = A then mf (.ob c ns ts) ds else bad
  | _ => bad) := rfl
@[simp] theorem e_cTM {mp : MP} {c : Str} {A : List Str} {mf : MTR} {ms : MA} {σ : En} : cTM mp c A mf ms σ = (do
  let x ← mp σ
  let rs ← ms σ
  let ds ← dats rs
  match x.t, σ[x.i]? with
  | .ob c' ns ts, some (.tr md t0) => if (c' = c ∧ ns = A) ∧ md ≠ .view then mf [.ob c ns ts] ds >>= put1 (fun s' => .nx (σ.set x.i (.tr md (Tr.put x.p t0 s')))) else bad
  | _, _ => bad) := rfl
@[simp] theorem e_cTR1 {i : Nat} {mf : MTR} {ms : MA} {σ : En} : cTR1 i mf ms σ = (do
  let rs ← ms σ
  let ds ← dats rs
  match σ[i]? with
  | some (.tr m t) => if m ≠ .view then mf [t] ds >>= put1 (fun t' => .nx (σ.set i (.tr m t'))) else bad
  | _ => bad) := rfl
@[simp] theorem e_cTR2 {i j : Nat} {mf : MTR} {ms : MA} {σ : En} : cTR2 i j mf ms σ = (do
  let rs ← ms σ
  let ds ← dats rs
  match σ[i]?, σ[j]? with
  | some (.tr m t), some (.tr n s) => if m ≠ .view ∧ n ≠ .view then mf [t, s] ds >>= put2 (fun t' s' => .nx ((σ.set i (.tr m t')).set j (.tr n s'))) else bad
  | _, _ => bad) := rfl
@[simp] theorem e_vCall {mf : MTM} {ms : MA} {σ : En} : vCall mf ms σ = (do
  let rs ← ms σ
  let ds ← dats rs
  mf ds) := rfl
@[simp] theorem e_vMake {c : Str} {mf : MTR} {ms : MA} {σ : En} : vMake c mf ms σ = (do
  let rs ← ms σ
  let ds ← dats rs
  let ts ← mf [.ob c [] []] ds
  match ts with
  | [t] => pure t
  | _ => bad) := rfl
@[simp] theorem e_fnTR {nt n N : Nat} {b : MS} {ts : List Tr} {ds : List D} : fnTR nt n N b ts ds = (if ts.length = nt ∧ nt + ds.length = n then do
    let fl ← b (ts.map (.tr .par) ++ ds.map .val ++ List.replicate (N - n) .emp)
    match fl with
    | .nx σ' => trEnd nt σ'
    | .bk σ' => trEnd nt σ'
    | _ => bad
  else bad) := rfl
@[simp] theorem e_fnTV {n N : Nat} {b : MS} {t : Tr} {ds : List D} : fnTV n N b t ds = (if 1 + ds.length = n then do
    let fl ← b (.tr .view t :: ds.map .val ++ List.replicate (N - n) .emp)
    match fl with
    | .rt (.v d) => pure (.v d)
    | .rt (.fr xs) => pure (.fr xs)
    | .nx _ => pure (.v .non)
    | _ => bad
  else bad) := rfl
@[simp] theorem e_fnTM {n N j : Nat} {b : MS} {ds : List D} : fnTM n N j b ds = (if ds.length = n then do
    let fl ← b (ds.map .val ++ List.replicate (N - n) .emp)
    match fl with
    | .nx σ' => (match σ'[j]? with
      | some (.tr .own t) => pure t
      | _ => bad)
    | _ => bad
  else bad) := rfl
@[simp] theorem e_kidM {ts : List Tr} {n : Nat} {f : Tr → Pt} : kidM ts n f = (match ts[n]? with
  | some s => pure (f s)
  | none => bad) := rfl
@[simp] theorem e_put1 {f : Tr → Fl} {t : Tr} : put1 f [t] = pure (f t) := rfl
@[simp] theorem e_put2 {f : Tr → Tr → Fl} {t s : Tr} : put2 f [t, s] = pure (f t s) := rfl
@[simp] theorem e_trsN : trsOf [] = pure [] := rfl
@[simp] theorem e_trsC {t : Tr} {r : List Slot} : trsOf (.tr .par t :: r) = (do
  let ts ← trsOf r
  pure (t :: ts)) := rfl
@[simp] theorem e_kidsL {ts : List Tr} : Tr.kids (.ls ts) = ts := rfl
@[simp] theorem e_kidsD {ks : List Key} {ts : List Tr} : Tr.kids (.dc ks ts) = ts := rfl
@[simp] theorem e_kidsO {c : Str} {ns : List Str} {ts : List Tr} : Tr.kids (.ob c ns ts) = ts := rfl
@[simp] theorem e_subL {ts : List Tr} {n : Nat} {s : Tr} : Tr.sub (.ls ts) n s = .ls (ts.set n s) := rfl
@[simp] theorem e_subD {ks : List Key} {ts : List Tr} {n : Nat} {s : Tr} : Tr.sub (.dc ks ts) n s = .dc ks (ts.set n s) := rfl
@[simp] theorem e_subO {c : Str} {ns : List Str} {ts : List Tr} {n : Nat} {s : Tr} : Tr.sub (.ob c ns ts) n s = .ob c ns (ts.set n s) := rfl
@[simp] theorem e_putN {t s : Tr} : Tr.put [] t s = s := rfl
@[simp] theorem e_putC {n : Nat} {p : List Nat} {t s : Tr} : Tr.put (n :: p) t s = (match t.kids[n]? with
    | some u => t.sub n (Tr.put p u s)
    | none => t) := rfl
end L3

set_option Elab.async false
set_option linter.all false
set_option maxRecDepth 100000
set_option maxHeartbeats 1000000
namespace L3
open PySem PySem.Spec L2
/-! ### zip of two sequences, tuples or lists -/
def SqI (b : Bool) (h : Heap) (i l : Addr) (k : Nat) : Prop := match b with
  | true => h.IsTupleIter i l k
  | false => h.IsListIter i l k
def SqO (b : Bool) (h : Heap) (l : Addr) (xs : Array Value) : Prop := match b with
  | true => h.IsTuple l xs
  | false => h.IsList l xs
theorem SqI.extBut {b : Bool} {h h' : Heap} {a c l : Addr} {i : Nat} (x : SqI b h a l i) (hs : Heap.ExtBut c h h') (hac : a ≠ c) : SqI b h' a l i := by
  cases b with
  | true => exact Heap.IsTupleIter.extBut x hs hac
  | false => exact Heap.IsListIter.extBut x hs hac
theorem SqO.extBut {b : Bool} {h h' : Heap} {a c : Addr} {xs : Array Value} (x : SqO b h a xs) (hs : Heap.ExtBut c h h') (hac : a ≠ c) : SqO b h' a xs := by
  cases b with
  | true => exact Heap.IsTuple.extBut x hs hac
  | false => exact Heap.IsList.extBut x hs hac
theorem SqI.obj {b : Bool} {h : Heap} {a l : Addr} {i : Nat} (x : SqI b h a l i) : ∃ o vs, h.get? a = some o ∧ o.data = .fields vs := by
  cases b with
  | true => obtain ⟨o, e, _, d⟩ := x; exact ⟨o, _, e, d⟩
  | false => obtain ⟨o, e, _, d⟩ := x; exact ⟨o, _, e, d⟩
theorem SqI.at' {b : Bool} {h h' : Heap} {a l : Addr} {i : Nat} (x : SqI b h a l i) (k : ∀ o, h.get? a = some o → h'.get? a = some o) : SqI b h' a l i := by
  cases b with
  | true => obtain ⟨o, e, r⟩ := x; exact ⟨o, k o e, r⟩
  | false => obtain ⟨o, e, r⟩ := x; exact ⟨o, k o e, r⟩
theorem SqO.obj {b : Bool} {h : Heap} {a : Addr} {xs : Array Value} (x : SqO b h a xs) : ∃ o n, h.get? a = some o ∧ o.data = .seq xs n := by
  cases b with
  | true => obtain ⟨o, e, _, n, d⟩ := x; exact ⟨o, n, e, d⟩
  | false => obtain ⟨o, e, _, n, d⟩ := x; exact ⟨o, n, e, d⟩
section
variable {prog : Program} {w : World} {A : Around} {E : Value → Shared → Prop} {s : Shared}
theorem next_sq_item {b : Bool} {it l : Addr} {i : Nat} {items : Array Value} {x : Value} {Q : Value → Shared → Prop} (hit : SqI b s.heap it l i) (hl : SqO b s.heap l items) (hx : items[i]? = some x)
    (hQ : ∀ h', SqI b h' it l (i + 1) → Heap.SameBut it s.heap h' → Q x { s with heap := h' }) : wpAny (model prog w) A (Builtin.SmallTypes.nextOf (.ref it)) Q E s := by
  cases b with
  | false => exact wpAny_nextOf_list_item hit hl hx hQ
  | true =>
    have hit : s.heap.IsTupleIter it l i := hit
    obtain ⟨o, ho, hc, hd⟩ := id hit
    obtain ⟨ol, hol, _, nl, hdl⟩ := hl
    unfold Builtin.SmallTypes.nextOf
    refine wpAny_bind (wpAny_callSpecial?_slot (name := Str.ofString "__next__") hit.typeIs F.slot_tuple_iterator_next (wpAny_call_entry F.slot_tuple_iterator_next hit.typeIs F.entry_tuple_iterator_next ?_ (F.args_tuple_iterator_next_1 _)))
    show wpAny _ _ (field (.ref it) 0 >>= _) _ _ s
    refine wpAny_bind (wpAny_field ho hd (x := .ref l) rfl ?_)
    show wpAny _ _ (if (Value.ref l == Value.none) = true then _ else _) _ _ s
    rw [if_neg (show ¬ ((Value.ref l == Value.none) = true) from Bool.false_ne_true)]
    show wpAny _ _ (field (.ref it) 1 >>= _) _ _ s
    refine wpAny_bind (wpAny_field ho hd (x := .int i 0) rfl ?_)
    show wpAny _ _ (seqItems? (.ref l) >>= _) _ _ s
    refine wpAny_bind (wpAny_seqItems hol hdl ?_)
    simp only [Int.toNat_natCast, hx]
    refine wpAny_bind (wpAny_setField ho hd (by simp) (wpAny_pure ⟨x, rfl, wpAny_pure (hQ _ ?_ (Heap.SameBut.update ..))⟩))
    exact ⟨_, Heap.get?_update_self _ ho (Obj.isFreed_of_fields (Obj.data_mapFields hd _)), (Obj.cls_mapFields ..).trans hc, by rw [Obj.data_mapFields hd]; simp [rawInt]⟩
theorem next_sq_end {b : Bool} {it l : Addr} {i : Nat} {items : Array Value} {Q : Value → Shared → Prop} (hh : A.handled = none) (hit : SqI b s.heap it l i) (hl : SqO b s.heap l items) (hx : items[i]? = none)
    (hE : ∀ h' e, Heap.ExtBut it s.heap h' → (∃ o, h'.get? e = some o ∧ o.cls = .type "StopIteration") → E (.ref e) { s with heap := h' }) : wpAny (model prog w) A (Builtin.SmallTypes.nextOf (.ref it)) Q E s := by
  cases b with
  | false => exact wpAny_nextOf_list_end hh hit hl hx hE
  | true =>
    have hit : s.heap.IsTupleIter it l i := hit
    obtain ⟨o, ho, hc, hd⟩ := id hit
    obtain ⟨ol, hol, _, nl, hdl⟩ := hl
    unfold Builtin.SmallTypes.nextOf
    refine wpAny_bind (wpAny_callSpecial?_slot (name := Str.ofString "__next__") hit.typeIs F.slot_tuple_iterator_next (wpAny_call_entry F.slot_tuple_iterator_next hit.typeIs F.entry_tuple_iterator_next ?_ (F.args_tuple_iterator_next_1 _)))
    show wpAny _ _ (field (.ref it) 0 >>= _) _ _ s
    refine wpAny_bind (wpAny_field ho hd (x := .ref l) rfl ?_)
    show wpAny _ _ (if (Value.ref l == Value.none) = true then _ else _) _ _ s
    rw [if_neg (show ¬ ((Value.ref l == Value.none) = true) from Bool.false_ne_true)]
    show wpAny _ _ (field (.ref it) 1 >>= _) _ _ s
    refine wpAny_bind (wpAny_field ho hd (x := .int i 0) rfl ?_)
    show wpAny _ _ (seqItems? (.ref l) >>= _) _ _ s
    refine wpAny_bind (wpAny_seqItems hol hdl ?_)
    simp only [Int.toNat_natCast, hx]
    refine wpAny_bind (wpAny_rule (wpAny_bind (wpAny_setField ho hd (by simp) ?_)))
    show wpAny _ _ (newExc (.type "StopIteration") [] >>= _) _ _ _
    refine wpAny_bind ?_
    simp only [newExc, newTuple]
    refine wpAny_bind (wpAny_newObj_type ?_ (by size_fits))
    refine wpAny_bind (m := firstArgMember _ _) (wpAny_of_eq (a := Value.none) (by first | rfl | (simp only [firstArgMember]; rfl)) ?_)
    refine wpAny_newObj_type ?_ (by size_fits)
    simp only [raiseNew]
    refine wpAny_bind (wpAny_handled ?_)
    first | rw [show A.in1.handled = none from hh] | rw [hh]
    refine wpAny_bind (wpAny_pure (wpAny_throw ?_))
    exact hE _ _ (((Heap.SameBut.update ..).extBut.push _).push _) ⟨_, Heap.get?_push_size _ rfl, rfl⟩
end
end L3

set_option Elab.async false
set_option linter.all false
set_option maxRecDepth 100000
set_option maxHeartbeats 1000000
namespace L3
open PySem PySem.Spec L2
section
variable {prog : Program} {w : World} {A : Around} {E : Value → Shared → Prop} {s : Shared}
theorem zip_sq_item {b1 b2 : Bool} {z TI TO i1 i2 l1 l2 : Addr} {k1 k2 : Nat} {xs ys : Array Value} {x y a b : Value} {Q : Option Value → Shared → Prop} (D : ZipApart z TI TO i1 i2 l1 l2)
    (hz : IsZip s.heap z TI TO .none) (hTI : IsPair s.heap TI (.ref i1) (.ref i2)) (hTO : IsPair s.heap TO a b)
    (h1 : SqI b1 s.heap i1 l1 k1) (h2 : SqI b2 s.heap i2 l2 k2) (hl1 : SqO b1 s.heap l1 xs) (hl2 : SqO b2 s.heap l2 ys) (hx : xs[k1]? = some x) (hy : ys[k2]? = some y)
    (hQ : ∀ h', IsZip h' z TI TO (rawInt s.heap.objs.size) → IsPair h' TO x y → SqI b1 h' i1 l1 (k1 + 1) → SqI b2 h' i2 l2 (k2 + 1) → IsPair h' s.heap.objs.size x y →
      (∀ c o, c ≠ z → c ≠ TO → c ≠ i1 → c ≠ i2 → s.heap.get? c = some o → h'.get? c = some o) → Q (some (.ref s.heap.objs.size)) { s with heap := h' }) :
    wpAny (model prog w) A (pyNext (.ref z)) Q E s := by
  have hT : s.TypeIs (.ref z) "zip" := ⟨_, hz, rfl⟩
  unfold pyNext
  refine wpAny_bind (wpAny_attempt (wpAny_callSpecial?_slot (name := Str.ofString "__next__") hT F.slot_zip_next (wpAny_call_entry F.slot_zip_next hT F.entry_zip_next ?_ (F.args_zip_next_1 _))))
  show wpAny _ _ (field (.ref z) 2 >>= _) _ _ _
  refine wpAny_bind (wpAny_field hz rfl (x := .bool false) rfl ?_)
  show wpAny _ _ (field (.ref z) 3 >>= _) _ _ _
  refine wpAny_bind (wpAny_field hz rfl (x := .ref TI) rfl ?_)
  refine wpAny_bind (wpAny_seqItems hTI rfl ?_)
  show wpAny _ _ (Builtin.SmallTypes.ownedTupleIsFree (.ref z) >>= _) _ _ _
  refine wpAny_bind ?_
  unfold Builtin.SmallTypes.ownedTupleIsFree
  refine wpAny_bind (wpAny_field hz rfl (x := .none) rfl (wpAny_pure ?_))
  simp only [if_true]
  refine wpAny_bind (wpAny_rule ?_)
  refine wpAny_bind (wpAny_field hz rfl (x := .ref TO) rfl ?_)
  refine wpAny_bind (wpAny_setField_rec hz (by simp) fun h₁ hz₁ hs₁ => ?_)
  replace hz₁ : IsZip h₁ z TI TO .ellipsis := hz₁
  refine wpAny_bind ?_
  simp only [List.zipIdx_cons, List.zipIdx_nil, List.forIn_cons, List.forIn_nil]
  refine wpAny_bind (wpAny_bind (wpAny_onRaise ?_))
  show wpAny _ _ (Builtin.SmallTypes.nextOf (.ref i1) >>= _) _ _ _
  refine wpAny_bind (next_sq_item (h1.extBut hs₁.extBut D.i1z) (hl1.extBut hs₁.extBut D.l1z) hx fun h₂ h1₂ hs₂ => wpAny_pure ?_)
  have hTO₂ : IsPair h₂ TO a b := hs₂.extBut _ _ D.TOi1 (hs₁.extBut _ _ D.TOz hTO)
  refine wpAny_bind (wpAny_seqItems hTO₂ rfl ?_)
  refine wpAny_bind (wpAny_updateSeq_pair hTO₂ fun h₃ hTO₃ hs₃ => ?_)
  replace hTO₃ : IsPair h₃ TO x b := hTO₃
  refine wpAny_bind (wpAny_letGo (wpAny_pure ?_))
  refine wpAny_bind (wpAny_bind (wpAny_onRaise ?_))
  show wpAny _ _ (Builtin.SmallTypes.nextOf (.ref i2) >>= _) _ _ _
  refine wpAny_bind (next_sq_item (((h2.extBut hs₁.extBut D.i2z).extBut hs₂.extBut D.i12.symm).extBut hs₃.extBut D.TOi2.symm)
    (((hl2.extBut hs₁.extBut D.l2z).extBut hs₂.extBut D.l2i1).extBut hs₃.extBut D.l2TO) hy fun h₄ h2₄ hs₄ => wpAny_pure ?_)
  have hTO₄ : IsPair h₄ TO x b := hs₄.extBut _ _ D.TOi2 hTO₃
  refine wpAny_bind (wpAny_seqItems hTO₄ rfl ?_)
  refine wpAny_bind (wpAny_updateSeq_pair hTO₄ fun h₅ hTO₅ hs₅ => ?_)
  replace hTO₅ : IsPair h₅ TO x y := hTO₅
  refine wpAny_bind (wpAny_letGo (wpAny_pure (wpAny_pure ?_)))
  refine wpAny_bind (wpAny_seqItems hTO₅ rfl ?_)
  refine wpAny_bind (wpAny_newTuple ?_)
  have hsz : h₅.objs.size = s.heap.objs.size := by rw [hs₅.1, hs₄.1, hs₃.1, hs₂.1, hs₁.1]
  have hz₅ : IsZip h₅ z TI TO .ellipsis := hs₅.extBut _ _ D.TOz.symm (hs₄.extBut _ _ D.i2z.symm (hs₃.extBut _ _ D.TOz.symm (hs₂.extBut _ _ D.i1z.symm hz₁)))
  have hk₅ : ∀ c o, c ≠ z → c ≠ TO → c ≠ i1 → c ≠ i2 → s.heap.get? c = some o → h₅.get? c = some o := fun c o c1 c2 c3 c4 e =>
    hs₅.extBut _ _ c2 (hs₄.extBut _ _ c4 (hs₃.extBut _ _ c2 (hs₂.extBut _ _ c3 (hs₁.extBut _ _ c1 e))))
  have h1₅ : SqI b1 h₅ i1 l1 (k1 + 1) := ((h1₂.extBut hs₃.extBut D.TOi1.symm).extBut hs₄.extBut D.i12).extBut hs₅.extBut D.TOi1.symm
  have h2₅ : SqI b2 h₅ i2 l2 (k2 + 1) := h2₄.extBut hs₅.extBut D.TOi2.symm
  have hzlt : z < h₅.objs.size := Heap.lt_size hz₅
  show wpAny _ _ (Builtin.SmallTypes.ownedTupleHandOut (.ref z) (.ref h₅.objs.size) >>= _) _ _ _
  refine wpAny_bind ?_
  unfold Builtin.SmallTypes.ownedTupleHandOut
  have hz₆ : IsZip (h₅.push { cls := .type "tuple", data := .seq #[x, y] }) z TI TO .ellipsis := Heap.get?_push_of_some _ hz₅
  refine wpAny_bind (wpAny_setField_rec hz₆ (by simp) fun h₇ hz₇ hs₇ => ?_)
  replace hz₇ : IsZip h₇ z TI TO (rawInt h₅.objs.size) := hz₇
  refine wpAny_setField_rec hz₇ (by simp) fun h₈ hz₈ hs₈ => ?_
  replace hz₈ : IsZip h₈ z TI TO (rawInt h₅.objs.size) := hz₈
  have up : ∀ c o, c ≠ z → h₅.get? c = some o → h₈.get? c = some o := fun c o c1 e => hs₈.extBut _ _ c1 (hs₇.extBut _ _ c1 (Heap.get?_push_of_some _ e))
  have hT₈ : IsPair h₈ h₅.objs.size x y := hs₈.extBut _ _ (Nat.ne_of_gt hzlt) (hs₇.extBut _ _ (Nat.ne_of_gt hzlt) (Heap.get?_push_size _ rfl))
  rw [hsz] at hz₈ hT₈
  refine wpAny_pure ⟨_, rfl, ?_⟩
  show wpAny _ _ (pure (some (Value.ref h₅.objs.size))) _ _ _
  rw [hsz]
  exact wpAny_pure (hQ h₈ hz₈ (up _ _ D.TOz hTO₅) (h1₅.at' fun o e => up _ o D.i1z e) (h2₅.at' fun o e => up _ o D.i2z e) hT₈ fun c o c1 c2 c3 c4 e => up c o c1 (hk₅ c o c1 c2 c3 c4 e))
theorem zip_sq_end {b1 b2 : Bool} {z TI TO i1 i2 l1 l2 : Addr} {k1 k2 : Nat} {xs ys : Array Value} {a b : Value} {Q : Option Value → Shared → Prop} (hh : A.handled = none) (D : ZipApart z TI TO i1 i2 l1 l2)
    (hz : IsZip s.heap z TI TO .none) (hTI : IsPair s.heap TI (.ref i1) (.ref i2)) (hTO : IsPair s.heap TO a b)
    (h1 : SqI b1 s.heap i1 l1 k1) (h2 : SqI b2 s.heap i2 l2 k2) (hl1 : SqO b1 s.heap l1 xs) (hl2 : SqO b2 s.heap l2 ys) (hend : xs[k1]? = none ∨ ys[k2]? = none)
    (hQ : ∀ h', (∀ c o, c ≠ z → c ≠ TO → c ≠ i1 → c ≠ i2 → s.heap.get? c = some o → h'.get? c = some o) → Q none { s with heap := h' }) : wpAny (model prog w) A (pyNext (.ref z)) Q E s := by
  have hT : s.TypeIs (.ref z) "zip" := ⟨_, hz, rfl⟩
  have fin : ∀ h' e, (∀ c o, c ≠ z → c ≠ TO → c ≠ i1 → c ≠ i2 → s.heap.get? c = some o → h'.get? c = some o) → (∃ o, h'.get? e = some o ∧ o.cls = .type "StopIteration") →
      wpAny (model prog w) A (do
        if ← isInstance (.ref e) (.type "StopIteration") then pure none else throw (.ref e)) Q E { s with heap := h' } := fun h' e hk ⟨o, ho, hc⟩ => by
    refine wpAny_bind (wpAny_isInstance (T := "StopIteration") (b := true) ⟨o, ho, hc⟩ isSubtype_stop ?_)
    exact wpAny_pure (hQ _ hk)
  unfold pyNext
  refine wpAny_bind (wpAny_attempt (wpAny_callSpecial?_slot (name := Str.ofString "__next__") hT F.slot_zip_next (wpAny_call_entry F.slot_zip_next hT F.entry_zip_next ?_ (F.args_zip_next_1 _))))
  show wpAny _ _ (field (.ref z) 2 >>= _) _ _ _
  refine wpAny_bind (wpAny_field hz rfl (x := .bool false) rfl ?_)
  show wpAny _ _ (field (.ref z) 3 >>= _) _ _ _
  refine wpAny_bind (wpAny_field hz rfl (x := .ref TI) rfl ?_)
  refine wpAny_bind (wpAny_seqItems hTI rfl ?_)
  show wpAny _ _ (Builtin.SmallTypes.ownedTupleIsFree (.ref z) >>= _) _ _ _
  refine wpAny_bind ?_
  unfold Builtin.SmallTypes.ownedTupleIsFree
  refine wpAny_bind (wpAny_field hz rfl (x := .none) rfl (wpAny_pure ?_))
  simp only [if_true]
  refine wpAny_bind (wpAny_rule ?_)
  refine wpAny_bind (wpAny_field hz rfl (x := .ref TO) rfl ?_)
  refine wpAny_bind (wpAny_setField_rec hz (by simp) fun h₁ hz₁ hs₁ => ?_)
  replace hz₁ : IsZip h₁ z TI TO .ellipsis := hz₁
  refine wpAny_bind ?_
  simp only [List.zipIdx_cons, List.zipIdx_nil, List.forIn_cons, List.forIn_nil]
  refine wpAny_bind (wpAny_bind (wpAny_onRaise ?_))
  show wpAny _ _ (Builtin.SmallTypes.nextOf (.ref i1) >>= _) _ _ _
  cases hx : xs[k1]? with
  | none =>
    refine wpAny_bind (next_sq_end hh (h1.extBut hs₁.extBut D.i1z) (hl1.extBut hs₁.extBut D.l1z) hx fun h₂ e hs₂ he => ?_)
    obtain ⟨oe, hoe, hce⟩ := he
    have hz₂ : IsZip h₂ z TI TO .ellipsis := hs₂ _ _ D.i1z.symm hz₁
    have hez : e ≠ z := fun x => by subst x; rw [hz₂] at hoe; cases hoe; simp at hce
    exact wpAny_setField_rec hz₂ (by simp) fun h₃ _ hs₃ => fin h₃ e (fun c o c1 _ c3 _ x => hs₃.extBut _ _ c1 (hs₂ _ _ c3 (hs₁.extBut _ _ c1 x))) ⟨oe, hs₃.extBut _ _ hez hoe, hce⟩
  | some x =>
    have hy : ys[k2]? = none := by rcases hend with h | h; rw [hx] at h; cases h; exact h
    refine wpAny_bind (next_sq_item (h1.extBut hs₁.extBut D.i1z) (hl1.extBut hs₁.extBut D.l1z) hx fun h₂ h1₂ hs₂ => wpAny_pure ?_)
    have hTO₂ : IsPair h₂ TO a b := hs₂.extBut _ _ D.TOi1 (hs₁.extBut _ _ D.TOz hTO)
    refine wpAny_bind (wpAny_seqItems hTO₂ rfl ?_)
    refine wpAny_bind (wpAny_updateSeq_pair hTO₂ fun h₃ hTO₃ hs₃ => ?_)
    refine wpAny_bind (wpAny_letGo (wpAny_pure ?_))
    refine wpAny_bind (wpAny_bind (wpAny_onRaise ?_))
    show wpAny _ _ (Builtin.SmallTypes.nextOf (.ref i2) >>= _) _ _ _
    refine wpAny_bind (next_sq_end hh (((h2.extBut hs₁.extBut D.i2z).extBut hs₂.extBut D.i12.symm).extBut hs₃.extBut D.TOi2.symm)
      (((hl2.extBut hs₁.extBut D.l2z).extBut hs₂.extBut D.l2i1).extBut hs₃.extBut D.l2TO) hy fun h₄ e hs₄ he => ?_)
    obtain ⟨oe, hoe, hce⟩ := he
    have hz₄ : IsZip h₄ z TI TO .ellipsis := hs₄ _ _ D.i2z.symm (hs₃.extBut _ _ D.TOz.symm (hs₂.extBut _ _ D.i1z.symm hz₁))
    have hez : e ≠ z := fun x => by subst x; rw [hz₄] at hoe; cases hoe; simp at hce
    exact wpAny_setField_rec hz₄ (by simp) fun h₅ _ hs₅ => fin h₅ e (fun c o c1 c2 c3 c4 x => hs₅.extBut _ _ c1 (hs₄ _ _ c4 (hs₃.extBut _ _ c2 (hs₂.extBut _ _ c3 (hs₁.extBut _ _ c1 x))))) ⟨oe, hs₅.extBut _ _ hez hoe, hce⟩
end
end L3

set_option Elab.async false
set_option linter.all false
set_option maxRecDepth 100000
set_option maxHeartbeats 1000000
namespace L3
open PySem PySem.Spec L2
/-! ### zip, walked -/
section
variable {X : Cx} {pins : List (Addr × Obj)} {σ : St} {H H' : Hp} {s : Shared} {h' : Heap}
theorem Inv.turnedL {t' : Nat} {ch : List Addr} (I : Inv X pins σ H s) (k : ∀ b o, b ∉ ch → s.heap.get? b = some o → h'.get? b = some o) (hf : ∀ b ∈ ch, FpOk X pins H b) : Inv X pins σ H { s with heap := h', toks := t' } := by
  have nit : ∀ b u, H b = some u → b ∉ ch := fun b u e z => by rw [(hf b z).1] at e; cases e
  refine I.step (g' := s.gens) (d' := s.drawn) (ch := ch) (fun b hb => ?_) (fun b o _ _ hc e _ => k b o hc e) (fun b o _ _ hc e _ => ⟨o.slots, k b o hc e⟩) (fun _ _ _ _ n => n)
    (fun b o hc e => ⟨o, k b o hc e⟩) (fun _ _ e => e) (fun _ _ _ e => e) (fun b ps e => ⟨#[], by rw [e]; simp⟩) (fun m hm => ?_) (fun b u e => ?_) I.bare
  · obtain ⟨_, f1, _, f3, f4, f5⟩ := hf b hb
    exact ⟨f3, f1, f4, f5⟩
  · obtain ⟨o, es, ep, ho, r⟩ := hm
    exact ⟨o, es, ep, k _ o (fun z => (hf _ z).2.1 rfl) ho, r⟩
  · refine (I.hok b u e).stay (fun c v hc q => k c v ?_ q) (fun _ q => q) fun _ _ q => q
    rcases hc with z | z
    · rw [z]; exact nit b u e
    · exact nit c _ z
end
def Sq (b : Bool) (K : PySem.W.Frag) (H : Hp) (a : Addr) (xs : List V) : Prop := match b with
  | true => SqT K H a xs
  | false => SqL K H a xs
theorem Inv.sq {X : Cx} {pins : List (Addr × Obj)} {σ : St} {H : Hp} {s : Shared} {b : Bool} {a : Addr} {xs : List V} (I : Inv X pins σ H s) (h : Sq b X.K H a xs) : ∃ its : List Value, Vals xs its ∧ SqO b s.heap a its.toArray := by
  cases b with
  | true => obtain ⟨its, r, p, _⟩ := I.tuple h; exact ⟨its, r, p⟩
  | false => obtain ⟨its, r, p, _⟩ := I.list h; exact ⟨its, r, p.isList⟩
theorem Inv.sq_inj {X : Cx} {pins : List (Addr × Obj)} {σ : St} {H : Hp} {s : Shared} {b : Bool} {a : Addr} {xs ys : List V} (I : Inv X pins σ H s) (h : Sq b X.K H a xs) (h' : Sq b X.K H a ys) : xs = ys := by
  cases b with
  | true => exact I.tuple_inj h h'
  | false => exact I.list_inj h h'
def Itz (K : PySem.W.Frag) (b1 b2 : Bool) (l1 l2 : Addr) : It :=
  ⟨fun i H => (∃ xs x, Sq b1 K H l1 xs ∧ xs[i]? = some x) ∧ ∃ ys y, Sq b2 K H l2 ys ∧ ys[i]? = some y,
   fun i H x H' => ∃ u v T, x = .ref T ∧ H T = none ∧ H' = upd H T (.tup [u, v]) ∧ (∀ xs, Sq b1 K H l1 xs → xs[i]? = some u) ∧ ∀ ys, Sq b2 K H l2 ys → ys[i]? = some v,
   fun i H => ∃ xs ys, Sq b1 K H l1 xs ∧ Sq b2 K H l2 ys ∧ (xs.length ≤ i ∨ ys.length ≤ i)⟩
theorem turn_zip {P : Program} {w : World} {K : PySem.W.Frag} {elts : List Expr} {kk : Nat} {tpos : Pos} (b1 b2 : Bool) {z TI TO i1 i2 l1 l2 : Addr} (D : ZipApart z TI TO i1 i2 l1 l2) : Turn P w K (.Tuple elts kk tpos) (Itz K b1 b2 l1 l2) [z, TI, TO, i1, i2] z
    (fun i h => IsZip h z TI TO .none ∧ IsPair h TI (.ref i1) (.ref i2) ∧ (∃ a b, IsPair h TO a b) ∧ SqI b1 h i1 l1 i ∧ SqI b2 h i2 l2 i) where
  mem := by simp
  obj := fun i h st b hb => by
    obtain ⟨hz, hTI, ⟨x, y, hTO⟩, h1, h2⟩ := st
    rcases List.mem_cons.mp hb with rfl | hb
    · exact ⟨_, hz, fun v z => by cases z⟩
    rcases List.mem_cons.mp hb with rfl | hb
    · exact ⟨_, hTI, fun v z => by cases z⟩
    rcases List.mem_cons.mp hb with rfl | hb
    · exact ⟨_, hTO, fun v z => by cases z⟩
    rcases List.mem_cons.mp hb with rfl | hb
    · obtain ⟨o, vs, e, d⟩ := h1.obj; exact ⟨o, e, fun v z => by rw [d] at z; cases z⟩
    rcases List.mem_cons.mp hb with rfl | hb
    · obtain ⟨o, vs, e, d⟩ := h2.obj; exact ⟨o, e, fun v z => by rw [d] at z; cases z⟩
    cases hb
  keep := fun i h h' ⟨hz, hTI, ⟨x, y, hTO⟩, h1, h2⟩ k => ⟨k z (by simp) _ hz, k TI (by simp) _ hTI, ⟨x, y, k TO (by simp) _ hTO⟩, h1.at' fun o e => k i1 (by simp) o e, h2.at' fun o e => k i2 (by simp) o e⟩
  item := by
    intro X hP hw hK hc i pins s σ H E I hf ⟨hz, hTI, ⟨a0, b0, hTO⟩, h1, h2⟩ ⟨⟨xs, x, hq, hx⟩, ⟨ys, y, hr, hy⟩⟩
    subst hP hw hK
    obtain ⟨its, rv, p⟩ := Inv.sq I hq
    obtain ⟨jts, rw', q⟩ := Inv.sq I hr
    obtain ⟨u, hu, ru⟩ := rv.get hx
    obtain ⟨v, hv, rv'⟩ := rw'.get hy
    have hf4 : ∀ b ∈ [z, TO, i1, i2], b ∈ [z, TI, TO, i1, i2] := fun b hb => by simp at hb ⊢; rcases hb with h | h | h | h <;> simp [h]
    refine zip_sq_item D hz hTI hTO h1 h2 p q (x := u) (y := v) (by simpa using hu) (by simpa using hv) fun h' a1 a2 a3 a4 a5 hk => ⟨_, rfl, wpAny_letOwnedTupleGo_zip a1 fun h'' hz'' hs'' => ?_⟩
    have hn := I.hok.fresh (Nat.le_refl s.heap.objs.size)
    have ltz := Heap.lt_size hz
    have ltO := Heap.lt_size hTO
    have lt1 : i1 < s.heap.objs.size := by obtain ⟨_, _, e, _⟩ := h1.obj; exact Heap.lt_size e
    have lt2 : i2 < s.heap.objs.size := by obtain ⟨_, _, e, _⟩ := h2.obj; exact Heap.lt_size e
    have hl2 : Vals [x, y] [u, v] := .cons ru (.cons rv' .nil)
    have I1 : Inv X pins σ (upd H s.heap.objs.size (.tup [x, y])) { s with heap := s.heap.push { cls := .type "tuple", data := .seq #[u, v] } } :=
      I.laid (t' := s.toks) (fun b u e => Heap.get?_push_of_some _ e) (Nat.le_refl _) ⟨by rw [sizeLine_eq]; show 2 ≤ _; decide, [u, v], hl2, ⟨_, Heap.get?_push_size _ rfl, rfl, _, rfl⟩⟩
    have I2 : Inv X pins σ (upd H s.heap.objs.size (.tup [x, y])) { s with heap := h'' } := by
      refine Inv.turnedL (s := { s with heap := s.heap.push { cls := .type "tuple", data := .seq #[u, v] } }) (ch := [z, TO, i1, i2]) (t' := s.toks) I1 (fun b o hb e => ?_) fun b hb => ?_
      · have nz : b ≠ z := fun q => hb (by simp [q])
        refine hs''.extBut _ _ nz ?_
        rcases Heap.get?_push_cases e with ⟨rfl, rfl⟩ | e
        · exact a5
        · exact hk b o nz (fun q => hb (by simp [q])) (fun q => hb (by simp [q])) (fun q => hb (by simp [q])) e
      · obtain ⟨f0, f⟩ := hf b (hf4 b hb)
        refine ⟨?_, f⟩
        rw [upd_ne]
        · exact f0
        · rintro rfl
          simp at hb
          rcases hb with h | h | h | h
          · rw [← h] at ltz; exact Nat.lt_irrefl _ ltz
          · rw [← h] at ltO; exact Nat.lt_irrefl _ ltO
          · rw [← h] at lt1; exact Nat.lt_irrefl _ lt1
          · rw [← h] at lt2; exact Nat.lt_irrefl _ lt2
    refine ⟨.ref s.heap.objs.size, _, I2, rfl, ⟨x, y, _, rfl, hn, rfl, fun xs' h' => by rw [Inv.sq_inj I h' hq]; exact hx, fun ys' h' => by rw [Inv.sq_inj I h' hr]; exact hy⟩,
      ⟨hz'', hs''.extBut _ _ D.TIz (hk _ _ D.TIz D.TITO D.TIi1 D.TIi2 hTI), ⟨_, _, hs''.extBut _ _ D.TOz a2⟩, a3.extBut hs''.extBut D.i1z, a4.extBut hs''.extBut D.i2z⟩, fun b hb => ?_⟩
    rw [upd_ne]
    · exact (hf b hb).1
    · rintro rfl
      have ltI := Heap.lt_size hTI
      simp at hb
      rcases hb with h | h | h | h | h
      · rw [← h] at ltz; exact Nat.lt_irrefl _ ltz
      · rw [← h] at ltI; exact Nat.lt_irrefl _ ltI
      · rw [← h] at ltO; exact Nat.lt_irrefl _ ltO
      · rw [← h] at lt1; exact Nat.lt_irrefl _ lt1
      · rw [← h] at lt2; exact Nat.lt_irrefl _ lt2
  done := by
    intro X hP hw hK hc i pins s σ H E I hf ⟨hz, hTI, ⟨a0, b0, hTO⟩, h1, h2⟩ ⟨xs, ys, hq, hr, hl⟩
    subst hP hw hK
    obtain ⟨its, rv, p⟩ := Inv.sq I hq
    obtain ⟨jts, rw', q⟩ := Inv.sq I hr
    have e1 := rv.length
    have e2 := rw'.length
    refine zip_sq_end (I.ok.hd hc) D hz hTI hTO h1 h2 p q ?_ fun h' hk => ⟨rfl, ?_⟩
    · rcases hl with hl | hl
      · exact .inl (by simp; omega)
      · exact .inr (by simp; omega)
    · refine Inv.turnedL (ch := [z, TO, i1, i2]) (t' := s.toks) I (fun b o hb e => hk b o (fun q => hb (by simp [q])) (fun q => hb (by simp [q])) (fun q => hb (by simp [q])) (fun q => hb (by simp [q])) e) fun b hb => hf b ?_
      simp at hb ⊢
      rcases hb with h | h | h | h <;> simp [h]
  self := fun _ _ _ _ _ ⟨hz, _⟩ h => wpAny_pyIter_zip hz h
end L3

set_option Elab.async false
set_option linter.all false
set_option maxRecDepth 100000
set_option maxHeartbeats 1000000
namespace L3
open PySem PySem.Spec L2
/-! ### zip(a, b) -/
def itO (b : Bool) (l : Addr) : Obj := match b with
  | true => { cls := .type "tuple_iterator", data := .fields #[.ref l, .int 0 0] }
  | false => { cls := .type "list_iterator", data := .fields #[.ref l, .int 0 0] }
abbrev zqH1 (b1 : Bool) (h : Heap) (l1 : Addr) : Heap := h.push (itO b1 l1)
abbrev zqH2 (b1 b2 : Bool) (h : Heap) (l1 l2 : Addr) : Heap := (zqH1 b1 h l1).push (itO b2 l2)
abbrev zqH3 (b1 b2 : Bool) (h : Heap) (l1 l2 : Addr) : Heap := (zqH2 b1 b2 h l1 l2).push { cls := .type "tuple", data := .seq #[.ref h.objs.size, .ref (zqH1 b1 h l1).objs.size] }
abbrev zqH4 (b1 b2 : Bool) (h : Heap) (l1 l2 : Addr) : Heap := (zqH3 b1 b2 h l1 l2).push { cls := .type "tuple", data := .seq #[.none, .none] }
abbrev zqH5 (b1 b2 : Bool) (h : Heap) (l1 l2 : Addr) : Heap := (zqH4 b1 b2 h l1 l2).push { cls := .type "zip", data := .fields #[.none, .bool false, .bool false, .ref (zqH2 b1 b2 h l1 l2).objs.size, .ref (zqH3 b1 b2 h l1 l2).objs.size] }
theorem meets_zip_sq (b1 b2 : Bool) (l1 l2 : Addr) (xs ys : Array Value) :
    Meets (Builtin.«zip.__new__» ⟨[.type "zip", .ref l1, .ref l2], []⟩) (fun _ R s => SqO b1 s.heap l1 xs ∧ SqO b2 s.heap l2 ys ∧
      R (.ok (.ret (.ref (zqH4 b1 b2 s.heap l1 l2).objs.size))) { s with heap := zqH5 b1 b2 s.heap l1 l2 }) := by
  cases b1 with
  | false =>
    cases b2 with
    | false => exact meets_zip_new l1 l2 xs ys
    | true =>
      refine .of_wp fun prog w A R s h => ?_
      obtain ⟨hp, g, d, tk, os⟩ := s; obtain ⟨hl1, hl2, h⟩ := h
      have hsub := sub_zip
      have hL1 : Heap.IsList (Shared.heap ⟨hp, g, d, tk, os⟩) l1 xs := hl1
      have hL2 : Heap.IsTuple (Shared.heap ⟨hp.push { cls := .type "list_iterator", data := .fields #[.ref l1, .int 0 0] }, g, d, tk, os⟩) l2 ys := Heap.IsTuple.push hl2 _
      wp_walk using wpAny_pyIter_list hL1, wpAny_pyIter_tuple hL2
      exact ⟨_, rfl, h⟩
  | true =>
    cases b2 with
    | false =>
      refine .of_wp fun prog w A R s h => ?_
      obtain ⟨hp, g, d, tk, os⟩ := s; obtain ⟨hl1, hl2, h⟩ := h
      have hsub := sub_zip
      have hL1 : Heap.IsTuple (Shared.heap ⟨hp, g, d, tk, os⟩) l1 xs := hl1
      have hL2 : Heap.IsList (Shared.heap ⟨hp.push { cls := .type "tuple_iterator", data := .fields #[.ref l1, .int 0 0] }, g, d, tk, os⟩) l2 ys := Heap.IsList.push hl2 _
      wp_walk using wpAny_pyIter_tuple hL1, wpAny_pyIter_list hL2
      exact ⟨_, rfl, h⟩
    | true =>
      refine .of_wp fun prog w A R s h => ?_
      obtain ⟨hp, g, d, tk, os⟩ := s; obtain ⟨hl1, hl2, h⟩ := h
      have hsub := sub_zip
      have hL1 : Heap.IsTuple (Shared.heap ⟨hp, g, d, tk, os⟩) l1 xs := hl1
      have hL2 : Heap.IsTuple (Shared.heap ⟨hp.push { cls := .type "tuple_iterator", data := .fields #[.ref l1, .int 0 0] }, g, d, tk, os⟩) l2 ys := Heap.IsTuple.push hl2 _
      wp_walk using wpAny_pyIter_tuple hL1, wpAny_pyIter_tuple hL2
      exact ⟨_, rfl, h⟩
theorem SqI.new {b : Bool} {h : Heap} {a l : Addr} (e : h.get? a = some (itO b l)) : SqI b h a l 0 := by
  cases b with
  | true => exact ⟨_, e, rfl, rfl⟩
  | false => exact ⟨_, e, rfl, rfl⟩
section
variable {prog : Program} {w : World} {A : Around} {E : Value → Shared → Prop} {s : Shared}
theorem call_zip_sq {b1 b2 : Bool} {l1 l2 : Addr} {xs ys : Array Value} {Q : Value → Shared → Prop} (hl1 : SqO b1 s.heap l1 xs) (hl2 : SqO b2 s.heap l2 ys)
    (h : ∀ h', IsZip h' (s.heap.objs.size + 4) (s.heap.objs.size + 2) (s.heap.objs.size + 3) .none → IsPair h' (s.heap.objs.size + 2) (.ref s.heap.objs.size) (.ref (s.heap.objs.size + 1)) →
      IsPair h' (s.heap.objs.size + 3) .none .none → SqI b1 h' s.heap.objs.size l1 0 → SqI b2 h' (s.heap.objs.size + 1) l2 0 →
      (∀ c o, s.heap.get? c = some o → h'.get? c = some o) → Q (.ref (s.heap.objs.size + 4)) { s with heap := h' }) :
    wpAny (model prog w) A (call (.type "zip") [.ref l1, .ref l2]) Q E s := by
  refine callType_new F.called_zip (by decide) (F.typeCall_zip_2 _ _) (F.newCall_zip_2 _ _) (fun obj => F.args_object_init_3 obj _ _) F.entry_zip_new (meets_zip_sq b1 b2 l1 l2 xs ys) ⟨hl1, hl2, ?_⟩
  have z1 : (zqH1 b1 s.heap l1).objs.size = s.heap.objs.size + 1 := Heap.size_push ..
  have z2 : (zqH2 b1 b2 s.heap l1 l2).objs.size = s.heap.objs.size + 2 := by rw [Heap.size_push, z1]
  have z3 : (zqH3 b1 b2 s.heap l1 l2).objs.size = s.heap.objs.size + 3 := by rw [Heap.size_push, z2]
  have z4 : (zqH4 b1 b2 s.heap l1 l2).objs.size = s.heap.objs.size + 4 := by rw [Heap.size_push, z3]
  have f1 : ∀ b l, (itO b l).isFreed = false := fun b l => by cases b <;> rfl
  have g5 : (zqH5 b1 b2 s.heap l1 l2).get? (zqH4 b1 b2 s.heap l1 l2).objs.size = some _ := Heap.get?_push_size _ rfl
  have g4 : (zqH5 b1 b2 s.heap l1 l2).get? (zqH3 b1 b2 s.heap l1 l2).objs.size = some _ := Heap.get?_push_of_some _ (Heap.get?_push_size _ rfl)
  have g3 : (zqH5 b1 b2 s.heap l1 l2).get? (zqH2 b1 b2 s.heap l1 l2).objs.size = some _ := Heap.get?_push_of_some _ (Heap.get?_push_of_some _ (Heap.get?_push_size _ rfl))
  have g2 : (zqH5 b1 b2 s.heap l1 l2).get? (zqH1 b1 s.heap l1).objs.size = some _ := Heap.get?_push_of_some _ (Heap.get?_push_of_some _ (Heap.get?_push_of_some _ (Heap.get?_push_size _ (f1 _ _))))
  have g1 : (zqH5 b1 b2 s.heap l1 l2).get? s.heap.objs.size = some _ := Heap.get?_push_of_some _ (Heap.get?_push_of_some _ (Heap.get?_push_of_some _ (Heap.get?_push_of_some _ (Heap.get?_push_size _ (f1 _ _)))))
  show _ ∧ _
  rw [z2, z3, z4] at g5
  rw [z1, z2] at g3
  rw [z3] at g4
  rw [z1] at g2
  rw [z4]
  exact ⟨⟨_, g5, rfl⟩, h _ g5 g3 g4 (.new g1) (.new g2) fun c o x =>
    Heap.get?_push_of_some _ (Heap.get?_push_of_some _ (Heap.get?_push_of_some _ (Heap.get?_push_of_some _ (Heap.get?_push_of_some _ x))))⟩
end
def iZip (K : PySem.W.Frag) (ta : TA) : TI := fun σ H R => ta σ H fun vs H1 => ∃ b1 b2 l1 l2, vs = [.ref l1, .ref l2] ∧ (∃ xs, Sq b1 K H1 l1 xs) ∧ (∃ ys, Sq b2 K H1 l2 ys) ∧ R (Itz K b1 b2 l1 l2) H1
theorem pi_zip {X : Cx} {elts : List Expr} {kk : Nat} {tpos : Pos} {a b : Expr} {ta : TA} {p pos : Pos} (hg : Gl X "zip") (hm : X.mg "zip" = none) (ha : PA X [a, b] ta) (hs : starEach [a, b] X.env = [(false, eval a X.env), (false, eval b X.env)] := by rfl) (hs2 : starEach [b] X.env = [(false, eval b X.env)] := by rfl) :
    PI X (.Tuple elts kk tpos) (.Call (.Name "zip" p) [a, b] [] pos) (iZip X.K ta) := by
  intro pins s σ H R I h
  refine PyProof.Rows.Call_ (ld_blt I hg hm PyProof.Rows.boot_zip (PyProof.Rows.callWith_type1 (thn (ha pos pins s σ H _ I h) fun us s1 ⟨vs, H1, I1, r1, q1⟩ => ?_) (by rw [hs, hs2]) (by rw [hs2]; rfl)))
  obtain ⟨b1, b2, l1, l2, e, ⟨xs, hx⟩, ⟨ys, hy⟩, q⟩ := q1
  subst e
  cases r1 with
  | cons r rr =>
    cases rr with
    | cons r' rr =>
      cases rr
      cases r
      cases r'
      obtain ⟨its, rv, p1⟩ := Inv.sq I1 hx
      obtain ⟨jts, rw', p2⟩ := Inv.sq I1 hy
      have lt1 : l1 < s1.heap.objs.size := by obtain ⟨_, _, e, _⟩ := p1.obj; exact Heap.lt_size e
      have lt2 : l2 < s1.heap.objs.size := by obtain ⟨_, _, e, _⟩ := p2.obj; exact Heap.lt_size e
      refine call_zip_sq p1 p2 fun h' a1 a2 a3 a4 a5 hk => ?_
      refine wpAny_pyIter_zip (s := { s1 with heap := h' }) a1 ?_
      have D : ZipApart (s1.heap.objs.size + 4) (s1.heap.objs.size + 2) (s1.heap.objs.size + 3) s1.heap.objs.size (s1.heap.objs.size + 1) l1 l2 := by
        have up : ∀ {l : Addr} (k : Nat), l < s1.heap.objs.size → l ≠ s1.heap.objs.size + k := fun k h => Nat.ne_of_lt (Nat.lt_of_lt_of_le h (Nat.le_add_right _ _))
        have l10 : l1 ≠ s1.heap.objs.size := Nat.ne_of_lt lt1
        have l20 : l2 ≠ s1.heap.objs.size := Nat.ne_of_lt lt2
        have u1 := fun k => up k lt1
        have u2 := fun k => up k lt2
        generalize s1.heap.objs.size = n at l10 l20 u1 u2 ⊢
        constructor <;> first | exact u1 4 | exact u1 3 | exact l10 | exact u1 1 | exact u2 4 | exact u2 3 | exact l20 | exact u2 1 | (show (_ : Nat) ≠ _; omega)
      refine ⟨s1.heap.objs.size + 4, [s1.heap.objs.size + 4, s1.heap.objs.size + 2, s1.heap.objs.size + 3, s1.heap.objs.size, s1.heap.objs.size + 1], _, _, H1, rfl, I1.kept (t' := s1.toks) hk, turn_zip b1 b2 D, ⟨a1, a2, ⟨_, _, a3⟩, a4, a5⟩, fun c hc => ?_, q⟩
      have le : s1.heap.objs.size ≤ c := by
        simp at hc
        rcases hc with rfl | rfl | rfl | rfl | rfl
        · exact Nat.le_add_right _ _
        · exact Nat.le_add_right _ _
        · exact Nat.le_add_right _ _
        · exact Nat.le_refl _
        · exact Nat.le_add_right _ _
      exact I1.fpOk le (I1.hok.fresh le)
end L3

set_option Elab.async false
set_option linter.all false
set_option maxRecDepth 100000
set_option maxHeartbeats 1000000
namespace L3
open PySem PySem.Spec L2
variable [L2.TabP]
/-! ### for a, b in zip(x, y) -/
def R.walk : R → Option (List D)
  | .v (.tup xs) => some xs
  | .v (.lst xs) => some xs
  | .fr xs => some xs
  | .vw xs => some xs
  | _ => none
def zipD (xs ys : List D) : List D := (xs.zip ys).map fun p => .tup [p.1, p.2]
/-- a sequence that stays, whatever is done to one's own -/
def SqS (b : Bool) (K : PySem.W.Frag) (O : Ow) (H : Hp) (a : Addr) (ys : List V) : Prop := match b with
  | true => SqT K H a ys
  | false => LsV K O H a ys
theorem SqS.sq {b : Bool} {K : PySem.W.Frag} {O : Ow} {H : Hp} {a : Addr} {ys : List V} (h : SqS b K O H a ys) : Sq b K H a ys := by
  cases b with
  | true => exact h
  | false => exact LsV.sq h
theorem SqS.gs {b : Bool} {K : PySem.W.Frag} {O O' : Ow} {H H' : Hp} (g : Gs O O' H H') {a : Addr} {ys : List V} (h : SqS b K O H a ys) : SqS b K O' H' a ys := by
  cases b with
  | true => exact g.sqT h
  | false => exact g.lsV h
theorem walk_rep {K : PySem.W.Frag} {mg : Str → Option Value} {O : Ow} {H H₀ : Hp} {r : R} {v : V} {xs : List D} (h : RepR K mg O H r v) (n : NewR H₀ r v) (e : r.walk = some xs) : ∃ b a ys, v = .ref a ∧ SqS b K (frz H₀ O) H a ys ∧ RepAll K mg (frz H₀ O) H xs ys := by
  unfold R.walk at e
  split at e
  · cases e; obtain ⟨a, ys, q, l, r⟩ := h; exact ⟨true, a, ys, q, l, r.fre (frz_fre _ _)⟩
  · cases e
    obtain ⟨a, ys, q, l, r⟩ := h
    exact ⟨false, a, ys, q, .inl ⟨.inl l.1, .inl ((frz_fre H₀ O).fr a l.2)⟩, r.fre (frz_fre _ _)⟩
  · cases e
    obtain ⟨a, ys, rfl, l, t, r⟩ := h
    exact ⟨false, a, ys, rfl, .inl ⟨.inl l, .inl (frz_tmp (n a rfl) t)⟩, r.fre (frz_fre _ _)⟩
  · cases e
    obtain ⟨a, ys, q, l, r⟩ := h
    refine ⟨false, a, ys, q, ?_, r.fre (frz_fre _ _)⟩
    rcases l with ⟨l, f⟩ | l
    · refine .inl ⟨l, ?_⟩
      rcases f with f | f
      · exact .inl ((frz_fre H₀ O).fr a f)
      · exact .inr (by rw [frz_not (by rw [f]; intro z; cases z)]; exact f)
    · exact .inr l
  · cases e
def tupB (is : List Nat) (b : MS) : D → MS := fun d σ => match d with
  | .tup es => if es.length = is.length then b (setsD is es σ) else bad
  | _ => bad
def zipR : List R → Option (List D)
  | [x, y] => match x.walk, y.walk with
    | some xs, some ys => some (zipD xs ys)
    | _, _ => none
  | _ => none
def cForZ (is : List Nat) (ms : MA) (b : MS) : MS := fun σ => do
  let rs ← ms σ
  match zipR rs with
  | some ds => fLoop (tupB is b) ds σ
  | none => bad
theorem zipR_inv {rs : List R} {ds : List D} (h : zipR rs = some ds) : ∃ x y xs ys, rs = [x, y] ∧ x.walk = some xs ∧ y.walk = some ys ∧ ds = zipD xs ys := by
  unfold zipR at h
  split at h
  · rename_i x y
    split at h
    · rename_i xs ys e1 e2
      cases h
      exact ⟨x, y, xs, ys, rfl, e1, e2, rfl⟩
    · cases h
  · cases h
theorem zipD_get {xs ys : List D} {k : Nat} {d : D} {ds : List D} (e : (zipD xs ys).drop k = d :: ds) : ∃ x y, xs[k]? = some x ∧ ys[k]? = some y ∧ d = .tup [x, y] ∧ (zipD xs ys).drop (k + 1) = ds := by
  have e1 : (zipD xs ys)[k]? = some d := by
    have := congrArg (·[0]?) e
    simpa using this
  unfold zipD at e1
  rw [List.getElem?_map] at e1
  cases ez : (xs.zip ys)[k]? with
  | none => rw [ez] at e1; cases e1
  | some p =>
    rw [ez] at e1
    cases e1
    obtain ⟨a, b⟩ := List.getElem?_zip_eq_some.mp ez
    refine ⟨p.1, p.2, a, b, rfl, ?_⟩
    have := congrArg (List.drop 1) e
    simpa [List.drop_drop] using this
theorem zipD_end {xs ys : List D} {k : Nat} (e : (zipD xs ys).drop k = []) : xs.length ≤ k ∨ ys.length ≤ k := by
  have := congrArg List.length e
  unfold zipD at this
  simp only [List.length_drop, List.length_map, List.length_zip, List.length_nil] at this
  omega
theorem forZ_read {K : PySem.W.Frag} {mg : Str → Option Value} {is : List Nat} {ms : MA} {b : MS} : ∀ D σV H, tsOf K mg (cForZ is ms b) D σV H → tFor (iZip K (taOf K mg ms)) (gTup K is.length (gNames is)) (tsOf K mg b) D σV H := by
  rintro D σV H ⟨O, σ, S, fl, S', st, h, q⟩
  obtain ⟨rs, S1, h1, h⟩ := M.inv h
  cases ez : zipR rs with
  | none => rw [ez] at h; cases h
  | some ds =>
    · rw [ez] at h
      obtain ⟨x, y, xs, ys, rfl, ex, ey, rfl⟩ := zipR_inv ez
      refine ⟨O, σ, S, _, S1, st, h1, fun O1 vs H1 g1 st1 rr nn => ?_⟩
      obtain ⟨v1, r1, rfl, rx, v2, r2, rfl, ry, re⟩ := rr
      cases re
      obtain ⟨b1, l1, us, rfl, s1, a1⟩ := walk_rep (H₀ := H) rx nn.1 ex
      obtain ⟨b2, l2, ws, rfl, s2, a2⟩ := walk_rep (H₀ := H) ry nn.2.1 ey
      have st1' := st1.frz H
      refine ⟨b1, b2, l1, l2, rfl, ⟨us, s1.sq⟩, ⟨ws, s2.sq⟩, ?_⟩
      refine ⟨fun k m σV' H' => m = (zipD xs ys).length - k ∧ ∃ O' σ' S'', S3 K mg O' σ' S'' σV' H' ∧ Gs (frz H O1) O' H1 H' ∧ Kp σ σ' σV σV' ∧ (fLoop (tupB is b) ((zipD xs ys).drop k) σ').run S'' = .ok fl S', ⟨_, rfl, _, σ, S1, st1', Gs.refl _ _, Kp.refl _ _, h⟩, ?_⟩
      rintro k m σV' H' ⟨rfl, O', σ', S'', st', g', kp, h⟩
      have s1' := SqS.gs g' s1
      have s2' := SqS.gs g' s2
      cases e : (zipD xs ys).drop k with
      | nil =>
        rw [e] at h
        cases h
        refine .inl ⟨⟨us, ws, s1'.sq, s2'.sq, ?_⟩, q O' σV' H' (g1.frz.gs.trans g') st' kp⟩
        rw [a1.len, a2.len]
        exact zipD_end e
      | cons d ds' =>
        obtain ⟨dx, dy, e1, e2, rfl, e'⟩ := zipD_get e
        obtain ⟨u, eu, ru⟩ := (RepAll.gs g' a1).get e1
        obtain ⟨v, ev, rv⟩ := (RepAll.gs g' a2).get e2
        have hlt : k < (zipD xs ys).length := by
          have := congrArg List.length e
          rw [List.length_drop, List.length_cons] at this
          omega
        rw [e] at h
        obtain ⟨f1, S2, h2, h⟩ := M.inv h
        unfold tupB at h2
        dsimp only at h2
        by_cases c : [dx, dy].length = is.length
        · rw [if_pos c] at h2
          refine .inr ⟨⟨⟨us, u, s1'.sq, eu⟩, ⟨ws, v, s2'.sq, ev⟩⟩, fun σV2 H2 => ∃ O2 σ2 S2, S3 K mg O2 σ2 S2 σV2 H2 ∧ Gs (frz H O1) O2 H1 H2 ∧ Kp σ σ2 σV σV2 ∧ (fLoop (tupB is b) ((zipD xs ys).drop (k + 1)) σ2).run S2 = .ok fl S', ?_, fun x H2 yy => ?_⟩
          · rintro σV2 H2 ⟨O2, σ2, S2, z1, z2, z3, z4⟩
            exact ⟨_, by omega, rfl, O2, σ2, S2, z1, z2, z3, z4⟩
          · obtain ⟨u', v', T, rfl, hT, rfl, hu', hv'⟩ := yy
            have qu := hu' us s1'.sq
            rw [eu] at qu
            cases qu
            have qv := hv' ws s2'.sq
            rw [ev] at qv
            cases qv
            have gn : Go O' O' H' (upd H' T (.tup [u, v])) := Go.new0 hT
            refine ⟨T, [u, v], rfl, SqT.of upd_same, by rw [← c]; rfl, unp_sim (ds := [dx, dy]) (st'.new0 hT) ⟨u, [v], rfl, ru.go gn, v, [], rfl, rv.go gn, rfl⟩ c fun σVn stn ks => ?_⟩
            refine ⟨O', _, S'', f1, S2, stn, h2, ?_⟩
            cases f1 with
            | nx σ2 => exact fun O2 σV2 H2 g2 st2 k2 => ⟨O2, σ2, S2, st2, g'.trans (gn.gs.trans g2), kp.trans (ks.trans k2), by rw [e']; exact h⟩
            | ct σ2 => exact fun O2 σV2 H2 g2 st2 k2 => ⟨O2, σ2, S2, st2, g'.trans (gn.gs.trans g2), kp.trans (ks.trans k2), by rw [e']; exact h⟩
            | bk σ2 => cases h; exact fun O2 σV2 H2 g2 st2 k2 => q O2 σV2 H2 (g1.frz.gs.trans (g'.trans (gn.gs.trans g2))) st2 (kp.trans (ks.trans k2))
            | rt r => cases h; exact fun O2 v H2 g2 d2 e2 r2 => q O2 v H2 (g1.frz.gs.trans (g'.trans (gn.gs.trans g2))) d2 e2 r2
        · rw [if_neg c] at h2; cases h2
theorem cs_forZ {X : Cx} {pos tpos : Pos} {is : List Nat} {es : List Expr} {k : Nat} {p cpos : Pos} {a b' : Expr} {ms : MA} {body : List Stmt} {b : MS} (hp : PassesOwn (model X.prog X.w) X.A X.env X.xe) (hc : X.calm = true) (hgz : Gl X "zip") (hm : X.mg "zip" = none) (ha : CA X [a, b'] ms) (hg : PGs X es (gNames is)) (hb : CSs X body b)
    (hn : (assignEach es X.env).length = is.length := by rfl) (hst : (assignEach es X.env).findIdx? (·.1) = none := by rfl)
    (hs : ∀ x, foldedSetIterable (.Call (.Name "zip" p) [a, b'] [] cpos) X.env x = pure x := by intro _; rfl) (hs1 : starEach [a, b'] X.env = [(false, eval a X.env), (false, eval b' X.env)] := by rfl) (hs2 : starEach [b'] X.env = [(false, eval b' X.env)] := by rfl) :
    CS X (.For (.Tuple es k tpos) (.Call (.Name "zip" p) [a, b'] [] cpos) body [] pos) (cForZ is ms b) :=
  ps_imp (ps_for hp hc (pi_zip hgz hm ha hs1 hs2) (pg_tup hc hg hn hst) hb hs) forZ_read
omit [L2.TabP] in
@[simp] theorem e_forZ {is : List Nat} {ms : MA} {b : MS} {σ : En} : cForZ is ms b σ = (do
  let rs ← ms σ
  match zipR rs with
  | some ds => fLoop (tupB is b) ds σ
  | none => bad) := rfl
end L3

set_option Elab.async false
set_option linter.all false
set_option maxRecDepth 100000
set_option maxHeartbeats 1000000
namespace L3
open PySem PySem.Spec L2
variable [L2.TabP]
/-! ### isinstance(x, (A, B)) -/
section
variable {X : Cx}
abbrev kdN : List String := ["int", "bool", "tuple", "list", "str"]
def rIsi2 (K : PySem.W.Frag) : List V → Hp → VK → Prop := fun xs H Q => ∃ x a n1 n2 t, xs = [x, .ref a] ∧ SqT K H a [.ty n1, .ty n2] ∧ TyW K H x t ∧ n1 ∈ kdN ∧ n2 ∈ kdN ∧ Q (.bl (isiB t n1 || isiB t n2)) H
omit [L2.TabP] in
theorem call_isi2 (kt : Kit X.K) : CallR X (.builtin "isinstance") (rIsi2 X.K) := by
  intro pins s σ H xs us Q I rv h
  obtain ⟨x, a, n1, n2, t, rfl, sq, ty, hn1, hn2, q⟩ := h
  obtain ⟨u, w', rfl, r1, r2⟩ := vals2 rv
  cases (show w' = Value.ref a from r2)
  obtain ⟨its, rv2, ⟨o, ho, hc, n, hd⟩, _⟩ := I.tuple sq
  obtain ⟨u1, u2, rfl, q1, q2⟩ := vals2 rv2
  cases (show u1 = Value.type n1 from q1)
  cases (show u2 = Value.type n2 from q2)
  obtain ⟨oc, od, odt, osl⟩ := o
  cases hc
  cases hd
  have e : PySem.W.kitAny X.K (.type t) [.type n1, .type n2] = some (isiB t n1 || isiB t n2) := by
    have e1 : PySem.W.kitOne X.K (.type t) (.type n1) = some (isiB t n1) := kt.ans t ty.mem n1 hn1
    have e2 : PySem.W.kitOne X.K (.type t) (.type n2) = some (isiB t n2) := kt.ans t ty.mem n2 hn2
    unfold PySem.W.kitAny
    rw [e1]
    cases isiB t n1 with
    | true => rfl
    | false =>
      show PySem.W.kitAny X.K (.type t) [.type n2] = _
      unfold PySem.W.kitAny
      rw [e2]
      cases isiB t n2 <;> rfl
  have fin : ∀ tk, EP X pins σ Q (.bool (isiB t n1 || isiB t n2)) { s with toks := tk } := fun tk => ⟨.bl _, H, I.tok tk, rfl, q⟩
  cases ty with
  | non => cases (show u = Value.none from r1); exact PySem.W.kia_tup PySem.W.kitx_none I.kIn True.intro ho e (fun z => nomatch z) fin
  | bl y => cases (show u = Value.bool y from r1); exact PySem.W.kia_tup PySem.W.kitx_bool I.kIn True.intro ho e (fun z => nomatch z) fin
  | int i => obtain ⟨t, q⟩ := (show ∃ t, u = Value.int i t from r1); cases q; exact PySem.W.kia_tup PySem.W.kitx_int I.kIn True.intro ho e (fun z => nomatch z) fin
  | str y => obtain ⟨t, q⟩ := (show ∃ t, u = Value.str y t from r1); cases q; exact PySem.W.kia_tup PySem.W.kitx_str I.kIn True.intro ho e (fun z => nomatch z) fin
  | @lst a xs ea =>
    cases (show u = Value.ref a from r1)
    obtain ⟨its, _, ⟨o, n', h1, h2, _⟩, _⟩ := I.list ea
    exact PySem.W.kia_tup PySem.W.kitx_list I.kIn ⟨o, h1, h2⟩ ho e (fun z => nomatch z) fin
  | @tup a xs ea =>
    cases (show u = Value.ref a from r1)
    obtain ⟨its, _, ⟨o, h1, h2, _⟩, _⟩ := I.tuple ea
    exact PySem.W.kia_tup PySem.W.kitx_tuple I.kIn ⟨o, h1, h2⟩ ho e (fun z => nomatch z) fin
end
def fIsi2 : List R → M R
  | [x, .v (.tup [.ty n1, .ty n2])] => match x.kind with
    | some t => if n1 ∈ kdN ∧ n2 ∈ kdN then pure (.v (.bl (isiB t n1 || isiB t n2))) else bad
    | none => bad
  | _ => bad
theorem kIsi2 {K : PySem.W.Frag} {mg : Str → Option Value} : BinC K mg (rIsi2 K) fIsi2 := fun O σ S σV H vs rs r' S' Q st hr h q => by
  unfold fIsi2 at h
  split at h
  · rename_i x n1 n2
    obtain ⟨v, u, rfl, hx, hy⟩ := reps2 hr
    obtain ⟨a, ys, rfl, sq, y1, r1, rfl, e1, y2, r2, rfl, e2, e3⟩ := hy
    cases e3
    cases (show y1 = .ty n1 from e1)
    cases (show y2 = .ty n2 from e2)
    split at h
    · rename_i t e
      by_cases hn : n1 ∈ kdN ∧ n2 ∈ kdN
      · rw [if_pos hn] at h
        cases h
        exact ⟨v, a, n1, n2, t, rfl, sq, R.kind_rep hx e, hn.1, hn.2, q O _ H (Go.refl _ _) st rfl trivial⟩
      · rw [if_neg hn] at h; cases h
    · cases h
  · cases h
end L3

set_option Elab.async false
set_option linter.all false
set_option maxRecDepth 100000
set_option maxHeartbeats 1000000
namespace L3
open PySem PySem.Spec L2 PyProof.Rows
variable [L2.TabP]
/-! ### a dict's length, its keys as a list -/
section
variable {X : Cx}
end
def fLenD : List R → M R
  | [.dv kvs] => pure (.v (.int kvs.length))
  | _ => bad
def fListD : List R → M R
  | [.dv kvs] => pure (.fr (kvs.map fun kv => kD kv.1))
  | _ => bad
omit [L2.TabP] in
@[simp] theorem e_lenD {kvs : List (Key × D)} : fLenD [.dv kvs] = pure (.v (.int kvs.length)) := rfl
omit [L2.TabP] in
@[simp] theorem e_listD {kvs : List (Key × D)} : fListD [.dv kvs] = pure (.fr (kvs.map fun kv => kD kv.1)) := rfl
end L3

set_option Elab.async false
set_option linter.all false
set_option maxRecDepth 100000
set_option maxHeartbeats 1000000
namespace L3
open PySem PySem.W PyProof.Rows
section
variable {prog : Program} {w : World} {A : Around} {E : Value → Shared → Prop} {s : Shared} {d it : Addr} {es : Array DictEntry} {ep : Nat}
end
end L3
namespace L3
open PySem PySem.Spec L2 PyProof.Rows
/-! ### a dict that is walked: known to the object meanwhile -/
end L3

set_option Elab.async false
set_option linter.all false
set_option maxRecDepth 100000
set_option maxHeartbeats 1000000
namespace L3
open PySem PySem.Spec L2 PyProof.Rows
variable [L2.TabP]
/-! ### [.. for k in d ..] of one's own dict d -/
section
variable {K : PySem.W.Frag} {mg : Str → Option Value} {O : Ow} {H : Hp} {l : Addr} {zs : List (Key × V)} {o : HO} {ob : Obj}
mutual
theorem Rep.updZ (hl : H l = some (.frz ob (.dK zs))) : ∀ {d : D} {v : V}, Rep K mg O H d v → Rep K mg O (upd H l o) d v
  | .non, _, h => h
  | .bl _, _, h => h
  | .int _, _, h => h
  | .str _, _, h => h
  | .tup _, _, h => by
    obtain ⟨a, ys, q, t, r⟩ := h
    refine ⟨a, ys, q, ?_, RepAll.updZ hl r⟩
    rcases t with (t | ⟨o, t⟩) | t
    · exact .inl (.inl (by rw [upd_ne (ne_of t hl (by intro z; cases z))]; exact t))
    · exact .inl (.inr ⟨o, by rw [upd_ne (ne_of t hl (by intro z; cases z))]; exact t⟩)
    · exact .inr t
  | .lst _, _, h => by
    obtain ⟨a, ys, q, t, r⟩ := h
    exact ⟨a, ys, q, ⟨by rw [upd_ne (ne_of t.1 hl (by intro z; cases z))]; exact t.1, t.2⟩, RepAll.updZ hl r⟩
  | .dic _ _, _, h => h
  | .fn _, _, h => h
  | .ty _, _, h => h
theorem RepAll.updZ (hl : H l = some (.frz ob (.dK zs))) : ∀ {ds : List D} {ys : List V}, RepAll K mg O H ds ys → RepAll K mg O (upd H l o) ds ys
  | [], _, h => h
  | _ :: _, _, h => by obtain ⟨x, r, q, a, b⟩ := h; exact ⟨x, r, q, Rep.updZ hl a, RepAll.updZ hl b⟩
end
end
def cCompD (j n : Nat) (cap : List Nat) (t : En → M Bool) (el : ME) : ME := fun σ => match σ[j]? with
  | some (.dct kvs) => do
    chk (kvs.length < sizeLine)
    let xs ← kLoop t el (cpEn n cap σ) (kvs.map fun kv => kD kv.1)
    pure (.fr xs)
  | _ => bad
section
variable {K : PySem.W.Frag} {mg : Str → Option Value} {n : Nat} {cap : List Nat} {t : En → M Bool} {el : ME} {j : Nat}
end
section
variable {X : Cx} {scope esc : Scope} {EN N : List Str} {n : Nat} {cap : List Nat} {elt : Expr} {ifs : List Expr} {pos tpos p : Pos} {x y : Str} {t : En → M Bool} {el : ME} {j : Nat}
end
end L3

set_option Elab.async false
set_option linter.all false
set_option maxRecDepth 100000
set_option maxHeartbeats 1000000
namespace L3
open PySem PySem.Spec L2 PyProof.Rows
variable [L2.TabP]
/-! ### [.. for a, b in zip(x, y) ..] -/
def kLoop2 (t : En → M Bool) (el : ME) (σ : En) : List (D × D) → M (List D)
  | [] => pure []
  | d :: ds => do
    let b ← t ((σ.set 0 (.val d.1)).set 1 (.val d.2))
    if b = true then do
      let r ← el ((σ.set 0 (.val d.1)).set 1 (.val d.2))
      let x ← r.dat
      let xs ← kLoop2 t el σ ds
      pure (x :: xs)
    else kLoop2 t el σ ds
def zipP : List R → Option (List (D × D))
  | [x, y] => match x.walk, y.walk with
    | some xs, some ys => some (xs.zip ys)
    | _, _ => none
  | _ => none
def cCompZ (cap : List Nat) (ms : MA) (t : En → M Bool) (el : ME) : ME := fun σ => do
  let rs ← ms σ
  match zipP rs with
  | some ds => do
    chk (ds.length < sizeLine)
    let xs ← kLoop2 t el (cpEn 2 cap σ) ds
    pure (.fr xs)
  | none => bad
inductive CompJ (K : PySem.W.Frag) (mg : Str → Option Value) (n : Nat) (cap : List Nat) (loop : Nat → M (List L3.D)) (O1 : Ow) (σ : En) (S' : Store) (σV : L2.St) (H1 : Hp) (A : Addr) (xs : List L3.D) (k : Nat) (zs : List V) (H' : Hp) : Prop
  | mk (O' : Ow) (S'' : Store) (acc xs' : List L3.D) (st' : S3 K mg O' (cpEn n cap σ) S'' (cpSt n cap σV) H') (s' : Same H1 H') (own' : ∀ b, H1 b ≠ none → O' b = blk O1 b) (tD : O' A = .tmp) (hH : H' A = some (.lst zs)) (hz : zs.length ≤ k)
      (rz : RepAll K mg O' H' acc zs) (h : (loop k).run S'' = .ok xs' S') (ex : acc ++ xs' = xs)
section
variable {X : Cx} {scope esc : Scope} {EN N : List Str} {cap : List Nat} {elt a b' : Expr} {ifs : List Expr} {pos tpos p cpos p1 p2 : Pos} {x y : Str} {t : En → M Bool} {el : ME} {ms : MA} {k : Nat}
end
omit [L2.TabP] in
@[simp] theorem e_compZ {cap : List Nat} {ms : MA} {t : En → M Bool} {el : ME} {σ : En} : cCompZ cap ms t el σ = (do
  let rs ← ms σ
  match zipP rs with
  | some ds => do
    chk (ds.length < sizeLine)
    let xs ← kLoop2 t el (cpEn 2 cap σ) ds
    pure (.fr xs)
  | none => bad) := rfl
end L3

set_option Elab.async false
set_option linter.all false
set_option maxRecDepth 100000
set_option maxHeartbeats 1000000
namespace L3
open PySem PySem.Spec L2 PyProof.Rows
/-! ### max(.., key = ..), the keys tuples of ints -/
def keyI (mf : MF) (d : D) : Option (List Int) := match (mf [d]).run [] with
  | .ok (.v (.tup ks)) [] => nums ks
  | _ => none
def maxGo (mf : MF) (b : D) (kb : List Int) : List D → Option D
  | [] => some b
  | d :: ds => match keyI mf d with
    | some kd => if lexGt kd kb = true then maxGo mf d kd ds else maxGo mf b kb ds
    | none => none
def maxAll (mf : MF) : List D → Option D
  | d :: ds => match keyI mf d with
    | some k => maxGo mf d k ds
    | none => none
  | [] => none
def fMaxK (mf : MF) (x : R) : M R := match x.lis with
  | some ds => match maxAll mf ds with
    | some r => if ds.length < 64 then pure (.v r) else bad
    | none => bad
  | none => bad
def cMaxK (mf : MF) (ma : ME) : ME := fun σ => do
  let x ← ma σ
  fMaxK mf x
variable [L2.TabP]
section
variable {X : Cx} {pins : List (Addr × Obj)} {σ : L2.St} {H : Hp} {s : Shared} {G : Hp → Prop} {mf : MF} {f S it l : Addr} {k : Nat} {O : Ow}
/-- the best so far -/
structure BSt (X : Cx) (pins : List (Addr × Obj)) (σ : L2.St) (G : Hp → Prop) (O : Ow) (H : Hp) (S it l : Addr) (j : Nat) (d : D) (kb : List Int) (s' : Shared) : Prop where
  ex : ∃ O' H' v kv, Inv X pins σ H' s' ∧ Go O O' H H' ∧ Dom O' H' ∧ G H' ∧ H' S = some (.lst [v, kv]) ∧ Rep X.K X.mg O' H' d v ∧ Rep X.K X.mg O' H' (.tup (kb.map D.int)) kv ∧ O' S = .tmp ∧ FpOk X pins H' it ∧ s'.heap.IsListIter it l j


end
section
variable {X : Cx} {k : Nat} {e : Expr} {ma : ME} {p pos kp : Pos} {kx : Expr} {mf : MF} {G : Addr → Hp → Prop}
end
end L3

set_option Elab.async false
set_option linter.all false
set_option maxRecDepth 100000
set_option maxHeartbeats 1000000
namespace L3
open PySem PySem.Spec L2 PyProof.Rows
variable [L2.TabP]
/-! ### the same rules, shut -/
section
variable {X : Cx} {scope esc : Scope} {EN N : List Str} {n : Nat} {cap : List Nat} {elt : Expr} {ifs : List Expr} {pos tpos p : Pos} {x y : Str} {t : En → M Bool} {el : ME} {j : Nat}
end
section
variable {X : Cx} {scope esc : Scope} {EN N : List Str} {cap : List Nat} {elt a b' : Expr} {ifs : List Expr} {pos tpos p cpos p1 p2 : Pos} {x y : Str} {t : En → M Bool} {el : ME} {ms : MA} {k : Nat}
end
theorem ws_forZ {X : Cx} {pos tpos : Pos} {is : List Nat} {es : List Expr} {k : Nat} {p cpos : Pos} {a b' : Expr} {ms : MA} {body : List Stmt} {b : MS} (hp : PassesOwn (model X.prog X.w) X.A X.env X.xe) (hc : X.calm = true) (hgz : Gl X "zip") (hm : X.mg "zip" = none) (ha : WA X [a, b'] ms) (hg : PGs X es (gNames is)) (hb : WSs X body b)
    (hn : (assignEach es X.env).length = is.length := by rfl) (hst : (assignEach es X.env).findIdx? (·.1) = none := by rfl)
    (hs : ∀ x, foldedSetIterable (.Call (.Name "zip" p) [a, b'] [] cpos) X.env x = pure x := by intro _; rfl) (hs1 : starEach [a, b'] X.env = [(false, eval a X.env), (false, eval b' X.env)] := by rfl) (hs2 : starEach [b'] X.env = [(false, eval b' X.env)] := by rfl) :
    WS X (.For (.Tuple es k tpos) (.Call (.Name "zip" p) [a, b'] [] cpos) body [] pos) (cForZ is ms b) := ⟨cs_forZ hp hc hgz hm ha.un hg hb.un hn hst hs hs1 hs2⟩
section
variable {X : Cx} {k : Nat} {e : Expr} {ma : ME} {p pos kp : Pos}
end
omit [L2.TabP] in
@[simp] theorem e_compD {j n : Nat} {cap : List Nat} {t : En → M Bool} {el : ME} {σ : En} : cCompD j n cap t el σ = (match σ[j]? with
  | some (.dct kvs) => do
    chk (kvs.length < sizeLine)
    let xs ← kLoop t el (cpEn n cap σ) (kvs.map fun kv => kD kv.1)
    pure (.fr xs)
  | _ => bad) := rfl
omit [L2.TabP] in
@[simp] theorem e_maxK {mf : MF} {ma : ME} {σ : En} : cMaxK mf ma σ = (do
  let x ← ma σ
  fMaxK mf x) := rfl
end L3

set_option Elab.async false
set_option linter.all false
set_option maxRecDepth 100000
set_option maxHeartbeats 1000000
namespace L3
open PySem PySem.Spec L2 PyProof.Rows
variable [L2.TabP]
/-! ### t[lo:hi] of a tuple, the whole too; t[::-1] -/
section
open HT
variable {prog : Program} {w : World} {A : Around} {E : Value → Shared → Prop} {s : Shared}
end
def oSlW (x : R) (lo hi : Option Int) : M R :=
  match x with
  | .v (.tup xs) => pure (.v (.tup (cutD xs lo hi)))
  | _ => bad
def cSlW (a : ME) (lo hi : MO) : ME := fun σ => do
  let x ← a σ
  let l ← lo σ
  let h ← hi σ
  oSlW x l h
section
variable {X : Cx} {e st : Expr} {m ms : ME} {lo hi : Option Expr} {ml mh : MO} {pos p2 : Pos}
/-- t[::-1] -/
def cRev (a : ME) (ms : MO) : ME := fun σ => do
  let x ← a σ
  let o ← ms σ
  match x, o with
  | .v (.tup xs), some i => if i = -1 then pure (.v (.tup xs.reverse)) else bad
  | _, _ => bad
end
end L3

set_option Elab.async false
set_option linter.all false
set_option maxRecDepth 100000
set_option maxHeartbeats 1000000
namespace L3
open PySem PySem.Spec L2 PyProof.Rows
variable [L2.TabP]
/-! ### sorted(..) of ints, some of them equal -/
section
variable {K : PySem.W.Frag} {mg : Str → Option Value} {O : Ow} {H : Hp}
end
/-- the ints in order -/
def srtI (ns : List Int) : List Int := ns.mergeSort fun a b => decide (a ≤ b)
end L3

set_option Elab.async false
set_option linter.all false
set_option maxRecDepth 100000
set_option maxHeartbeats 1000000
namespace L3
open PySem PySem.Spec L2 PyProof.Rows
variable [L2.TabP]
/-! ### str(..) of an int; sorted(..) of ints; len(set(..)) of ints -/
def fStrI : List R → M R
  | [.v (.int i)] => if i.natAbs.log2 < 1920 then pure (.v (.str (toString i))) else bad
  | _ => bad
theorem kStrI {K : PySem.W.Frag} {mg : Str → Option Value} : BinC K mg (fun xs H Q => ∃ i, xs = [.int i] ∧ i.natAbs.log2 < 1920 ∧ Q (.str (toString i)) H) fStrI := fun O σ S σV H vs rs r' S' Q st hr h q => by
  unfold fStrI at h
  split at h
  · rename_i i
    by_cases c : i.natAbs.log2 < 1920
    · rw [if_pos c] at h
      cases h
      obtain ⟨v, rfl, hx⟩ := reps1 hr
      exact ⟨i, by rw [show v = V.int i from hx], c, q O _ H (Go.refl _ _) st rfl trivial⟩
    · rw [if_neg c] at h; cases h
  · cases h
def fSortI : List R → M R
  | [x] => match x.lis.bind nums with
    | some ns => if ns.length < 64 then pure (.fr ((srtI ns).map D.int)) else bad
    | none => bad
  | _ => bad
/-- how many there are -/
def dcnt (ns : List Int) : Nat := (ns.foldl step_dedup []).length
def cLenSet (m : ME) : ME := fun σ => do
  let x ← m σ
  match x.lis.bind nums with
  | some ns => if ns.length < 64 then pure (.v (.int (dcnt ns : Nat))) else bad
  | none => bad
section
variable {X : Cx} {e st : Expr} {m : ME} {lo hi : Option Expr} {ml mh mo : MO} {pos p2 p p' pos' : Pos}
end
omit [L2.TabP] in
@[simp] theorem e_slW {a : ME} {lo hi : MO} {σ : En} : cSlW a lo hi σ = (do
  let x ← a σ
  let l ← lo σ
  let h ← hi σ
  oSlW x l h) := rfl
omit [L2.TabP] in
@[simp] theorem e_slWt {xs : List D} {l h : Option Int} : oSlW (.v (.tup xs)) l h = pure (.v (.tup (cutD xs l h))) := rfl
omit [L2.TabP] in
@[simp] theorem e_rev {a : ME} {ms : MO} {σ : En} : cRev a ms σ = (do
  let x ← a σ
  let o ← ms σ
  match x, o with
  | .v (.tup xs), some i => if i = -1 then pure (.v (.tup xs.reverse)) else bad
  | _, _ => bad) := rfl
omit [L2.TabP] in
@[simp] theorem e_lenSet {m : ME} {σ : En} : cLenSet m σ = (do
  let x ← m σ
  match x.lis.bind nums with
  | some ns => if ns.length < 64 then pure (.v (.int (dcnt ns : Nat))) else bad
  | none => bad) := rfl
omit [L2.TabP] in
@[simp] theorem e_sortI {x : R} : fSortI [x] = (match x.lis.bind nums with
    | some ns => if ns.length < 64 then pure (.fr ((srtI ns).map D.int)) else bad
    | none => bad) := rfl
end L3

set_option Elab.async false
set_option linter.all false
set_option maxRecDepth 100000
set_option maxHeartbeats 1000000
namespace L3
open PySem PySem.Spec L2
/-! ### for k, x in enumerate(xs) -/
variable [L2.TabP]
def enuD (k : Nat) : List D → List D
  | [] => []
  | x :: xs => .tup [.int (k : Nat), x] :: enuD (k + 1) xs
def cForE (is : List Nat) (ms : MA) (b : MS) : MS := fun σ => do
  let rs ← ms σ
  match rs with
  | [.fr xs] => fLoop (tupB is b) (enuD 0 xs) σ
  | _ => bad
omit [L2.TabP] in
@[simp] theorem e_forE {is : List Nat} {ms : MA} {b : MS} {σ : En} : cForE is ms b σ = (do
  let rs ← ms σ
  match rs with
  | [.fr xs] => fLoop (tupB is b) (enuD 0 xs) σ
  | _ => bad) := rfl
end L3

set_option Elab.async false
set_option linter.all false
set_option maxRecDepth 100000
set_option maxHeartbeats 1000000
namespace L3
open PySem PySem.Spec L2 PyProof.Rows
variable [L2.TabP]
/-! ### k in d, d a dict of places -/
def cPIn (j : Nat) (mk : ME) : ME := fun σ => do
  let k ← mk σ
  match pdOf σ[j]?, k with
  | some kvs, .v kd => match unPl kd with
    | some p => pure (.v (.bl (pval kvs p).isSome))
    | none => bad
  | _, _ => bad
section
variable {X : Cx} {j : Nat} {x : Str} {i : Expr} {mk : ME} {p pos : Pos}
end
/-! ### a def that returns a new dict of places -/
abbrev MPD := List D → M (List (Pl × D))
def tsPd (K : PySem.W.Frag) (mg : Str → Option Value) (j : Nat) (m : MS) : TS := fun Dn σV H => ∃ O σ S σ' S' kvs, S3 K mg O σ S σV H ∧ (m σ).run S = .ok (.nx σ') S' ∧ σ'[j]? = some (.pd kvs) ∧ ∀ O' a xs H', Gs O O' H H' → Dom O' H' → S' = [] → O' a = .loc j → H' a = some (PD a xs) → PdOk a xs → RepPD K mg O' H' kvs xs → Dn.rt (.ref a) H'
abbrev CSp (X : Cx) (j : Nat) (sts : List Stmt) (m : MS) : Prop := PSs X sts (tsPd X.K X.mg j m)
/-- x = f(..), f such a def -/
def cPSet (i : Nat) (mf : MPD) (ms : MA) : MS := fun σ => do
  let rs ← ms σ
  let kvs ← mf (rs.map R.arg)
  pure (.nx (σ.set i (.pd kvs)))
/-! ### shut -/
section
variable (X : Cx)
structure WSp (j : Nat) (e : List Stmt) (m : MS) : Prop where
  un : CSp X j e m
end
omit [L2.TabP] in
@[simp] theorem e_pin {j : Nat} {mk : ME} {σ : En} : cPIn j mk σ = (do
  let k ← mk σ
  match pdOf σ[j]?, k with
  | some kvs, .v kd => match unPl kd with
    | some p => pure (.v (.bl (pval kvs p).isSome))
    | none => bad
  | _, _ => bad) := rfl
omit [L2.TabP] in
@[simp] theorem e_pset {i : Nat} {mf : MPD} {ms : MA} {σ : En} : cPSet i mf ms σ = (do
  let rs ← ms σ
  let kvs ← mf (rs.map R.arg)
  pure (.nx (σ.set i (.pd kvs)))) := rfl
end L3

set_option Elab.async false
set_option linter.all false
set_option maxRecDepth 100000
set_option maxHeartbeats 1000000
namespace L3
open PySem PySem.Spec L2
variable [L2.TabP]
/-! ### d in a list of plain data -/
end L3

set_option Elab.async false
set_option linter.all false
set_option maxRecDepth 100000
set_option maxHeartbeats 1000000
namespace L3
open PySem PySem.Spec L2
variable [L2.TabP]
/-! ### a list inside a tree, under a name of its own: x = t[k]; ..; all of it up to the block's end -/
def lvs : List Tr → Option (List D)
  | [] => some []
  | .lf d :: ts => (lvs ts).map (d :: ·)
  | _ :: _ => none
def noV : Slot → Bool
  | .vd _ => false
  | .vp _ => false
  | _ => true
def borB (i : Nat) (x : Pt) (t0 : Tr) : Fl → M Fl
  | .nx σ' => (match σ'[i]?, σ'[x.i]? with
    | some (.ow true ys), some (.tr .view .any) => if σ'.all noV = true then pure (.nx ((σ'.set i .emp).set x.i (.tr .own (Tr.put x.p t0 (.ls (ys.map .lf)))))) else bad
    | _, _ => bad)
  | _ => bad
def cBor (i : Nat) (mp : MP) (b : MS) : MS := fun σ => do
  let x ← mp σ
  match x.t, σ[x.i]? with
  | .ls us, some (.tr .own t0) => (match lvs us with
    | some xs => if x.m = .own ∧ i ≠ x.i ∧ i < σ.length then (do
        let fl ← b ((σ.set x.i (.tr .view .any)).set i (.ow true xs))
        borB i x t0 fl) else bad
    | none => bad)
  | _, _ => bad
open Classical in
noncomputable def backO (j : Nat) (O O' : Ow) : Ow := fun b => if ∃ p, O b = .tr j p then O b else O' b
section
variable {K : PySem.W.Frag} {mg : Str → Option Value} {O O' : Ow} {H H' : Hp} {i j : Nat} {a : Addr} {p : List Nat}
end
omit [L2.TabP] in
@[simp] theorem e_cBor {i : Nat} {mp : MP} {b : MS} {σ : En} : cBor i mp b σ = (do
  let x ← mp σ
  match x.t, σ[x.i]? with
  | .ls us, some (.tr .own t0) => (match lvs us with
    | some xs => if x.m = .own ∧ i ≠ x.i ∧ i < σ.length then (do
        let fl ← b ((σ.set x.i (.tr .view .any)).set i (.ow true xs))
        borB i x t0 fl) else bad
    | none => bad)
  | _, _ => bad) := rfl
end L3

set_option Elab.async false
set_option linter.all false
set_option maxRecDepth 100000
set_option maxHeartbeats 1000000
namespace L3
open PySem PySem.Spec L2 PyProof.Rows PySem.W
/-! ### sorted(..) of rows (epoch, stamp, ..), no two of one place -/
section
variable {prog : Program} {w : World} {A : Around} {s : Shared} {E : Value → Shared → Prop}
end
section
variable [L2.TabP] {X : Cx} {pins : List (Addr × Obj)} {σ : L2.St} {H : Hp} {s : Shared} {A : Around} {E : Value → Shared → Prop} {O : Ow} {Q : VK}
end
variable [L2.TabP]
end L3

set_option Elab.async false
set_option linter.all false
set_option maxRecDepth 100000
set_option maxHeartbeats 1000000
namespace L3
open PySem PySem.Spec L2
variable [L2.TabP]
/-! ### trees with tuples in them, dicts with numbers as keys -/
def vTup (ms : MTs) : MT := fun σ => do
  let ts ← ms σ
  chk (ts.length ≤ 1000)
  pure (.tp ts)
def keyIx (ks : List Key) (i : Int) : Option Nat := ks.findIdx? fun k => decide (k = .inl i)
def pDi (m : MP) (mk : ME) : MP := fun σ => do
  let x ← m σ
  let k ← mk σ
  match x.t, k with
  | .dc ks ts, .v (.int i) => (match keyIx ks i with
    | some n => kidM ts n (Pt.mk x.i (x.p ++ [n]) x.m)
    | none => bad)
  | _, _ => bad
def pIt (m : MP) (mk : ME) : MP := fun σ => do
  let x ← m σ
  let k ← mk σ
  match x.t, k with
  | .tp ts, .v (.int j) => if 0 ≤ j then kidM ts j.toNat (Pt.mk x.i (x.p ++ [j.toNat]) x.m) else bad
  | _, _ => bad
section
variable {X : Cx} {e k : Expr} {es : List Expr} {m : MP} {mk : ME} {mt : MT} {ms : MTs} {pos : Pos} {j : Nat} {p : List Nat} {n : Nat}
end
end L3

set_option Elab.async false
set_option linter.all false
set_option maxRecDepth 100000
set_option maxHeartbeats 1000000
namespace L3
open PySem PySem.Spec L2
variable [L2.TabP]
/-! ### bodies whose returns keep the names' slots: defs that change a tree and tell something -/
inductive Fq where
  | nx (σ : En) | rt (d : D) (σ : En)
abbrev MSq := En → M Fq
def qOf (a : MS) : MSq := fun σ => do
  let fl ← a σ
  match fl with
  | .nx σ' => pure (.nx σ')
  | _ => bad
def qRet (m : ME) : MSq := fun σ => do
  let r ← m σ
  let d ← r.dat
  pure (.rt d σ)
def qIf (t : En → M Bool) (a b : MSq) : MSq := fun σ => do
  let t ← t σ
  if t = true then a σ else b σ
def qPass : MSq := fun σ => pure (.nx σ)
def qSeq (a b : MSq) : MSq := fun σ => do
  let f ← a σ
  match f with
  | .nx σ' => b σ'
  | f => pure f
section
variable {X : Cx} {st : Stmt} {rest : List Stmt} {pos : Pos} {a b : MSq}
end
abbrev MTB := List Tr → List D → M (D × List Tr)
section
variable {X : Cx} {x y z : Str} {ps : List Str} {k i j : Nat} {mr : MTB} {p p1 p2 pos pos' : Pos} {es : List Expr} {ms : MA} {a b : MS} {A B : List Stmt}
end
end L3

set_option Elab.async false
set_option linter.all false
set_option maxRecDepth 100000
set_option maxHeartbeats 1000000
namespace L3
open PySem PySem.Spec L2
variable [L2.TabP]
/-! ### a list of a tree, lent to a name, comes back -/
structure Lent (K : PySem.W.Frag) (mg : Str → Option Value) (i j : Nat) (m : TM) (t0 : Tr) (q : List Nat) (a : Addr) (O : Ow) (σ σ1 : En) (S : Store) (σV σV1 : St) (H : Hp) : Prop where
  st : S3 K mg O σ S σV H
  ne : i ≠ j
  hm : m ≠ .view
  e0 : σ[j]? = some (.tr m t0)
  oa : O a = .tr j q
  pth : ∃ v0 s, σV[j]?.join = some v0 ∧ Tr.atP q t0 = some s ∧ PathV H v0 q (.ref a)
  kq : ∀ (k : Nat) (s : Slot), i ≠ k → j ≠ k → σ1[k]? = some s → (∀ d, s ≠ .val d) → σ[k]? = some s ∧ σV1[k]? = σV[k]?
  vi : σV1[i]? = some (some (.ref a))
  vj : σV1[j]? = σV[j]?
/-- behind the loan -/
structure Back (K : PySem.W.Frag) (mg : Str → Option Value) (i j : Nat) (m : TM) (t0 : Tr) (q : List Nat) (a : Addr) (O O' : Ow) (σ σ' : En) (S' : Store) (σV σV' : St) (H H' : Hp) (ys : List D) : Prop where
  st : S3 K mg (backO j O O') ((σ'.set i .emp).set j (.tr m (Tr.put q t0 (.ls (ys.map .lf))))) S' σV' H'
  gs : Gs O (backO j O O') H H'
  kp : Kp σ ((σ'.set i .emp).set j (.tr m (Tr.put q t0 (.ls (ys.map .lf))))) σV σV'
  fre : Fre O' (backO j O O')
  vi : σV'[i]? = some (some (.ref a))
  oa : backO j O O' a = .tr j q
  la : ∃ zs, H' a = some (.lst zs) ∧ RepAll K mg (backO j O O') H' ys zs
end L3

set_option Elab.async false
set_option linter.all false
set_option maxRecDepth 100000
set_option maxHeartbeats 1000000
namespace L3
open PySem PySem.Spec L2
variable [L2.TabP]
/-! ### g, l = x[e]; ..; the list g goes back at the end, or with x[e] = (g, ..) -/
section
variable {K : PySem.W.Frag} {mg : Str → Option Value}
end
end L3

set_option Elab.async false
set_option linter.all false
set_option maxRecDepth 100000
set_option maxHeartbeats 1000000
namespace L3
open PySem PySem.Spec L2 PyProof.Rows
/-! ### max(..) of tuples of ints -/
variable [L2.TabP]
section
variable {X : Cx} {pins : List (Addr × Obj)} {σ : L2.St} {H : Hp} {s : Shared} {S it l : Addr} {O : Ow}
end
end L3

set_option Elab.async false
set_option linter.all false
set_option maxRecDepth 100000
set_option maxHeartbeats 1000000
namespace L3
open PySem PySem.Spec L2
variable [L2.TabP]
section
variable {X : Cx} {g l j ie : Nat} {e c5 ex : Expr} {es : List Expr} {k kk : Nat} {tpos pos p1 p2 p3 p4 p5 p6 p7 : Pos} {S4 C5 R5 : Stmt} {R : List Stmt} {xj xi xg : Str} {mp : MP} {m4 mC mR5 mR : MSq} {t5 : En → M Bool} {mx : ME}
end
section
variable {X : Cx} {st : Stmt} {rest : List Stmt} {pos : Pos} {a b : MSq}
end
section
variable {X : Cx} {x y z : Str} {ps : List Str} {k i j : Nat} {mr : MTB} {p p1 p2 pos pos' : Pos} {es : List Expr} {ms : MA} {a b : MS} {A B : List Stmt}
end
section
omit [L2.TabP]
@[simp] theorem e_vTup {ms : MTs} {σ : En} : vTup ms σ = (do
  let ts ← ms σ
  chk (ts.length ≤ 1000)
  pure (.tp ts)) := rfl
@[simp] theorem e_pDi {m : MP} {mk : ME} {σ : En} : pDi m mk σ = (do
  let x ← m σ
  let k ← mk σ
  match x.t, k with
  | .dc ks ts, .v (.int i) => (match keyIx ks i with
    | some n => kidM ts n (Pt.mk x.i (x.p ++ [n]) x.m)
    | none => bad)
  | _, _ => bad) := rfl
@[simp] theorem e_pIt {m : MP} {mk : ME} {σ : En} : pIt m mk σ = (do
  let x ← m σ
  let k ← mk σ
  match x.t, k with
  | .tp ts, .v (.int j) => if 0 ≤ j then kidM ts j.toNat (Pt.mk x.i (x.p ++ [j.toNat]) x.m) else bad
  | _, _ => bad) := rfl
@[simp] theorem e_qOf {a : MS} {σ : En} : qOf a σ = (do
  let fl ← a σ
  match fl with
  | .nx σ' => pure (.nx σ')
  | _ => bad) := rfl
@[simp] theorem e_qRet {m : ME} {σ : En} : qRet m σ = (do
  let r ← m σ
  let d ← r.dat
  pure (.rt d σ)) := rfl
@[simp] theorem e_qIf {t : En → M Bool} {a b : MSq} {σ : En} : qIf t a b σ = (do
  let t ← t σ
  if t = true then a σ else b σ) := rfl
@[simp] theorem e_qPass {σ : En} : qPass σ = pure (.nx σ) := rfl
@[simp] theorem e_qSeq {a b : MSq} {σ : En} : qSeq a b σ = (do
  let f ← a σ
  match f with
  | .nx σ' => b σ'
  | f => pure f) := rfl
end
end L3

set_option Elab.async false
set_option linter.all false
set_option maxRecDepth 100000
set_option maxHeartbeats 1000000
namespace L3
open PySem PySem.Spec L2 PyProof.Rows
/-! ### exceptions: how a raised one lies in the heap, and what is kept -/
/-- all but xs is kept, of the frames fs the slots may change -/
def KeptX (fs xs : List Addr) (h h' : Heap) : Prop := ∀ b o, h.get? b = some o → b ∉ xs → (b ∉ fs → h'.get? b = some o) ∧ ∃ sl, h'.get? b = some { o with slots := sl }
theorem KeptX.trans {fs xs ys : List Addr} {h h1 h2 : Heap} (a : KeptX fs xs h h1) (b : KeptX fs ys h1 h2) : KeptX fs (xs ++ ys) h h2 := fun c o e hc => by
  have n1 : c ∉ xs := fun z => hc (List.mem_append_left _ z)
  have n2 : c ∉ ys := fun z => hc (List.mem_append_right _ z)
  obtain ⟨a1, sl, a2⟩ := a c o e n1
  refine ⟨fun hf => (b c o (a1 hf) n2).1 hf, ?_⟩
  obtain ⟨_, sl', b2⟩ := b c _ a2 n2
  exact ⟨sl', b2⟩
/-- the exception at e, its trace's head at T -/
def Tr3 (h : Heap) (e T : Addr) (cls fl : Value) : Prop := ∃ oe vs oT ts, h.get? e = some oe ∧ oe.cls = cls ∧ oe.data = .fields vs ∧ vs[1]? = some (.ref T) ∧ T ≠ e ∧ h.get? T = some oT ∧ oT.data = .fields ts ∧ ts[3]? = some fl
theorem Tr3.there {h : Heap} {e T : Addr} {cls fl : Value} (x : Tr3 h e T cls fl) : ∃ ob, h.get? e = some ob ∧ ob.cls = cls := by
  obtain ⟨oe, _, _, _, he, hc, _⟩ := x
  exact ⟨oe, he, hc⟩
section
variable {M : Model} {A : Around} {E : Value → Shared → Prop} {s : Shared}
theorem entryX {base : Heap} {env : Env} {outer : List Env} {L e : Addr} {oe : Obj} {vs : Array Value} {head : Value} {hadNext : Bool} {Q : Unit → Shared → Prop}
    (hfr : A.frames = some (env :: outer)) (hl : s.heap.FunFrames base (env :: outer)) (hf : env.frame = some L) (he : s.heap.get? e = some oe) (hd : oe.data = .fields vs) (hsz : 1 < vs.size)
    (h : ∀ h' T, KeptX (frs (env :: outer)) [e] s.heap h' → s.heap.objs.size ≤ T → Tr3 h' e T oe.cls (rawInt L) → Q () { s with heap := h' }) :
    wpAny M A (do let a ← frameOf env; let pl ← entryPlaceOf L hadNext; let b ← EntryCells.newEntry head a .none (rawInt L) .none pl; setField (.ref e) 1 b) Q E s := by
  have hene : e ∉ (env :: outer).filterMap (·.frame) := fun hm => by
    obtain ⟨_, o, ho, hnf⟩ := hl.mem hm
    rw [he] at ho; injection ho with ho; subst ho; exact hnf vs hd
  refine wpAny_bind (wpAny_frameOf_fun hfr hl hf fun h₁ hs₁ => ?_)
  refine wpAny_bind (wpAny_entryPlaceOf fun pl hpl => ?_)
  unfold EntryCells.newEntry newFields
  refine wpAny_bind (wpAny_newObj_type ?_ (hpl.sizeOk5 _ _ _ _ _))
  have he₁ : h₁.get? e = some oe := (hs₁.2.1 e hene).trans he
  have he₂ := Heap.get?_push_of_some (h := h₁) { cls := .type "traceback", dict := none, data := .fields ([head, .ref L, .none, rawInt L, .none] ++ (if pl.isEmpty then List.replicate 6 Value.none else pl)).toArray } he₁
  refine wpAny_setField he₂ hd hsz (h _ h₁.objs.size ?_ (by rw [hs₁.1]; exact Nat.le_refl _) ?_)
  · intro b o hb hbe
    have hbe : b ≠ e := fun z => hbe (by simp [z])
    have keep : ∀ o, h₁.get? b = some o → ((h₁.push { cls := .type "traceback", dict := none, data := .fields ([head, .ref L, .none, rawInt L, .none] ++ (if pl.isEmpty then List.replicate 6 Value.none else pl)).toArray }).update e (Obj.mapFields (·.setIfInBounds 1 (Value.ref h₁.objs.size)))).get? b = some o := fun o hb => by
      rw [Heap.get?_update_other _ _ (Ne.symm hbe)]
      exact Heap.get?_push_of_some _ hb
    refine ⟨fun hnf => keep o ((hs₁.2.1 b hnf).trans hb), ?_⟩
    obtain ⟨sl, hs⟩ := hs₁.2.2 b o hb
    exact ⟨sl, keep _ hs⟩
  · have hTe : h₁.objs.size ≠ e := Nat.ne_of_gt (Heap.lt_size he₁)
    have hd₃ := Obj.data_mapFields hd (·.setIfInBounds 1 (Value.ref h₁.objs.size))
    have he₃ := Heap.get?_update_self (Obj.mapFields (·.setIfInBounds 1 (Value.ref h₁.objs.size))) he₂ (Obj.isFreed_of_fields hd₃)
    have hT₃ := (Heap.get?_update_other (h₁.push { cls := .type "traceback", dict := none, data := .fields ([head, .ref L, .none, rawInt L, .none] ++ (if pl.isEmpty then List.replicate 6 Value.none else pl)).toArray })
      (Obj.mapFields (·.setIfInBounds 1 (Value.ref h₁.objs.size))) (Ne.symm hTe)).trans (Heap.get?_push_size h₁ rfl)
    exact ⟨_, _, _, _, he₃, Obj.cls_mapFields _ _, hd₃, by simp [hsz], hTe, hT₃, rfl, by first | (simp; done) | (rcases hpl with rfl | ⟨_, _, _, _, _, _, _, rfl⟩ <;> simp)⟩
theorem note_first {base : Heap} {env : Env} {outer : List Env} {L e : Addr} {oe : Obj} {vs : Array Value} {Q : Unit → Shared → Prop}
    (hfr : A.frames = some (env :: outer)) (hl : s.heap.FunFrames base (env :: outer)) (hf : env.frame = some L) (he : s.heap.get? e = some oe) (hd : oe.data = .fields vs) (h1 : vs[1]? = some .none)
    (h : ∀ h' T, KeptX (frs (env :: outer)) [e] s.heap h' → s.heap.objs.size ≤ T → Tr3 h' e T oe.cls (rawInt L) → Q () { s with heap := h' }) : wpAny M A (noteFrame (.ref e) env) Q E s := by
  unfold noteFrame
  simp only [hf]
  refine wpAny_bind (wpAny_field he hd h1 ?_)
  rw [if_neg (by decide)]
  exact entryX hfr hl hf he hd (Array.getElem?_eq_some_iff.mp h1).1 h
theorem note_next {base : Heap} {env : Env} {outer : List Env} {L e T : Addr} {cls : Value} {Q : Unit → Shared → Prop}
    (hfr : A.frames = some (env :: outer)) (hl : s.heap.FunFrames base (env :: outer)) (hf : env.frame = some L) (ht : Tr3 s.heap e T cls .none)
    (h : ∀ h' T', KeptX (frs (env :: outer)) [T, e] s.heap h' → s.heap.objs.size ≤ T' → Tr3 h' e T' cls (rawInt L) → Q () { s with heap := h' }) : wpAny M A (noteFrame (.ref e) env) Q E s := by
  obtain ⟨oe, vs, oT, ts, he, rfl, hd, h1, hTe, hT, hdT, h3⟩ := ht
  unfold noteFrame
  simp only [hf]
  refine wpAny_bind (wpAny_field he hd h1 ?_)
  rw [if_pos (show (Value.ref T != Value.none) = true from by simp)]
  refine wpAny_bind (wpAny_field hT hdT h3 ?_)
  rw [if_neg (show ¬ ((Value.none == rawInt L) = true) from by simp [rawInt])]
  refine wpAny_bind (wpAny_setField hT hdT (Array.getElem?_eq_some_iff.mp h3).1 ?_)
  have other : ∀ b, b ≠ T → (s.heap.update T (Obj.mapFields (·.setIfInBounds 3 Value.none))).get? b = s.heap.get? b := fun b hb => Heap.get?_update_other _ _ (Ne.symm hb)
  have noRecord : ∀ b o, s.heap.get? b = some o → (∀ vs, o.data ≠ .fields vs) → b ≠ T := fun b o hb hnf q => by
    rw [q, hT] at hb; injection hb with hb; subst hb; exact hnf ts hdT
  have k0 : KeptX (frs (env :: outer)) [T] s.heap (s.heap.update T (Obj.mapFields (·.setIfInBounds 3 Value.none))) := fun b o hb hbT => by
    have hbT : b ≠ T := fun z => hbT (by simp [z])
    exact ⟨fun _ => (other b hbT).trans hb, o.slots, (other b hbT).trans hb⟩
  refine entryX hfr (hl.of_keeps fun b o hb hnf => ⟨o, (other b (noRecord b o hb hnf)).trans hb, rfl⟩) hf ((other e (Ne.symm hTe)).trans he) hd (Array.getElem?_eq_some_iff.mp h1).1
    fun h' T' k1 hT' t1 => h h' T' (k0.trans k1) (by rw [Heap.size_update] at hT'; exact hT') t1
theorem flightX {fs : List Addr} {e T : Addr} {cls fl : Value} {Q : Unit → Shared → Prop} (ht : Tr3 s.heap e T cls fl) (h : ∀ h', KeptX fs [T] s.heap h' → Tr3 h' e T cls .none → Q () { s with heap := h' }) :
    wpAny M A (setFlight (.ref e) none) Q E s := by
  obtain ⟨oe, vs, oT, ts, he, hc, hd, h1, hTe, hT, hdT, h3⟩ := ht
  have hsz3 : 3 < ts.size := (Array.getElem?_eq_some_iff.mp h3).1
  have other : ∀ b, b ≠ T → (s.heap.update T (Obj.mapFields (·.setIfInBounds 3 ((none : Option Addr).elim Value.none fun f => rawInt f)))).get? b = s.heap.get? b :=
    fun b hb => Heap.get?_update_other _ _ (Ne.symm hb)
  unfold setFlight
  refine wpAny_bind (wpAny_field he hd h1 ?_)
  rw [if_pos (show (Value.ref T != Value.none) = true from by simp)]
  refine wpAny_setField hT hdT hsz3 (h _ (fun b o hb hbT => ?_) ?_)
  · have hbT : b ≠ T := fun z => hbT (by simp [z])
    exact ⟨fun _ => (other b hbT).trans hb, o.slots, (other b hbT).trans hb⟩
  · exact ⟨oe, vs, _, _, (other e (Ne.symm hTe)).trans he, hc, hd, h1, hTe, Heap.get?_update_self _ hT (Obj.isFreed_of_fields (Obj.data_mapFields hdT _)), Obj.data_mapFields hdT _, by simp [hsz3]⟩
end
section
variable {X : Cx} {pins : List (Addr × Obj)} {σ : L2.St} {H : Hp} {s : Shared} {h' : Heap}
end
end L3

set_option Elab.async false
set_option linter.all false
set_option maxRecDepth 100000
set_option maxHeartbeats 1000000
namespace L3
open PySem PySem.Spec L2 PyProof.Rows
/-! ### an exception that leaves a def -/
def Fly (h0 : Heap) (H : Hp) (a : Addr) (cls : Value) (h : Heap) : Prop := ∃ T, Tr3 h a T cls .none ∧ (h0.get? a = none ∧ H a = none) ∧ h0.get? T = none ∧ H T = none
def CXE (P : Program) (w : World) : CXT := fun outer H s E e s' => ∃ a cls H', e = .ref a ∧ (s'.os = s.os ∧ AllBare s'.gens) ∧ L2.Un (frs outer) [] H H' s.heap s'.heap ∧ HOk P w H' s'.heap ∧ Fly s.heap H' a cls s'.heap ∧ E cls none H'
theorem ObjOk.there {P : Program} {w : World} {H : Hp} {h : Heap} {a : Addr} {o : HO} (x : ObjOk P w H h a o) : ∃ ob, h.get? a = some ob := by
  cases o with
  | lst xs => obtain ⟨_, _, _, _, e⟩ := x; exact ⟨_, e⟩
  | tup xs => obtain ⟨_, _, _, ob, e, _⟩ := x; exact ⟨_, e⟩
  | dK kvs => obtain ⟨_, _, _, _, o, _, _, e, _⟩ := x; exact ⟨_, e⟩
  | dT kvs => obtain ⟨_, _, _, _, o, _, _, e, _⟩ := x; exact ⟨_, e⟩
  | set S n => obtain ⟨o, _, _, _, e, _⟩ := x; exact ⟨_, e⟩
  | ins C dx fs => obtain ⟨_, _, _, e, _⟩ := x; exact ⟨_, e⟩
  | own y => obtain ⟨_, e⟩ := x; exact ⟨_, e⟩
  | xd fs => obtain ⟨_, ⟨_, _, _, e, _⟩, _⟩ := x; exact ⟨_, e⟩
  | rng lo hi => obtain ⟨_, _, _, e⟩ := x; exact ⟨_, e⟩
  | frz ob u => obtain ⟨e, _⟩ := x; exact ⟨_, e⟩
  | tbl ps => exact ⟨_, (show h.get? a = some _ from x)⟩
  | met f y => exact ⟨_, (show h.get? a = some _ from x)⟩
  | ext φ => obtain ⟨_, ⟨_, e⟩, _⟩ := x; exact ⟨_, e⟩
theorem untracked {P : Program} {w : World} {H : Hp} {h : Heap} (ok : HOk P w H h) {a : Addr} (e : h.get? a = none) : H a = none := by
  cases q : H a with
  | none => rfl
  | some o => obtain ⟨ob, e'⟩ := ObjOk.there (ok a o q); rw [e] at e'; cases e'
section
variable {X : Cx} {pins : List (Addr × Obj)} {σ : L2.St} {H H1 : Hp} {s s1 : Shared} {h2 : Heap}
/-- behind a call that was left by an exception, its records changed since -/
theorem inv_flown (I : Inv X pins σ H s) (os : s1.os = s.os) (bare : AllBare s1.gens) (un : L2.Un (frs X.stack) [] H H1 s.heap s1.heap) (hok : HOk X.prog X.w H1 s1.heap) {xs : List Addr} (hx : ∀ b ∈ xs, s.heap.get? b = none ∧ H1 b = none) (k : KeptX (frs X.stack) xs s1.heap h2) :
    Inv X pins σ H1 { s1 with heap := h2 } := by
  have J := I.call' (s' := s1) (ch := []) os un hok bare (fun b z => absurd z (by simp))
  have fr : ∀ b ∈ frs X.stack, H1 b = none := fun b hb => J.stkFree b hb
  refine I.call' (s' := { s1 with heap := h2 }) (ch := []) os ⟨fun b o e n hf hc => ?_, fun b o e n hf hc => ?_, un.free, fun b o e hc => ?_, un.tups, un.frzs, un.tbls⟩ (fun b u e => ?_) bare (fun b z => absurd z (by simp))
  · exact (k b o (un.keep b o e n hf hc) fun z => by rw [(hx b z).1] at e; cases e).1 hf
  · obtain ⟨sl, e1⟩ := un.slot b o e n hf hc
    obtain ⟨_, sl2, e2⟩ := k b _ e1 fun z => by rw [(hx b z).1] at e; cases e
    exact ⟨sl2, e2⟩
  · obtain ⟨o', e1⟩ := un.there b o e hc
    obtain ⟨_, sl2, e2⟩ := k b _ e1 fun z => by rw [(hx b z).1] at e; cases e
    exact ⟨_, e2⟩
  · refine (hok b u e).stay (fun c v hc q => ?_) (fun _ q => q) fun _ _ q => q
    have : ∃ u', H1 c = some u' := by
      rcases hc with z | z
      · rw [z]; exact ⟨u, e⟩
      · exact ⟨_, z⟩
    obtain ⟨u', e'⟩ := this
    exact (k c v q fun z => by rw [(hx c z).2] at e'; cases e').1 fun z => by rw [fr c z] at e'; cases e'
end
section
variable {P : Program} {w : World} {K : PySem.W.Frag} {mg : Str → Option Value} {base : Heap} {N : List Str} {qual : Str} {scope : Scope} {f : Addr} {cd : Value} {A : Around} {outer : List Env} {s0 : Shared} {H0 : Hp} {E : XK}
/-- what a def's body needs of its context, so that it may raise and let pass -/
structure Lets (X : Cx) (E : XK) : Prop where
  pass : Passes (CXE X.prog X.w) X E
  made : ∀ (pins : List (Addr × Obj)) (σ : L2.St) (H : Hp) (s : Shared) (h' : Heap) (e : Addr) (cls : Value) (args : List Value), Inv X pins σ H s → Heap.MadeExcOf s.heap h' e cls args → E cls none H → X.xe (.ref e) { s with heap := h' }
theorem lets_of : Lets (cxOf (CXE P w) P w K mg base N qual scope f cd A outer s0 H0 E) E where
  pass := by
    rintro pins σ H s e s1 I ⟨a, cls, H1, rfl, ⟨os, bare⟩, un, hok, ⟨T, t3, ⟨na, Ha⟩, nT, HT⟩, hE⟩
    have J := I.call' (s' := s1) (ch := []) os un hok bare (fun b z => absurd z (by simp))
    show wpAny (model P w) _ (leaving _ (.ref a)) _ _ s1
    unfold leaving
    refine wpAny_bind (note_next (outer := outer) J.ok.frames J.stack rfl t3 fun h1 T1 k1 hT1 t1 => ?_)
    refine flightX (fs := frs (cxOf (CXE P w) P w K mg base N qual scope f cd A outer s0 H0 E).stack) t1 fun h2 k2 t2 => ?_
    have HT1 : H1 T1 = none := J.hok.fresh hT1
    have nT1 : s.heap.get? T1 = none := by
      cases q : s.heap.get? T1 with
      | none => rfl
      | some o => obtain ⟨o', e'⟩ := un.there T1 o q (by simp); exact absurd (Heap.lt_size e') (Nat.not_lt.mpr hT1)
    have J2 := inv_flown I os bare un hok (xs := [T, a] ++ [T1]) (fun b hb => by
      simp only [List.cons_append, List.nil_append, List.mem_cons, List.not_mem_nil, or_false] at hb
      rcases hb with rfl | rfl | rfl
      · exact ⟨nT, HT⟩
      · exact ⟨na, Ha⟩
      · exact ⟨nT1, HT1⟩) (k1.trans k2)
    have n0 : ∀ b, s.heap.get? b = none → s0.heap.get? b = none := fun b hb => by
      cases q : s0.heap.get? b with
      | none => rfl
      | some o => obtain ⟨o', e'⟩ := I.base.there b o q (by intro z; exact absurd (show b ∈ ([] : List Addr) from z) (by simp)); rw [hb] at e'; cases e'
    exact ⟨a, cls, H1, rfl, ⟨J2.os, J2.bare⟩, J2.base, J2.hok, ⟨T1, t2, ⟨n0 a na, Ha⟩, n0 T1 nT1, HT1⟩, hE⟩
  made := by
    intro pins σ H s h' e cls args I hx hE
    have J : Inv (cxOf (CXE P w) P w K mg base N qual scope f cd A outer s0 H0 E) pins σ H { s with heap := h' } := I.kept (t' := s.toks) hx.keeps
    obtain ⟨t, he, _, _⟩ := hx.there
    have Ha : H e = none := untracked I.hok hx.new
    show wpAny (model P w) _ (leaving _ (.ref e)) _ _ _
    unfold leaving
    refine wpAny_bind (note_first (outer := outer) J.ok.frames J.stack rfl he rfl rfl fun h1 T1 k1 hT1 t1 => ?_)
    refine flightX (fs := frs (cxOf (CXE P w) P w K mg base N qual scope f cd A outer s0 H0 E).stack) t1 fun h2 k2 t2 => ?_
    have HT1 : H T1 = none := J.hok.fresh hT1
    have nT1 : s.heap.get? T1 = none := by
      cases q : s.heap.get? T1 with
      | none => rfl
      | some o => exact absurd (Heap.lt_size (hx.keeps _ _ q)) (Nat.not_lt.mpr hT1)
    have J2 := inv_flown I (s1 := { s with heap := h' }) rfl I.bare (L2.Un.kept hx.keeps) J.hok (xs := [e] ++ [T1]) (fun b hb => by
      simp only [List.cons_append, List.nil_append, List.mem_cons, List.not_mem_nil, or_false] at hb
      rcases hb with rfl | rfl
      · exact ⟨hx.new, Ha⟩
      · exact ⟨nT1, HT1⟩) (k1.trans k2)
    have n0 : ∀ b, s.heap.get? b = none → s0.heap.get? b = none := fun b hb => by
      cases q : s0.heap.get? b with
      | none => rfl
      | some o => obtain ⟨o', e'⟩ := I.base.there b o q (by intro z; exact absurd (show b ∈ ([] : List Addr) from z) (by simp)); rw [hb] at e'; cases e'
    exact ⟨e, cls, H, rfl, ⟨J2.os, J2.bare⟩, J2.base, J2.hok, ⟨T1, t2, ⟨n0 e hx.new, Ha⟩, n0 T1 nT1, HT1⟩, hE⟩
end
/-! ### classes of exceptions of the text -/
theorem own_in {K : PySem.W.Frag} {h : Heap} {mg : Str → Option Value} {x : Str} {C : Addr} {bmB : List Value} {newId : String} (X : K.In h) (e : mg x = some (.ref C)) (q : PySem.W.excIn K C bmB newId = true) : OwnCls x C bmB newId mg h := by
  refine ⟨e, ?_⟩
  unfold PySem.W.excIn at q
  split at q
  · rename_i dd cd sl ho
    split at q
    · rename_i C' bm k0 k1 k2 k3 n k5 hm hs
      simp only [Bool.and_eq_true, beq_iff_eq, Bool.not_eq_true'] at q
      obtain ⟨⟨⟨⟨⟨rfl, rfl⟩, hdel⟩, ht⟩, hok⟩, hni⟩ := q
      obtain ⟨nm, bs, mro, ns, qn, hd, sn, sub, ab, col, del⟩ := cd
      dsimp only at hm hdel hok hni
      subst hm hdel
      have hsl : sl = #[k0, k1, k2, k3, some (.builtin n), k5] := by
        obtain ⟨l⟩ := sl
        simp only at hs
        rw [hs]
      subst hsl
      exact ⟨bm, ns, nm, qn, bs, hd, sn, sub, ab, col, dd, k0, k1, k2, k3, k5, _, X _ _ ho, .of_isNs (PySem.W.isNs_of_in X hok), PySem.W.nsMap_none_of_in X hok hni, PySem.W.tail_of_in X ht⟩
    · cases q
  · cases q
abbrev bmV : List Value := [.type "ValueError", .type "Exception", .type "BaseException", .type "object"]
/-- a class below ValueError -/
structure ExV (K : PySem.W.Frag) (mg : Str → Option Value) (x : Str) (C : Addr) : Prop where
  at' : mg x = some (.ref C)
  ok : PySem.W.excIn K C bmV "ValueError.__new__" = true
section
variable {X : Cx} {x : Str} {C : Addr} {e0 : Expr} {rest : List Expr} {t : TA} {np cpos pos : Pos} {E : XK}
theorem ps_raise (V : ExV X.K X.mg x C) (hc : X.calm = true) (hg : Gl X x) (L : Lets X E) (ha : PA X (e0 :: rest) t) (he : starEach (e0 :: rest) X.env = (false, eval e0 X.env) :: starEach rest X.env := by rfl)
    (hplain : (backTo cpos (starEach rest X.env)).any (·.1) = false := by rfl) (hdb : (x == ("__debug__" : Str)) = false := by decide) :
    PS X (.Raise (some (.Call (.Name x np) (e0 :: rest) [] cpos)) none pos) (fun _ σ H => t σ H fun vs H1 => vs.length ≤ sizeLine ∧ E (.ref C) none H1) := by
  intro pins s σ H D I h
  obtain ⟨tl, N, nm, q, bs, hdct, sn, sub, ab, col, dd, k0, k1, k2, k3, k5, mN, hC, hN, hni, T⟩ := (own_in I.ok.mod.kin V.at' V.ok).obj
  have B := PySem.F.excBase_ValueError
  refine wpAny_Raise_call_subU (C := C) (nm := nm) (q := q) (N := N) (bs := bs) (bm := tl) (hdct := hdct) (sn := sn) (sub := sub) (ab := ab) (col := col) (dd := dd) (k0 := k0) (k1 := k1) (k2 := k2) (k3 := k3) (k5 := k5)
    B (by decide +kernel) B (mN := mN) (T.hasType B.hasBase) (I.ok.hd hc) (by rw [he]; show (false || (backTo cpos (starEach rest X.env)).any (·.1)) = false; rw [hplain]; rfl) hni (ld_glob I hg V.at' ⟨rfl, ?_⟩ hdb)
  have ha' := ha cpos pins s σ H _ I h
  rw [he] at ha' ⊢
  refine Calls.evalArgs_plain (wpAny_mono ha' (fun us s1 ⟨vs, H1, I1, r, hz, hE⟩ => ?_) fun _ _ y => y)
  exact ⟨rfl, by rw [← r.length]; exact hz, I1.bk _ _ hC, hN.keeps I1.bk, T.keeps I1.bk, fun h' e hm => L.made pins σ H1 s1 h' e _ _ I1 hm hE⟩
end
end L3

set_option Elab.async false
set_option linter.all false
set_option maxRecDepth 100000
set_option maxHeartbeats 1000000
namespace L3
open PySem PySem.Spec L2 PyProof.Rows
variable [L2.TabP]
/-! ### defs that may raise: what they tell, or that they raise (an exception of the class at C) -/
inductive Rx where
  | ret (d : D) | exc
abbrev MFX := List D → M Rx
inductive Fx where
  | nx (σ : En) | rt (d : D) | ex
abbrev MSx := En → M Fx
def PoX (K : PySem.W.Frag) (mg : Str → Option Value) (C : Addr) (E : XK) (O : Ow) (σ : En) (S' : Store) (σV : L2.St) (H : Hp) (f : Fx) (Dn : Ends) : Prop := match f with
  | .nx σ' => PoN K mg O σ S' σV H σ' Dn.nx
  | .rt d => ∀ O' v H', Gs O O' H H' → Dom O' H' → S' = [] → Rep K mg O' H' d v → Dn.rt v H'
  | .ex => ∀ O' H', Gs O O' H H' → Dom O' H' → S' = [] → E (.ref C) none H'
theorem PoX.gs {K : PySem.W.Frag} {mg : Str → Option Value} {C : Addr} {E : XK} {O O1 : Ow} {σ σ1 : En} {S' : Store} {σV σV1 : L2.St} {H H1 : Hp} {f : Fx} {Dn : Ends} (h : PoX K mg C E O σ S' σV H f Dn) (g : Gs O O1 H H1) (k : Kp σ σ1 σV σV1) : PoX K mg C E O1 σ1 S' σV1 H1 f Dn := by
  cases f with
  | nx σ' => exact PoN.gs h g k
  | rt d => exact fun O' v H' g' dm e r => h O' v H' (g.trans g') dm e r
  | ex => exact fun O' H' g' dm e => h O' H' (g.trans g') dm e
def txOf (K : PySem.W.Frag) (mg : Str → Option Value) (C : Addr) (E : XK) (m : MSx) : TS := fun Dn σV H => ∃ O σ S f S', S3 K mg O σ S σV H ∧ (m σ).run S = .ok f S' ∧ PoX K mg C E O σ S' σV H f Dn
abbrev CXs (X : Cx) (C : Addr) (E : XK) (st : Stmt) (m : MSx) : Prop := PS X st (txOf X.K X.mg C E m)
abbrev CXss (X : Cx) (C : Addr) (E : XK) (sts : List Stmt) (m : MSx) : Prop := PSs X sts (txOf X.K X.mg C E m)
def xOf (a : MS) : MSx := fun σ => do
  let fl ← a σ
  match fl with
  | .nx σ' => pure (.nx σ')
  | .rt (.v d) => pure (.rt d)
  | _ => bad
def xIf (t : En → M Bool) (a b : MSx) : MSx := fun σ => do
  let t ← t σ
  if t = true then a σ else b σ
def xPass : MSx := fun σ => pure (.nx σ)
def xSeq (a b : MSx) : MSx := fun σ => do
  let f ← a σ
  match f with
  | .nx σ' => b σ'
  | f => pure f
def xRaise (ms : MA) : MSx := fun σ => do
  let rs ← ms σ
  chk (rs.length ≤ 1000)
  pure .ex
def exF : Rx → Fx
  | .ret d => .rt d
  | .exc => .ex
def exN : Rx → M Fx
  | .ret (.int i) => pure (.rt (.int (-i)))
  | .ret _ => bad
  | .exc => pure .ex
def xRetC (mf : MFX) (ms : MA) : MSx := fun σ => do
  let rs ← ms σ
  let r ← mf (rs.map R.arg)
  pure (exF r)
def xRetN (mf : MFX) (ms : MA) : MSx := fun σ => do
  let rs ← ms σ
  let r ← mf (rs.map R.arg)
  exN r
def spX (K : PySem.W.Frag) (mg : Str → Option Value) (C : Addr) (mf : MFX) : Sp := fun vs H Q E => ∃ O ds r S', Dom O H ∧ ArgAll K mg O H ds vs ∧ (mf ds).run [] = .ok r S' ∧ match r with
  | .ret d => ∀ O' v H', Go O O' H H' → Dom O' H' → S' = [] → Rep K mg O' H' d v → Q v H'
  | .exc => ∀ O' H', Go O O' H H' → Dom O' H' → S' = [] → E (.ref C) none H'
structure HasX (P : Program) (w : World) (K : PySem.W.Frag) (mg : Str → Option Value) (base : Heap) (x : Str) (ps : List Str) (k : Nat) (sp : Sp) : Prop where
  ex : ∃ f fd, FnOk P w K mg base (CXE P w) k f fd ps sp ∧ Binds K fd ps [] ∧ PySem.W.keepIn K (.ref f) = true ∧ mg x = some (.ref f)
def fnX (n N : Nat) (b : MSx) : MFX := fun ds => if ds.length = n then do
    let fl ← b (ds.map slotOf ++ List.replicate (N - n) .emp)
    match fl with
    | .nx _ => pure (.ret .non)
    | .rt d => pure (.ret d)
    | .ex => pure .exc
  else bad
theorem fnX_len {n N : Nat} {b : MSx} {ds : List D} {r : Rx} {S S' : Store} (h : (fnX n N b ds).run S = .ok r S') : ds.length = n := by
  unfold fnX at h
  by_cases c : ds.length = n
  · exact c
  · rw [if_neg c] at h; cases h
theorem body_readX {K : PySem.W.Frag} {mg : Str → Option Value} {ps N : List Str} {mb : MSx} {vs : List V} {H : Hp} {Q : VK} {E : XK} {C : Addr} (hsp : spX K mg C (fnX ps.length N.length mb) vs H Q E) : txOf K mg C E mb { nx := fun _ H' => Q .non H', rt := Q } (L2.start N vs) H := by
  obtain ⟨O, ds, r, S', dm, ar, h, q⟩ := hsp
  have hl := fnX_len h
  have hlv := ar.len
  unfold fnX at h
  rw [if_pos hl] at h
  obtain ⟨fl, S1, h1, h⟩ := M.inv h
  have st0 : S3 K mg (blk O) (ds.map slotOf ++ List.replicate (N.length - ps.length) .emp) [] (L2.start N vs) H := by
    refine ⟨⟨fun a ha => dm.has a fun z => ha (blk_free.mpr z), dm.tabs⟩, ?_, fun i s e => ?_, rfl⟩
    · unfold L2.start
      rw [List.length_append, List.length_append, List.length_map, List.length_map, List.length_replicate, List.length_replicate, hlv, hl]
    · by_cases hi : i < ds.length
      · rw [List.getElem?_append_left (by rw [List.length_map]; exact hi), List.getElem?_map] at e
        cases ed : ds[i]? with
        | none => rw [ed] at e; cases e
        | some d =>
          rw [ed] at e
          cases e
          obtain ⟨v, ev, rv⟩ := ar.get ed
          unfold L2.start
          rw [List.getElem?_append_left (by rw [List.length_map, hlv]; exact hi), List.getElem?_map, ev]
          exact slot_arg rv
      · rw [List.getElem?_append_right (by rw [List.length_map]; omega), List.getElem?_replicate] at e
        split at e
        · cases e; exact trivial
        · cases e
  have old : ∀ b, H b ≠ none → blk O b = .free ∨ blk O b = .out := fun b _ => blk_cases O b
  -- the caller's owners behind the call
  have back : ∀ {O' : Ow} {H' : Hp}, Gs (blk O) O' H H' → Dom O' H' → ∃ O2 : Ow, Go O O2 H H' ∧ Dom O2 H' ∧ Fre O' O2 ∧ ∀ b, (O' b = .tmp ∨ ∃ i, O' b = .loc i) → H b = none ∧ O2 b = .tmp := fun {O' H'} g d => by
    refine ⟨fun b => match H b with | some _ => O b | none => (match O' b with | .loc _ => .tmp | o => o), ⟨⟨fun b o e n => g.cells b o e ((old b (by rw [e]; intro z; cases z)).elim .inl fun z => .inr (.inl z)) n, g.tb, g.gd⟩, fun b hb => ?_⟩, ⟨fun b hb => ?_, d.tabs⟩, ⟨fun b hb => ?_⟩, fun b hb => ?_⟩
    · cases e : H b with
      | none => exact absurd e hb
      | some o => rfl
    · cases e : H b with
      | some o => exact g.has b (by rw [e]; intro z; cases z)
      | none =>
        rw [e] at hb
        refine d.has b fun z => hb ?_
        dsimp only
        rw [z]
    · cases e : H b with
      | some o =>
        dsimp only
        have := (g.own b (by rw [e]; intro z; cases z) (blk_cases O b)).symm.trans hb
        exact blk_free.mp this
      | none =>
        dsimp only
        rw [hb]
    · have hn : H b = none := by
        cases e : H b with
        | none => rfl
        | some o =>
          exfalso
          have q1 := g.own b (by rw [e]; intro z; cases z) (blk_cases O b)
          rcases blk_cases O b with z | z <;> rw [z] at q1 <;> rcases hb with w | ⟨i, w⟩ <;> rw [q1] at w <;> cases w
      refine ⟨hn, ?_⟩
      dsimp only
      rw [hn]
      rcases hb with w | ⟨i, w⟩ <;> rw [w]
  refine ⟨blk O, _, [], fl, S1, st0, h1, ?_⟩
  cases fl with
  | nx σ' =>
    cases h
    intro O' σV' H' g st' _
    obtain ⟨O2, g2, d2, f2, _⟩ := back g st'.dom
    exact q O2 .non H' g2 d2 st'.emp rfl
  | rt d =>
    cases h
    intro O' v H' g dm eS rr
    obtain ⟨O2, g2, d2, f2, t2⟩ := back g dm
    exact q O2 v H' g2 d2 eS (Rep.fre f2 rr)
  | ex =>
    cases h
    intro O' H' g dm eS
    obtain ⟨O2, g2, d2, f2, t2⟩ := back g dm
    exact q O2 H' g2 d2 eS
theorem has_x {P : Program} {w : World} {K : PySem.W.Frag} {mg : Str → Option Value} {base : Heap} {x : Str} {st : Stmt} {ps N : List Str} {k : Nat} {mb : MSx} {n nl : Nat} {C : Addr} (Df : Df K mg x st ps) (Sc : FnScope N ps (defScope st)) (hn : ps.length = n) (hl : N.length = nl)
    (hb : ∀ (f : Addr) (cdv : Value) (A : Around) (outer : List Env) (s : Shared) (H : Hp) (E : XK), Room k (A.deeper (PyProof.Rows.envOfC x (defScope st) s.heap.objs.size f cdv)) → Lets (cxOf (CXE P w) P w K mg base N x (defScope st) f cdv A outer s H E) E →
      CXss (cxOf (CXE P w) P w K mg base N x (defScope st) f cdv A outer s H E) C E (defBody st) mb) : HasX P w K mg base x ps (k + 1) (spX K mg C (fnX n nl mb)) := by
  subst hn hl
  obtain ⟨f, fd, F, b, m⟩ := Df.ex
  refine ⟨f, fd, ?_, b, F.kp, m⟩
  obtain ⟨oc, od, kV, doc, pm, an, cdv, ct, osl, rfl, lk, hcd⟩ := F.ex
  exact fn_of lk hcd Sc (fun vs H Q E ⟨O, ds, r, S', dm, ar, h, q⟩ => ar.len.trans (fnX_len h)) fun A outer s H vs Q E hr hsp => ⟨_, hb f cdv A outer s H E hr lets_of, body_readX hsp⟩
section
variable {X : Cx} {C : Addr} {E : XK} {st : Stmt} {rest : List Stmt} {pos p p2 np cpos : Pos} {a b : MSx} {x : Str} {ps : List Str} {k : Nat} {mf : MFX} {e0 e : Expr} {es : List Expr} {ms : MA}
theorem cx_of {m : MS} (h : CS X st m) : CXs X C E st (xOf m) := ps_imp h fun D σV H ⟨O, σ, S, fl, S', s3, h, q⟩ => by
  obtain ⟨f, S1, h1, h⟩ := M.inv h
  refine ⟨O, σ, S, f, S1, s3, h1, ?_⟩
  cases f with
  | nx σ' => cases h; exact q
  | bk _ => cases h
  | ct σ' => cases h
  | rt r =>
    cases r with
    | v d => cases h; exact q
    | _ => cases h
theorem cx_if {c : Expr} {A B : List Stmt} {t : En → M Bool} (hc : CT X c t) (ha : CXss X C E A a) (hb : CXss X C E B b) : CXs X C E (.If c A B pos) (xIf t a b) := ps_imp (ps_if hc ha hb) fun D σV H ⟨O, σ, S, fl, S', st, h, q⟩ => by
  obtain ⟨t, S1, h1, h⟩ := M.inv h
  refine ⟨O, σ, S, t, S1, st, h1, fun O1 H1 g1 st1 => ?_⟩
  cases t with
  | false =>
    rw [if_neg Bool.false_ne_true] at h
    exact iteF ⟨O1, σ, S1, fl, S', st1, h, q.gs g1.gs (Kp.refl _ _)⟩
  | true =>
    rw [if_pos rfl] at h
    exact iteT ⟨O1, σ, S1, fl, S', st1, h, q.gs g1.gs (Kp.refl _ _)⟩
theorem cxs_nil : CXss X C E [] xPass := pss_imp pss_nil fun D σV H ⟨O, σ, S, fl, S', st, h, q⟩ => by cases h; exact q O σV H (Gs.refl _ _) st (Kp.refl _ _)
theorem cxs_one (h : CXs X C E st a) : CXss X C E [st] a := pss_one h
theorem cxs_cons (h1 : CXs X C E st a) (h2 : CXss X C E rest b) : CXss X C E (st :: rest) (xSeq a b) := pss_imp (pss_cons h1 h2) fun D σV H ⟨O, σ, S, fl, S', st, h, q⟩ => by
  obtain ⟨f1, S1, h1, h⟩ := M.inv h
  refine ⟨O, σ, S, f1, S1, st, h1, ?_⟩
  cases f1 with
  | nx σ1 => exact fun O1 σV1 H1 g1 st1 k1 => ⟨O1, σ1, S1, fl, S', st1, h, q.gs g1 k1⟩
  | rt d => cases h; exact q
  | ex => cases h; exact q
theorem cx_raise (V : ExV X.K X.mg x C) (hc : X.calm = true) (hg : Gl X x) (L : Lets X E) (ha : CA X (e0 :: es) ms) (he : starEach (e0 :: es) X.env = (false, eval e0 X.env) :: starEach es X.env := by rfl)
    (hplain : (backTo cpos (starEach es X.env)).any (·.1) = false := by rfl) (hdb : (x == ("__debug__" : Str)) = false := by decide) :
    CXs X C E (.Raise (some (.Call (.Name x np) (e0 :: es) [] cpos)) none pos) (xRaise ms) := ps_imp (ps_raise V hc hg L ha he hplain hdb) fun D σV H ⟨O, σ, S, f, S', st, h, q⟩ => by
  obtain ⟨rs, S1, h1, h⟩ := M.inv h
  obtain ⟨_, S2, h2, h⟩ := M.inv h
  obtain ⟨hl, rfl⟩ := chk_inv h2
  cases h
  exact ⟨O, σ, S, rs, _, st, h1, fun O1 vs H1 g1 st1 rr nn => ⟨Nat.le_of_lt (small1000 (by rw [rr.len]; exact hl)), q O1 H1 g1.gs st1.dom st1.emp⟩⟩
theorem pe_fnX {sp : Sp} {t : TA} (h : HasX X.prog X.w X.K X.mg X.base x ps k sp) (hr : Room k X.A) (hg : Gl X x) (L : Passes (CXE X.prog X.w) X E) (ha : PA X (e :: es) t) (hdb : (x == ("__debug__" : Str)) = false := by decide)
    (he : starEach (e :: es) X.env = (false, eval e X.env) :: starEach es X.env := by rfl) (hpl : (backTo pos (starEach es X.env)).any (·.1) = false := by rfl) : PE X (.Call (.Name x p) (e :: es) [] pos) (fun σ H Q => t σ H fun vs H1 => sp vs H1 Q E) := by
  obtain ⟨f, fd, F, b, kp, m⟩ := h.ex
  intro pins s σ H Q I hq
  refine pe_call (dvs := []) (ds := []) F hr hg m kp b .nil L ha hdb he hpl pins s σ H Q I ?_
  have hq' : t σ H fun vs H1 => sp vs H1 Q E := hq
  show t σ H fun vs H1 => sp (vs ++ []) H1 Q E
  simpa only [List.append_nil] using hq'
theorem cx_retC (h : HasX X.prog X.w X.K X.mg X.base x ps k (spX X.K X.mg C mf)) (hr : Room k X.A) (hg : Gl X x) (L : Lets X E) (ha : CA X (e :: es) ms) (hdb : (x == ("__debug__" : Str)) = false := by decide)
    (he : starEach (e :: es) X.env = (false, eval e X.env) :: starEach es X.env := by rfl) (hpl : (backTo pos (starEach es X.env)).any (·.1) = false := by rfl) : CXs X C E (.Return (some (.Call (.Name x p) (e :: es) [] pos)) p2) (xRetC mf ms) :=
  ps_imp (ps_ret (pe_fnX h hr hg L.pass ha hdb he hpl)) fun D σV H ⟨O, σ, S, f, S', st, h, q⟩ => by
    obtain ⟨rs, S1, h1, h⟩ := M.inv h
    obtain ⟨r, S2, h2, h⟩ := M.inv h
    cases h
    refine ⟨O, σ, S, rs, S1, st, h1, fun O1 vs H1 g1 st1 rr nn => ?_⟩
    have eS := st1.emp
    subst eS
    refine ⟨O1, _, r, _, st1.dom, args_of rr, h2, ?_⟩
    cases r with
    | ret d => exact fun O' v H' g' d' eS rv => q O' v H' (g1.trans g').gs d' eS rv
    | exc => exact fun O' H' g' d' eS => q O' H' (g1.trans g').gs d' eS
theorem cx_retN (h : HasX X.prog X.w X.K X.mg X.base x ps k (spX X.K X.mg C mf)) (hr : Room k X.A) (hg : Gl X x) (L : Lets X E) (ha : CA X (e :: es) ms) {p3 : Pos} (hdb : (x == ("__debug__" : Str)) = false := by decide)
    (he : starEach (e :: es) X.env = (false, eval e X.env) :: starEach es X.env := by rfl) (hpl : (backTo pos (starEach es X.env)).any (·.1) = false := by rfl) : CXs X C E (.Return (some (.UnaryOp .USub (.Call (.Name x p) (e :: es) [] pos) p3)) p2) (xRetN mf ms) :=
  ps_imp (ps_ret (pe_un un_neg (pe_fnX h hr hg L.pass ha hdb he hpl))) fun D σV H ⟨O, σ, S, f, S', st, h, q⟩ => by
    obtain ⟨rs, S1, h1, h⟩ := M.inv h
    obtain ⟨r, S2, h2, h⟩ := M.inv h
    refine ⟨O, σ, S, rs, S1, st, h1, fun O1 vs H1 g1 st1 rr nn => ?_⟩
    have eS := st1.emp
    subst eS
    refine ⟨O1, _, r, _, st1.dom, args_of rr, h2, ?_⟩
    cases r with
    | ret d =>
      unfold exN at h
      split at h
      · rename_i i e1
        cases e1
        cases h
        exact fun O' v H' g' d' eS rv => ⟨i, rv, q O' _ H' (g1.trans g').gs d' eS rfl⟩
      · cases h
      · rename_i e1; cases e1
    | exc => cases h; exact fun O' H' g' d' eS => q O' H' (g1.trans g').gs d' eS
end
end L3

set_option Elab.async false
set_option linter.all false
set_option maxRecDepth 100000
set_option maxHeartbeats 1000000
namespace L3
open PySem PySem.Spec L2 PyProof.Rows
variable [L2.TabP]
/-! ### try: x = ('..', f(..)) except C: .. -/
abbrev Cx.held (X : Cx) (a : Addr) (xe : Value → Shared → Prop) : Cx := { X with A := X.A.mark (some (.ref a)), calm := false, xe := xe }
section
variable {X : Cx} {pins : List (Addr × Obj)} {σ : L2.St} {H : Hp} {s : Shared} {a : Addr} {xe : Value → Shared → Prop}
theorem inv_held (I : L2.Inv X pins σ H s) : L2.Inv (Cx.held X a xe) pins σ H s :=
  ⟨⟨I.ok.mod, I.ok.kind, I.ok.glob, I.ok.blt, I.ok.above, I.ok.inj, I.ok.has, I.ok.cab, fun z => Bool.noConfusion (show false = true from z), I.ok.frames, I.ok.stk, I.ok.exf, I.ok.bs, I.ok.bsz, I.ok.noex, I.ok.exfs, I.ok.funs, I.ok.frf⟩, I.os, I.bare, I.base, I.loc, I.cell, I.free, I.freeC, I.pin, I.hok, I.len⟩
theorem inv_unheld (ok : X.Ok) (I : L2.Inv (Cx.held X a xe) pins σ H s) : L2.Inv X pins σ H s := ⟨ok, I.os, I.bare, I.base, I.loc, I.cell, I.free, I.freeC, I.pin, I.hok, I.len⟩
theorem sp_unheld {D : Ends} {f : Flow} {s' : Shared} (ok : X.Ok) (h : SP (Cx.held X a xe) pins D f s') : SP X pins D f s' := by
  cases f with
  | next => obtain ⟨σ', H', I, q⟩ := h; exact ⟨σ', H', inv_unheld ok I, q⟩
  | brk => obtain ⟨σ', H', I, q⟩ := h; exact ⟨σ', H', inv_unheld ok I, q⟩
  | cont => obtain ⟨σ', H', I, q⟩ := h; exact ⟨σ', H', inv_unheld ok I, q⟩
  | ret u => obtain ⟨v, σ', H', I, r, q⟩ := h; exact ⟨v, σ', H', inv_unheld ok I, r, q⟩
end
section
variable {X : Cx} {C : Addr} {nt : Str} {hst : Stmt} {np hp : Pos} {tm : TS}
/-- an exception of the class arrives: the handler's suite -/
theorem caught {pins : List (Addr × Obj)} {σ : L2.St} {H1 : Hp} {s1 s2 : Shared} {D : Ends} {E : XK} {e : Value} {XE : Value → Shared → Prop} (V : ExV X.K X.mg nt C) (hk : X.stack = X.env :: X.outer ∧ X.env.frame = some X.env.locals) (hg : Gl X nt) (hdb : (nt == ("__debug__" : Str)) = false)
    (hs : ∀ a xe, PSs (Cx.held X a xe) [hst] tm) (I : L2.Inv X pins σ H1 s1) (c : CXE X.prog X.w X.stack H1 s1 E e s2) (hE : ∀ cls H', E cls none H' → cls = .ref C ∧ tm D σ H') :
    wpAny (model X.prog X.w) X.A (noteFrame e X.env) (fun _ s3 => wpAny (model X.prog X.w) X.A (setFlight e none) (fun _ s4 => wpAny (model X.prog X.w) X.A (handleBy e X.env [.ExceptHandler (some (.Name nt np)) none [hst] hp]) (SP X pins D) XE s4) XE s3) XE s2 := by
  obtain ⟨a, cls, H', rfl, ⟨os, bare⟩, un, hok, ⟨T, t3, ⟨na, Ha⟩, nT, HT⟩, hEE⟩ := c
  obtain ⟨rfl, htm⟩ := hE cls H' hEE
  have J := I.call' (s' := s2) (ch := []) os un hok bare (fun b z => absurd z (by simp))
  have hfr : X.A.frames = some (X.env :: X.outer) := by rw [← hk.1]; exact J.ok.frames
  have hff : s2.heap.FunFrames X.base (X.env :: X.outer) := by rw [← hk.1]; exact J.stack
  refine note_next (outer := X.outer) hfr hff hk.2 t3 fun h3 T1 k1 hT1 t1 => ?_
  refine flightX (fs := frs (X.env :: X.outer)) t1 fun h4 k2 t2 => ?_
  have HT1 : H' T1 = none := J.hok.fresh hT1
  have nT1 : s1.heap.get? T1 = none := by
    cases q : s1.heap.get? T1 with
    | none => rfl
    | some o => obtain ⟨o', e'⟩ := un.there T1 o q (by simp); exact absurd (Heap.lt_size e') (Nat.not_lt.mpr hT1)
  have hxs : ∀ b ∈ ([T, a] ++ [T1]) ++ [T1], s1.heap.get? b = none ∧ H' b = none := fun b hb => by
    simp only [List.cons_append, List.nil_append, List.mem_cons, List.not_mem_nil, or_false] at hb
    rcases hb with rfl | rfl | rfl | rfl
    · exact ⟨nT, HT⟩
    · exact ⟨na, Ha⟩
    · exact ⟨nT1, HT1⟩
    · exact ⟨nT1, HT1⟩
  have k12 := k1.trans k2
  have J4 : L2.Inv X pins σ H' { s2 with heap := h4 } := inv_flown I os bare un hok (xs := [T, a] ++ [T1]) (fun b hb => hxs b (List.mem_append_left _ hb)) (by rw [hk.1]; exact k12)
  obtain ⟨tl, N, nm, q, bs, hdct, sn, sub, ab, col, dd, k0, kk1, kk2, kk3, kk5, mN, hC, hN, hni, TL⟩ := (own_in J4.ok.mod.kin V.at' V.ok).obj
  obtain ⟨ob, hob, hobc⟩ := t2.there
  refine wpAny_handleBy_cons (codeAny_handlers_test (ld_glob (X := Cx.held X a XE) (inv_held J4) hg V.at' ?_ hdb)) (by intro q; cases q)
  refine wpAny_excMatches_sub_self (J4.bk _ _ hC) hob hobc (TL.hasType PySem.F.excBase_ValueError.hasBase) ?_
  refine codeAny_handlers_suite ?_
  refine flightX (fs := frs (X.env :: X.outer)) t2 fun h5 k5 t5 => ?_
  have J5 : L2.Inv X pins σ H' { s2 with heap := h5 } := inv_flown I os bare un hok (xs := ([T, a] ++ [T1]) ++ [T1]) hxs (by rw [hk.1]; exact k12.trans k5)
  exact wpAny_mono (hs a _ pins _ σ H' D (inv_held J5) htm) (fun f s' q => sp_unheld J5.ok q) fun _ _ z => z
end
def cTry (i : Nat) (w : Str) (mf : MFX) (ms : MA) (mh : MS) : MS := fun σ => do
  let rs ← ms σ
  let r ← mf (rs.map R.arg)
  match r with
  | .ret d => pure (.nx (σ.set i (.val (.tup [.str w, d]))))
  | .exc => mh σ
section
variable {X : Cx} {C : Addr} {x nt f : Str} {w : Str} {i k : Nat} {ps : List Str} {mf : MFX} {ms : MA} {mh : MS} {e : Expr} {es : List Expr} {hst : Stmt} {p p1 p2 p3 p4 pos np hp tp : Pos} {j kk : Nat}
theorem cs_try (V : ExV X.K X.mg nt C) (h : HasX X.prog X.w X.K X.mg X.base f ps k (spX X.K X.mg C mf)) (hr : Room k X.A) (hgf : Gl X f) (hgn : Gl X nt) (hxe : X.xe = fun _ _ => False) (hk : X.stack = X.env :: X.outer ∧ X.env.frame = some X.env.locals)
    (hN : X.N.Nodup) (hi : X.N[i]? = some x) (hx : Loc X.env.scope x) (ha : CA X (e :: es) ms) (hs : ∀ a xe, CSs (Cx.held X a xe) [hst] mh)
    (hdf : (f == ("__debug__" : Str)) = false := by decide) (hdn : (nt == ("__debug__" : Str)) = false := by decide)
    (he : starEach (e :: es) X.env = (false, eval e X.env) :: starEach es X.env := by rfl) (hpl : (backTo pos (starEach es X.env)).any (·.1) = false := by rfl)
    (h1 : starEach [.Constant (.str w) j p1, .Call (.Name f p) (e :: es) [] pos] X.env = (false, eval (.Constant (.str w) j p1) X.env) :: starEach [.Call (.Name f p) (e :: es) [] pos] X.env := by rfl)
    (h2 : starEach [.Call (.Name f p) (e :: es) [] pos] X.env = (false, eval (.Call (.Name f p) (e :: es) [] pos) X.env) :: starEach [] X.env := by rfl)
    (hsw : swapsWith (.Tuple [.Constant (.str w) j p1, .Call (.Name f p) (e :: es) [] pos] kk p2) (some (.Name x p3)) p4.line X.env = pure false := by rfl)
    (hf : X.fn x = true ∨ X.env.scope.names.lookup x = some .local := by first | exact .inl rfl | exact .inr rfl | assumption) :
    CS X (.Try [.Assign [.Name x p3] (.Tuple [.Constant (.str w) j p1, .Call (.Name f p) (e :: es) [] pos] kk p2) p4] [.ExceptHandler (some (.Name nt np)) none [hst] hp] [] [] tp) (cTry i w mf ms mh) := by
  intro pins s σV H Dn I ⟨O, σ, S, fl, S', st, hrun, q⟩
  obtain ⟨rs, S1, r1, hrun⟩ := M.inv hrun
  obtain ⟨r, S2, r2, hrun⟩ := M.inv hrun
  obtain ⟨g, fd, F, b, kp, m⟩ := h.ex
  refine wpAny_Try_except ?_
  refine wpAny_execs_cons (wpAny_Assign_Name ?_ hsw)
  refine wpAny_Tuple_spliced ?_
  rw [h1]
  show wpAny _ _ (spliced ((false, eval (.Constant (.str w) j p1) X.env) :: backTo p2 (starEach [.Call (.Name f p) (e :: es) [] pos] X.env))) _ _ s
  refine Calls.spliced_cons (wpAny_Constant_str ?_)
  rw [h2]
  show wpAny _ _ (spliced ((false, eval (.Call (.Name f p) (e :: es) [] pos) X.env) :: backTo p2 (starEach [] X.env))) _ _ _
  refine Calls.spliced_cons ?_
  have I0 := I.tok (s.toks + 1)
  refine wpAny_Call_Name_kw (ld_glob I0 hgf m ?_ hdf)
  refine PySem.W.callWith_K (h₀ := X.base) I.ok.mod.kin kp (wpAny_mono (ha pos pins _ σV H (fun vs H1 => ∃ O1, Go O O1 H H1 ∧ S3 X.K X.mg O1 σ S1 σV H1 ∧ RepRs X.K X.mg O1 H1 rs vs) I0 ⟨O, σ, S, rs, S1, st, r1, fun O1 vs H1 g1 st1 rr nn => ⟨O1, g1, st1, rr⟩⟩) (fun us s1 ⟨vs, H1, I1, rv, O1, g1, st1, rr⟩ => ⟨I1.kIn, ?_⟩) (fun _ _ z => by rw [hxe] at z; exact z.elim)) he hpl
  have eS := st1.emp
  subst eS
  have hsp : spX X.K X.mg C mf vs H1 (fun v H' => ∃ d, (r = .ret d ∧ S2 = []) ∧ ∃ O', Go O1 O' H1 H' ∧ Dom O' H' ∧ Rep X.K X.mg O' H' d v) (fun cls _ H' => cls = .ref C ∧ (r = .exc ∧ S2 = []) ∧ ∃ O', Go O1 O' H1 H' ∧ Dom O' H') := by
    refine ⟨O1, _, r, S2, st1.dom, args_of rr, r2, ?_⟩
    cases r with
    | ret d => exact fun O' v H' g' d' eS rv => ⟨d, ⟨rfl, eS⟩, O', g', d', rv⟩
    | exc => exact fun O' H' g' d' eS => ⟨rfl, ⟨rfl, eS⟩, O', g', d'⟩
  have hl : us.length = ps.length := by rw [← rv.length]; exact F.len _ _ _ _ hsp
  have hb : BindsTo s1 fd ⟨us, []⟩ (ps.zip us) := by
    have := b s1 us I1.kIn (by rw [List.append_nil]; exact hl)
    rwa [List.append_nil] at this
  refine wpAny_call (codeAny_mono (F.run X.A X.stack s1 H1 ⟨us, []⟩ us vs _ _ hr I1.env0 hb rv hsp) fun res s' hq => ?_)
  cases res with
  | error ev =>
    have hq' : CXE X.prog X.w X.stack H1 s1 (fun cls _ H' => cls = .ref C ∧ (r = .exc ∧ S2 = []) ∧ ∃ O', Go O1 O' H1 H' ∧ Dom O' H') ev s' := hq
    refine caught (tm := tsOf X.K X.mg mh) V hk hgn hdn (fun a xe => hs a xe) I1 hq' fun cls H' hc => ?_
    obtain ⟨rfl, ⟨rfl, rfl⟩, O', g', d'⟩ := hc
    exact ⟨rfl, O', σ, [], fl, S', st1.go g' d', hrun, q.gs (g1.gs.trans g'.gs) (Kp.refl _ _)⟩
  | ok fw =>
    cases fw with
    | next => exact False.elim hq
    | brk => exact False.elim hq
    | cont => exact False.elim hq
    | ret u =>
      obtain ⟨v, H', I2, rvu, d, ⟨rfl, rfl⟩, O', g', d', rd⟩ := I1.after hq
      cases hrun
      refine Calls.spliced_nil ?_
      have hT : H' s'.heap.objs.size = none := I2.hok.fresh (Nat.le_refl _)
      have I3 : L2.Inv X pins σV (upd H' s'.heap.objs.size (.tup [.str w, v])) { s' with heap := s'.heap.push { cls := .type "tuple", data := .seq (List.toArray [Value.str w s.toks, u]) } } :=
        I2.laid (t' := s'.toks) (fun b u e => Heap.get?_push_of_some _ e) (Nat.le_refl _) ⟨by show 2 ≤ sizeLine; rw [sizeLine_eq]; omega, [Value.str w s.toks, u], .cons ⟨_, rfl⟩ (.cons rvu .nil), ⟨_, Heap.get?_push_size _ rfl, rfl, _, rfl⟩⟩
      refine ⟨by show 2 ≤ sizeLine; rw [sizeLine_eq]; omega, ?_⟩
      refine store_ok (v := .ref s'.heap.objs.size) I3 hN hi hx rfl (fun s4 I4 => ?_) hf
      refine wpAny_execs_nil (wpAny_execs_nil ⟨_, _, I4, ?_⟩)
      have st2 := ((st1.go g' d').new0 (u := .tup [.str w, v]) hT)
      refine q O' _ _ ((g1.trans g').gs.trans (Go.new0 hT).gs) (st2.val (i := i) (d := .tup [.str w, d]) ⟨s'.heap.objs.size, [.str w, v], rfl, SqT.of upd_same, .str w, [v], rfl, rfl, v, [], rfl, rd.go (Go.new0 hT), rfl⟩) (Kp.set fun xs z => by cases z)
end
end L3

set_option Elab.async false
set_option linter.all false
set_option maxRecDepth 100000
set_option maxHeartbeats 1000000
namespace L3
open PySem PySem.Spec L2 PyProof.Rows
/-! ### texts: methods, int(..), a walk, in -/
section
variable {X : Cx}
theorem mt_starts : MtR X "str.startswith" (fun x xs H Q => ∃ y z, x = .str y ∧ xs = [.str z] ∧ Q (.bl (Txt.startswith y z)) H) := by
  intro pins s σ H x xs v us Q I rx rs ⟨y, z, ex, ey, q⟩
  subst ex ey
  obtain ⟨t, rfl⟩ := rx
  obtain ⟨u, rfl, t', rfl⟩ := vals1 rs
  exact SC.startswith ⟨.bl _, H, I, rfl, q⟩
theorem mt_find : MtR X "str.find" (fun x xs H Q => ∃ y z, x = .str y ∧ xs = [.str z] ∧ Q (.int (Txt.find y z)) H) := by
  intro pins s σ H x xs v us Q I rx rs ⟨y, z, ex, ey, q⟩
  subst ex ey
  obtain ⟨t, rfl⟩ := rx
  obtain ⟨u, rfl, t', rfl⟩ := vals1 rs
  exact SC.find ⟨.int _, H, I.tok _, ⟨_, rfl⟩, q⟩
theorem strs_of : ∀ {xs : List Str} {us : List Value}, Vals (xs.map V.str) us → ∃ l : List (Str × Tok), us = strValues l ∧ l.map (·.1) = xs
  | [], us, h => by cases h; exact ⟨[], rfl, rfl⟩
  | x :: xs, us, h => by
    cases h with
    | cons r rr =>
      obtain ⟨t, rfl⟩ := r
      obtain ⟨l, rfl, e⟩ := strs_of rr
      exact ⟨(x, t) :: l, rfl, by rw [List.map_cons, e]⟩
theorem mt_join : MtR X "str.join" (fun x xs H Q => ∃ y p zs, x = .str y ∧ xs = [.ref p] ∧ SqL X.K H p (zs.map V.str) ∧ JoinOk y zs = true ∧ Q (.str (Txt.join y zs)) H) := by
  intro pins s σ H x xs v us Q I rx rs ⟨y, p, zs, ex, ey, hl, hj, q⟩
  subst ex ey
  obtain ⟨t, rfl⟩ := rx
  obtain ⟨u, rfl, rx⟩ := vals1 rs
  cases rx
  obtain ⟨its, rv, pl, hz⟩ := I.list hl
  obtain ⟨l, e1, e2⟩ := strs_of rv
  subst e1
  exact SC.join (l := l) pl.isList e2 hj fun t' k => ⟨.str _, H, I.tok _, ⟨_, rfl⟩, q⟩
theorem call_int_text : CallR X (.type "int") (fun xs H Q => ∃ x n, xs = [.str x] ∧ PySem.intText? x = some n ∧ x.length ≤ 640 ∧ Q (.int n) H) := by
  intro pins s σ H xs us Q I r ⟨x, n, ex, hn, hl, q⟩
  subst ex
  obtain ⟨u, rfl, t, rfl⟩ := vals1 r
  exact PySem.W.KIN.call_text hn hl ⟨.int n, H, I.tok _, ⟨_, rfl⟩, q⟩
/-! the walk -/
def ch (c : Nat) : Str := ⟨#[c]⟩
def Its (z : Str) : It := ⟨fun i _ => i < z.cps.size, fun i H x H' => H' = H ∧ ∃ c, z.cps[i]? = some c ∧ x = .str (ch c), fun i _ => z.cps.size ≤ i⟩
theorem turn_str {P : Program} {w : World} {K : PySem.W.Frag} {tg : Expr} (z : Str) (t : Tok) (it : Addr) : Turn P w K tg (Its z) [it] it (fun i h => (h.IsStrIter it "str_ascii_iterator" z t i) ∨ h.IsStrIter it "str_iterator" z t i) where
  mem := by simp
  obj := fun i h st b hb => by
    have e : b = it := by simpa using hb
    subst e
    rcases st with ⟨o, e, c, d⟩ | ⟨o, e, c, d⟩ <;> exact ⟨o, e, fun v z => by rw [d] at z; cases z⟩
  keep := fun i h h' st k => by
    rcases st with ⟨o, e, c, d⟩ | ⟨o, e, c, d⟩
    · exact .inl ⟨o, k it (by simp) o e, c, d⟩
    · exact .inr ⟨o, k it (by simp) o e, c, d⟩
  item := by
    intro X hP hw hK hc i pins s σ H E I hf st hg
    subst hP hw hK
    have hg : i < z.cps.size := hg
    obtain ⟨f0, f1, f2, f3, f4, f5⟩ := hf it (by simp)
    have hx : z.cps[i]? = some z.cps[i] := by simp [hg]
    rcases st with st | st
    · refine wpAny_pyNext_ascii_item st hx fun h' st' sb => ?_
      have I1 : Inv X pins σ H { s with heap := h', toks := s.toks + 1 } := I.turned (t' := s.toks + 1) (fun b o hb e => (sb.2 b hb).trans e) f0 f1 f3 f4 f5
      obtain ⟨o, e, c, d⟩ := id st'
      exact ⟨_, rfl, go_of (s := { s with heap := h', toks := s.toks + 1 }) e c d (by decide) ⟨.str (ch z.cps[i]), H, I1, ⟨_, rfl⟩, ⟨rfl, _, hx, rfl⟩, .inl st', fun b hb => (hf b hb).1⟩⟩
    · refine wpAny_pyNext_wide_item st hx fun h' st' sb => ?_
      have I1 : Inv X pins σ H { s with heap := h', toks := s.toks + 1 } := I.turned (t' := s.toks + 1) (fun b o hb e => (sb.2 b hb).trans e) f0 f1 f3 f4 f5
      obtain ⟨o, e, c, d⟩ := id st'
      exact ⟨_, rfl, go_of (s := { s with heap := h', toks := s.toks + 1 }) e c d (by decide) ⟨.str (ch z.cps[i]), H, I1, ⟨_, rfl⟩, ⟨rfl, _, hx, rfl⟩, .inr st', fun b hb => (hf b hb).1⟩⟩
  done := by
    intro X hP hw hK hc i pins s σ H E I hf st hg
    subst hP hw hK
    have hg : z.cps.size ≤ i := hg
    obtain ⟨f0, f1, f2, f3, f4, f5⟩ := hf it (by simp)
    have hx : z.cps[i]? = none := by simp [hg]
    rcases st with st | st
    · exact wpAny_pyNext_ascii_end (I.ok.hd hc) st hx fun h' eb => ⟨rfl, I.turned (t' := s.toks) (fun b o hb e => eb b o hb e) f0 f1 f3 f4 f5⟩
    · exact wpAny_pyNext_wide_end (I.ok.hd hc) st hx fun h' eb => ⟨rfl, I.turned (t' := s.toks) (fun b o hb e => eb b o hb e) f0 f1 f3 f4 f5⟩
  self := fun _ _ _ _ _ st h => by
    rcases st with st | st
    · exact wpAny_pyIter_striter_ascii st h
    · exact wpAny_pyIter_striter_wide st h
theorem pi_str {tg l : Expr} {tl : TE} (hl : PE X l tl) : PI X tg l (fun σ H R => tl σ H fun x H1 => ∃ z, x = .str z ∧ R (Its z) H1) := by
  intro pins s σ H R I h
  refine thn (hl pins s σ H _ I h) fun v s1 ⟨x, H1, I1, r1, q1⟩ => ?_
  obtain ⟨z, e, q⟩ := q1
  subst e
  obtain ⟨t, rfl⟩ := r1
  have fin : ∀ b ∈ [s1.heap.objs.size], FpOk X pins H1 b := fun b hb => by
    have e : b = s1.heap.objs.size := by simpa using hb
    subst e
    exact I1.fpOk (Nat.le_refl _) (I1.hok.fresh (Nat.le_refl _))
  cases ha : z.cps.all (· < 128) with
  | true =>
    refine wpAny_pyIter_ascii ha ?_
    exact ⟨s1.heap.objs.size, [s1.heap.objs.size], _, _, H1, rfl, I1.kept (t' := s1.toks) fun b o e => Heap.get?_push_of_some _ e, turn_str z t _, .inl ⟨_, Heap.get?_push_size _ rfl, rfl, rfl⟩, fin, q⟩
  | false =>
    refine wpAny_pyIter_wide ha ?_
    exact ⟨s1.heap.objs.size, [s1.heap.objs.size], _, _, H1, rfl, I1.kept (t' := s1.toks) fun b o e => Heap.get?_push_of_some _ e, turn_str z t _, .inr ⟨_, Heap.get?_push_size _ rfl, rfl, rfl⟩, fin, q⟩
end
def chD (z : Str) : List D := z.cps.toList.map fun c => D.str (ch c)
def chV (z : Str) : List V := z.cps.toList.map fun c => V.str (ch c)
theorem its_at (z : Str) (H : Hp) (i : Nat) : (i < (chV z).length → (Its z).go i H ∧ ∀ x H', (Its z).yld i H x H' → H' = H ∧ (chV z)[i]? = some x) ∧ ((chV z).length ≤ i → (Its z).stop i H) := by
  have hl : (chV z).length = z.cps.size := by unfold chV; rw [List.length_map, Array.length_toList]
  rw [hl]
  refine ⟨fun hi => ⟨hi, fun x H' ⟨e, c, h1, h2⟩ => ⟨e, ?_⟩⟩, fun hi => hi⟩
  subst h2
  unfold chV
  rw [List.getElem?_map, Array.getElem?_toList, h1]
  rfl
variable [L2.TabP]
theorem chD_rep {K : PySem.W.Frag} {mg : Str → Option Value} {O : Ow} {H : Hp} (z : Str) : RepAll K mg O H (chD z) (chV z) := by
  unfold chD chV
  induction z.cps.toList with
  | nil => rfl
  | cons c r ih => exact ⟨_, _, rfl, rfl, ih⟩
/-- a text's signs -/
def iS (m : ME) : MI := fun σ => do
  let r ← m σ
  match r with
  | .v (.str z) => pure (chD z)
  | _ => bad
section
variable {X : Cx} {tg l : Expr} {m : ME}
theorem cc_str (hl : CE X l m) : CIc X tg l (iS m) := pi_imp (pi_str hl) fun σV H R ⟨O, σ, S, xs, S', st, h, q⟩ => by
  obtain ⟨r, S1, h1, h⟩ := M.inv h
  split at h
  · rename_i z
    cases h
    refine ⟨O, σ, S, _, _, st, h1, fun O1 v H1 g1 st1 rr nn => ⟨z, rr, ?_⟩⟩
    exact q O1 H1 (Its z) (chV z) g1 st1 (fun H2 _ i => its_at z H2 i) (chD_rep z)
  · cases h
theorem cf_str (hl : CE X l m) : CIf X tg l (iS m) := pi_imp (pi_str hl) fun σV H R ⟨O, σ, S, xs, S', st, h, q⟩ => by
  obtain ⟨r, S1, h1, h⟩ := M.inv h
  split at h
  · rename_i z
    cases h
    refine ⟨O, σ, S, _, _, st, h1, fun O1 v H1 g1 st1 rr nn => ⟨z, rr, ?_⟩⟩
    exact q O1 H1 (Its z) (chV z) g1 st1 (fun O2 H2 _ i => its_at z H2 i) (chD_rep z)
  · cases h
theorem wc_str (hl : WE X l m) : WIc X tg l (iS m) := ⟨cc_str hl.un⟩
theorem wf_str (hl : WE X l m) : WIf X tg l (iS m) := ⟨cf_str hl.un⟩
end
/-! methods -/
def cM1 (f : R → List R → M R) (a : ME) (ms : MA) : ME := fun σ => do
  let x ← a σ
  let rs ← ms σ
  f x rs
def BinMt (K : PySem.W.Frag) (mg : Str → Option Value) (r : V → List V → Hp → VK → Prop) (f : R → List R → M R) : Prop :=
  ∀ O σ S σV H x xs rx rs r' S' (Q : VK), S3 K mg O σ S σV H → RepR K mg O H rx x → RepRs K mg O H rs xs → (f rx rs).run S = .ok r' S' → PoE K mg O σ S' σV H r' Q → r x xs H Q
/-- only of a text -/
def OfStr (f : R → List R → M R) : Prop := ∀ rx rs S r' S', (f rx rs).run S = .ok r' S' → ∃ z, rx = .v (.str z)
section
variable {X : Cx} {o e : Expr} {es : List Expr} {a : ME} {ms : MA} {name : Str} {apos cpos : Pos} {id : String} {r : V → List V → Hp → VK → Prop} {f : R → List R → M R}
theorem ce_strM (slot : PySem.Slot "str" name id) (hty : typeOf (.builtin id) = pure (.type "method_descriptor")) (hm : MtR X id r) (hf : BinMt X.K X.mg r f) (os : OfStr f) (ho : CE X o a) (ha : CA X (e :: es) ms)
    (hbase : attributeBase o name X.env (eval o X.env) = eval o X.env := by rfl)
    (hfew : ((backTo cpos (starEach (e :: es) X.env)).all (fun x => !x.1) && (backToKw cpos (keywordEach [] X.env)).all (fun x => x.1.isSome)
      && decide ((e :: es).length + ([] : List Keyword).length + (if ([] : List Keyword).isEmpty then 0 else 1) < 30)) = true := by rfl)
    (hline : (apos.endLine == cpos.line) = true := by rfl) (hs : starEach (e :: es) X.env = (false, eval e X.env) :: starEach es X.env := by rfl) (hplain : (backTo cpos (starEach es X.env)).any (·.1) = false := by rfl) :
    CE X (.Call (.Attribute o name apos) (e :: es) [] cpos) (cM1 f a ms) := pe_imp (pe_bm PySem.F.plainAttrs_str slot hty hm ho ha hbase hfew hline hs hplain) fun σV H Q ⟨O, σ, S, r', S', st, h, q⟩ => by
  obtain ⟨x, S1, h1, h⟩ := M.inv h
  obtain ⟨rs, S2, h2, h⟩ := M.inv h
  refine ⟨O, σ, S, x, S1, st, h1, fun O1 vx H1 g1 st1 rx nx => ?_⟩
  obtain ⟨z, rfl⟩ := os _ _ _ _ _ h
  cases (show vx = .str z from rx)
  refine ⟨rfl, O1, σ, S1, rs, S2, st1, h2, fun O2 vs H2 g2 st2 rr nn => ?_⟩
  exact hf O2 σ S2 σV H2 _ vs _ rs r' S' Q st2 (show RepR X.K X.mg O2 H2 (.v (.str z)) (.str z) from rfl) rr h fun O' v H' g st' rr' nn' => q O' v H' ((g1.trans g2).trans g) st' rr' (nn'.back (g1.trans g2).same)
theorem we_strM (slot : PySem.Slot "str" name id) (hty : typeOf (.builtin id) = pure (.type "method_descriptor")) (hm : MtR X id r) (hf : BinMt X.K X.mg r f) (os : OfStr f) (ho : WE X o a) (ha : WA X (e :: es) ms)
    (hbase : attributeBase o name X.env (eval o X.env) = eval o X.env := by rfl)
    (hfew : ((backTo cpos (starEach (e :: es) X.env)).all (fun x => !x.1) && (backToKw cpos (keywordEach [] X.env)).all (fun x => x.1.isSome)
      && decide ((e :: es).length + ([] : List Keyword).length + (if ([] : List Keyword).isEmpty then 0 else 1) < 30)) = true := by rfl)
    (hline : (apos.endLine == cpos.line) = true := by rfl) (hs : starEach (e :: es) X.env = (false, eval e X.env) :: starEach es X.env := by rfl) (hplain : (backTo cpos (starEach es X.env)).any (·.1) = false := by rfl) :
    WE X (.Call (.Attribute o name apos) (e :: es) [] cpos) (cM1 f a ms) := ⟨ce_strM slot hty hm hf os ho.un ha.un hbase hfew hline hs hplain⟩
end
def fStarts (x : R) (rs : List R) : M R := match x, rs with
  | .v (.str y), [.v (.str z)] => pure (.v (.bl (Txt.startswith y z)))
  | _, _ => bad
def fFind (x : R) (rs : List R) : M R := match x, rs with
  | .v (.str y), [.v (.str z)] => pure (.v (.int (Txt.find y z)))
  | _, _ => bad
def strsD : List D → Option (List Str)
  | [] => some []
  | .str x :: ds => (strsD ds).map (x :: ·)
  | _ :: _ => none
def fJoin (x : R) (rs : List R) : M R := match x, rs with
  | .v (.str y), [l] => match l.lis.bind strsD with
    | some zs => if JoinOk y zs = true then pure (.v (.str (Txt.join y zs))) else bad
    | none => bad
  | _, _ => bad
theorem os_starts : OfStr fStarts := fun rx rs S r' S' h => by
  unfold fStarts at h
  split at h
  · exact ⟨_, rfl⟩
  · cases h
theorem os_find : OfStr fFind := fun rx rs S r' S' h => by
  unfold fFind at h
  split at h
  · exact ⟨_, rfl⟩
  · cases h
theorem os_join : OfStr fJoin := fun rx rs S r' S' h => by
  unfold fJoin at h
  split at h
  · exact ⟨_, rfl⟩
  · cases h
section
variable {K : PySem.W.Frag} {mg : Str → Option Value}
theorem bmStarts : BinMt K mg (fun x xs H Q => ∃ y z, x = .str y ∧ xs = [.str z] ∧ Q (.bl (Txt.startswith y z)) H) fStarts := fun O σ S σV H x xs rx rs r' S' Q st hx hr h q => by
  unfold fStarts at h
  split at h
  · rename_i y z
    cases h
    obtain ⟨v, rfl, hv⟩ := reps1 hr
    exact ⟨y, z, hx, by rw [show v = V.str z from hv], q O _ H (Go.refl _ _) st rfl trivial⟩
  · cases h
theorem bmFind : BinMt K mg (fun x xs H Q => ∃ y z, x = .str y ∧ xs = [.str z] ∧ Q (.int (Txt.find y z)) H) fFind := fun O σ S σV H x xs rx rs r' S' Q st hx hr h q => by
  unfold fFind at h
  split at h
  · rename_i y z
    cases h
    obtain ⟨v, rfl, hv⟩ := reps1 hr
    exact ⟨y, z, hx, by rw [show v = V.str z from hv], q O _ H (Go.refl _ _) st rfl trivial⟩
  · cases h
theorem strs_rep {O : Ow} {H : Hp} : ∀ {ds : List D} {ys : List V} {zs : List Str}, RepAll K mg O H ds ys → strsD ds = some zs → ys = zs.map V.str
  | [], ys, zs, h, e => by cases e; exact h
  | d :: ds, ys, zs, h, e => by
    obtain ⟨y, r, rfl, h1, h2⟩ := h
    cases d with
    | str x =>
      have e : (strsD ds).map (x :: ·) = some zs := e
      cases e1 : strsD ds with
      | none => rw [e1] at e; cases e
      | some ws =>
        rw [e1] at e
        cases e
        rw [strs_rep h2 e1, show y = V.str x from h1]
        rfl
    | _ => cases e
theorem bmJoin : BinMt K mg (fun x xs H Q => ∃ y p zs, x = .str y ∧ xs = [.ref p] ∧ SqL K H p (zs.map V.str) ∧ JoinOk y zs = true ∧ Q (.str (Txt.join y zs)) H) fJoin := fun O σ S σV H x xs rx rs r' S' Q st hx hr h q => by
  unfold fJoin at h
  split at h
  · rename_i y l
    split at h
    · rename_i zs e
      by_cases c : JoinOk y zs = true
      · rw [if_pos c] at h
        cases h
        obtain ⟨v, rfl, hv⟩ := reps1 hr
        obtain ⟨ds, e1, e2⟩ := Option.bind_eq_some_iff.mp e
        obtain ⟨a, ys, rfl, l1, ra⟩ := R.lis_rep hv e1
        rw [strs_rep ra e2] at l1
        exact ⟨y, a, zs, hx, rfl, l1, c, q O _ H (Go.refl _ _) st rfl trivial⟩
      · rw [if_neg c] at h; cases h
    · cases h
  · cases h
/-- int(text) -/
def fIntT : List R → M R
  | [.v (.str x)] => match PySem.intText? x with
    | some n => if x.length ≤ 640 then pure (.v (.int n)) else bad
    | none => bad
  | _ => bad
theorem kIntT : BinC K mg (fun xs H Q => ∃ x n, xs = [.str x] ∧ PySem.intText? x = some n ∧ x.length ≤ 640 ∧ Q (.int n) H) fIntT := fun O σ S σV H vs rs r' S' Q st hr h q => by
  unfold fIntT at h
  split at h
  · rename_i x
    split at h
    · rename_i n en
      by_cases c : x.length ≤ 640
      · rw [if_pos c] at h
        cases h
        obtain ⟨v, rfl, hv⟩ := reps1 hr
        exact ⟨x, n, by rw [show v = V.str x from hv], en, c, q O _ H (Go.refl _ _) st rfl trivial⟩
      · rw [if_neg c] at h; cases h
    · cases h
  · cases h
/-- a text within a text -/
def txIn (i j : Str) : Bool := !(Builtin.Str.occurrences j i 0 j.length 1).isEmpty
def oInS (neg : Bool) : R → R → M R
  | .v (.str i), .v (.str j) => pure (.v (.bl (neg ^^ txIn i j)))
  | _, _ => bad
theorem bNotInS : Bin K mg (fun x y H Q => ∃ i j, x = .str i ∧ y = .str j ∧ Q (.bl (!(!(Builtin.Str.occurrences j i 0 j.length 1).isEmpty))) H) (oInS true) := fun O σ S σV H x y rx ry r' S' Q st hx hy h q => by
  unfold oInS at h
  split at h
  · rename_i i j
    cases h
    refine ⟨i, j, hx, hy, ?_⟩
    have : (!(!(Builtin.Str.occurrences j i 0 j.length 1).isEmpty)) = (true ^^ txIn i j) := by unfold txIn; simp
    rw [this]
    exact q O _ H (Go.refl _ _) st rfl trivial
  · cases h
end
end L3

set_option Elab.async false
set_option linter.all false
set_option maxRecDepth 100000
set_option maxHeartbeats 1000000
namespace L3
open PySem PySem.Spec L2 PyProof.Rows
/-! ### a table of the text, by texts: its values are plain -/
/-- what stands for a datum whatever is done -/
def KRep (K : PySem.W.Frag) (mg : Str → Option Value) [L2.TabP] (d : D) (u : Value) : Prop := ∃ v, RelV v u ∧ ∀ O H, Rep K mg O H d v
structure KTab (P : Program) (w : World) (K : PySem.W.Frag) (mg : Str → Option Value) [L2.TabP] (x : Str) (ps : List (Str × D)) : Prop where
  ex : ∃ (a : Addr) (es : Array DictEntry) (n : Nat), (mg x = some (.ref a) ∧ (a == sysModules) = false) ∧ List.lookup a K = some { cls := .type "dict", data := .dict es n } ∧ PySem.KeysOf (PySem.strKind P w) es ∧
    ∀ k, match ps.lookup k with
      | some d => ∃ u, findBy Value.isStrOf es k = some u ∧ KRep K mg d u
      | none => findBy Value.isStrOf es k = none
variable [L2.TabP]
/-- the entries, one by one -/
def KEnts (K : PySem.W.Frag) (mg : Str → Option Value) : List (Str × D) → List DictEntry → Prop
  | [], es => es = []
  | p :: ps, es => ∃ e r, es = e :: r ∧ (∃ t, e.key = .str p.1 t) ∧ KRep K mg p.2 e.val ∧ KEnts K mg ps r
theorem kents_find {K : PySem.W.Frag} {mg : Str → Option Value} {k : Str} : ∀ {ps : List (Str × D)} {es : List DictEntry}, KEnts K mg ps es → match ps.lookup k with
      | some d => ∃ u, (es.find? fun e => Value.isStrOf k e.key).map (·.val) = some u ∧ KRep K mg d u
      | none => (es.find? fun e => Value.isStrOf k e.key).map (·.val) = none
  | [], es, h => by cases h; rfl
  | p :: ps, es, h => by
    obtain ⟨e, r, rfl, ⟨t, ek⟩, kr, hr⟩ := h
    have ih := kents_find (k := k) hr
    obtain ⟨pk, pd⟩ := p
    rw [List.lookup_cons, List.find?_cons, ek]
    by_cases c : k = pk
    · subst c
      have e1 : (k == k) = true := by simp
      have e2 : Value.isStrOf k (.str k t) = true := by show (k == k) = true; simp
      rw [e1, e2]
      exact ⟨_, rfl, kr⟩
    · have e1 : (k == pk) = false := by simpa using c
      have e2 : Value.isStrOf k (.str pk t) = false := by
        show (pk == k) = false
        simp only [beq_eq_false_iff_ne, ne_eq]
        exact fun z => c z.symm
      rw [e1, e2]
      exact ih
theorem ktab_mk {P : Program} {w : World} {K : PySem.W.Frag} {h : Heap} {mg : Str → Option Value} {x : Str} {d : Addr} {es : Array DictEntry} {n : Nat} {ps : List (Str × D)} (X : K.In h) (G : h.Ns mainGlobals mg)
    (a : PySem.W.nsIn K mainGlobals x = some (some (.ref d))) (hs : (d == sysModules) = false) (l : List.lookup d K = some { cls := .type "dict", data := .dict es n }) (k : ∀ e ∈ es.toList, ∃ s, Value.isStrOf s e.key = true ∧ e.hash = hashStr w s)
    (f : KEnts K mg ps es.toList) : KTab P w K mg x ps := by
  refine ⟨d, es, n, ⟨PySem.W.mg_of X G a, hs⟩, l, fun e he => ?_, fun k => ?_⟩
  · obtain ⟨s, h1, h2⟩ := k e (by simpa using he)
    exact ⟨s, h1, h2⟩
  · have z := kents_find (k := k) f
    have : ∀ k : Str, findBy Value.isStrOf es k = (es.toList.find? fun e => Value.isStrOf k e.key).map (·.val) := fun k => by
      unfold findBy
      obtain ⟨l⟩ := es
      rw [List.find?_toArray]
    rw [this]
    exact z
theorem krep_int {K : PySem.W.Frag} {mg : Str → Option Value} {i : Int} {t : Tok} : KRep K mg (.int i) (.int i t) := ⟨.int i, ⟨t, rfl⟩, fun _ _ => rfl⟩
def cTabIn (neg : Bool) (ps : List (Str × D)) (mk : ME) : ME := fun σ => do
  let k ← mk σ
  match k with
  | .v (.str z) => pure (.v (.bl (neg ^^ (ps.lookup z).isSome)))
  | _ => bad
section
variable {X : Cx} {x : Str} {ps : List (Str × D)} {i : Expr} {pos p apos cpos : Pos} {mk : ME}
theorem in_tab (T : KTab X.prog X.w X.K X.mg x ps) (hg : Gl X x) (hi : PE X i (teOf X.K X.mg mk)) (hdb : (x == ("__debug__" : Str)) = false) {pins : List (Addr × Obj)} {s : Shared} {σ : L2.St} {H : Hp} {Q : VK} (I : L2.Inv X pins σ H s)
    (h : teOf X.K X.mg (cTabIn false ps mk) σ H Q) :
    wpAny (model X.prog X.w) X.A (eval i X.env) (fun iv s1 => wpAny (model X.prog X.w) X.A (eval (.Name x p) X.env) (fun u s2 => wpAny (model X.prog X.w) X.A (compareOp .In iv u) (EP X pins σ Q) X.xe s2) X.xe s1) X.xe s := by
  obtain ⟨O, σ', S, r, S', st, h, q⟩ := h
  obtain ⟨y, S1, h1, h⟩ := M.inv h
  split at h
  · rename_i z
    cases h
    obtain ⟨a, es, n, ⟨hm, hsm⟩, hl, hk, hf⟩ := T.ex
    refine thn (hi pins s σ H (fun v H1 => v = .str z ∧ ∃ O1, Go O O1 H H1 ∧ S3 X.K X.mg O1 σ' S' σ H1) I ⟨O, σ', S, _, _, st, h1, fun O1 v H1 g1 st1 rr nn => ⟨rr, O1, g1, st1⟩⟩) fun iv s2 ⟨y, H2, I2, ry, ey, O1, g1, st1⟩ => ?_
    subst ey
    obtain ⟨t, rfl⟩ := ry
    refine ld_glob I2 hg hm ?_ hdb
    have ha := I2.kIn a _ hl
    refine wpAny_in_of (knd := PySem.strKind X.prog X.w) (k := z) (f := findBy Value.isStrOf es) ?_ hsm ⟨_, es, n, ha, ⟨rfl, rfl, rfl⟩, rfl, hk, fun _ => rfl⟩ ?_
    · show (z == z) = true
      simp
    · have e : (findBy Value.isStrOf es z).isSome = (false ^^ (ps.lookup z).isSome) := by
        have := hf z
        cases e1 : ps.lookup z with
        | none => rw [e1] at this; rw [this]; rfl
        | some d => rw [e1] at this; obtain ⟨u, e2, _⟩ := this; rw [e2]; rfl
      rw [e]
      exact ⟨.bl _, H2, I2.tok _, rfl, q O1 _ H2 g1 st1 rfl trivial⟩
  · cases h
theorem ce_tabin (T : KTab X.prog X.w X.K X.mg x ps) (hg : Gl X x) (hi : CE X i mk) (hm : behindInMarks .In (.Name x p) = false := by rfl) (hdb : (x == ("__debug__" : Str)) = false := by decide) :
    CE X (.Compare i [.In] [.Name x p] pos) (cTabIn false ps mk) := by
  intro pins s σ H Q I h
  exact wpAny_Compare1 (in_tab T hg hi hdb I h) hm
theorem we_tabin (T : KTab X.prog X.w X.K X.mg x ps) (hg : Gl X x) (hi : WE X i mk) (hm : behindInMarks .In (.Name x p) = false := by rfl) (hdb : (x == ("__debug__" : Str)) = false := by decide) :
    WE X (.Compare i [.In] [.Name x p] pos) (cTabIn false ps mk) := ⟨ce_tabin T hg hi.un hm hdb⟩
end
/-! ### shut rules of the statements that may raise -/
structure WXs (X : Cx) (C : Addr) (E : XK) (st : Stmt) (m : MSx) : Prop where
  un : CXs X C E st m
structure WXss (X : Cx) (C : Addr) (E : XK) (sts : List Stmt) (m : MSx) : Prop where
  un : CXss X C E sts m
section
variable {X : Cx} {C : Addr} {E : XK} {st : Stmt} {rest : List Stmt} {pos p p2 np cpos : Pos} {a b : MSx} {x : Str} {ps : List Str} {k : Nat} {mf : MFX} {e0 e : Expr} {es : List Expr} {ms : MA}
theorem wx_of {m : MS} (h : WS X st m) : WXs X C E st (xOf m) := ⟨cx_of h.un⟩
theorem wx_if {c : Expr} {A B : List Stmt} {t : En → M Bool} (hc : WT X c t) (ha : WXss X C E A a) (hb : WXss X C E B b) : WXs X C E (.If c A B pos) (xIf t a b) := ⟨cx_if hc.un ha.un hb.un⟩
theorem wxs_nil : WXss X C E [] xPass := ⟨cxs_nil⟩
theorem wxs_one (h : WXs X C E st a) : WXss X C E [st] a := ⟨cxs_one h.un⟩
theorem wxs_cons (h1 : WXs X C E st a) (h2 : WXss X C E rest b) : WXss X C E (st :: rest) (xSeq a b) := ⟨cxs_cons h1.un h2.un⟩
theorem wx_raise (V : ExV X.K X.mg x C) (hc : X.calm = true) (hg : Gl X x) (L : Lets X E) (ha : WA X (e0 :: es) ms) (he : starEach (e0 :: es) X.env = (false, eval e0 X.env) :: starEach es X.env := by rfl)
    (hplain : (backTo cpos (starEach es X.env)).any (·.1) = false := by rfl) (hdb : (x == ("__debug__" : Str)) = false := by decide) :
    WXs X C E (.Raise (some (.Call (.Name x np) (e0 :: es) [] cpos)) none pos) (xRaise ms) := ⟨cx_raise V hc hg L ha.un he hplain hdb⟩
theorem wx_retC (h : HasX X.prog X.w X.K X.mg X.base x ps k (spX X.K X.mg C mf)) (hr : Room k X.A) (hg : Gl X x) (L : Lets X E) (ha : WA X (e :: es) ms) (hdb : (x == ("__debug__" : Str)) = false := by decide)
    (he : starEach (e :: es) X.env = (false, eval e X.env) :: starEach es X.env := by rfl) (hpl : (backTo pos (starEach es X.env)).any (·.1) = false := by rfl) : WXs X C E (.Return (some (.Call (.Name x p) (e :: es) [] pos)) p2) (xRetC mf ms) := ⟨cx_retC h hr hg L ha.un hdb he hpl⟩
theorem wx_retN (h : HasX X.prog X.w X.K X.mg X.base x ps k (spX X.K X.mg C mf)) (hr : Room k X.A) (hg : Gl X x) (L : Lets X E) (ha : WA X (e :: es) ms) {p3 : Pos} (hdb : (x == ("__debug__" : Str)) = false := by decide)
    (he : starEach (e :: es) X.env = (false, eval e X.env) :: starEach es X.env := by rfl) (hpl : (backTo pos (starEach es X.env)).any (·.1) = false := by rfl) : WXs X C E (.Return (some (.UnaryOp .USub (.Call (.Name x p) (e :: es) [] pos) p3)) p2) (xRetN mf ms) := ⟨cx_retN h hr hg L ha.un hdb he hpl⟩
end
section
variable {X : Cx} {C : Addr} {x nt f : Str} {w : Str} {i k : Nat} {ps : List Str} {mf : MFX} {ms : MA} {mh : MS} {e : Expr} {es : List Expr} {hst : Stmt} {p p1 p2 p3 p4 pos np hp tp : Pos} {j kk : Nat}
theorem ws_try (V : ExV X.K X.mg nt C) (h : HasX X.prog X.w X.K X.mg X.base f ps k (spX X.K X.mg C mf)) (hr : Room k X.A) (hgf : Gl X f) (hgn : Gl X nt) (hxe : X.xe = fun _ _ => False) (hk : X.stack = X.env :: X.outer ∧ X.env.frame = some X.env.locals)
    (hN : X.N.Nodup) (hi : X.N[i]? = some x) (hx : Loc X.env.scope x) (ha : WA X (e :: es) ms) (hs : ∀ a xe, WSs (Cx.held X a xe) [hst] mh)
    (hdf : (f == ("__debug__" : Str)) = false := by decide) (hdn : (nt == ("__debug__" : Str)) = false := by decide)
    (he : starEach (e :: es) X.env = (false, eval e X.env) :: starEach es X.env := by rfl) (hpl : (backTo pos (starEach es X.env)).any (·.1) = false := by rfl)
    (h1 : starEach [.Constant (.str w) j p1, .Call (.Name f p) (e :: es) [] pos] X.env = (false, eval (.Constant (.str w) j p1) X.env) :: starEach [.Call (.Name f p) (e :: es) [] pos] X.env := by rfl)
    (h2 : starEach [.Call (.Name f p) (e :: es) [] pos] X.env = (false, eval (.Call (.Name f p) (e :: es) [] pos) X.env) :: starEach [] X.env := by rfl)
    (hsw : swapsWith (.Tuple [.Constant (.str w) j p1, .Call (.Name f p) (e :: es) [] pos] kk p2) (some (.Name x p3)) p4.line X.env = pure false := by rfl)
    (hf : X.fn x = true ∨ X.env.scope.names.lookup x = some .local := by first | exact .inl rfl | exact .inr rfl | assumption) :
    WS X (.Try [.Assign [.Name x p3] (.Tuple [.Constant (.str w) j p1, .Call (.Name f p) (e :: es) [] pos] kk p2) p4] [.ExceptHandler (some (.Name nt np)) none [hst] hp] [] [] tp) (cTry i w mf ms mh) :=
  ⟨cs_try V h hr hgf hgn hxe hk hN hi hx ha.un (fun a xe => (hs a xe).un) hdf hdn he hpl h1 h2 hsw hf⟩
end
section
omit [L2.TabP]
@[simp] theorem e_iS {m : ME} {σ : En} : iS m σ = (do
  let r ← m σ
  match r with
  | .v (.str z) => pure (chD z)
  | _ => bad) := rfl
@[simp] theorem e_cM1 {f : R → List R → M R} {a : ME} {ms : MA} {σ : En} : cM1 f a ms σ = (do
  let x ← a σ
  let rs ← ms σ
  f x rs) := rfl
@[simp] theorem e_fStarts {y z : Str} : fStarts (.v (.str y)) [.v (.str z)] = pure (.v (.bl (Txt.startswith y z))) := rfl
@[simp] theorem e_fFind {y z : Str} : fFind (.v (.str y)) [.v (.str z)] = pure (.v (.int (Txt.find y z))) := rfl
@[simp] theorem e_oInS {b : Bool} {i j : Str} : oInS b (.v (.str i)) (.v (.str j)) = pure (.v (.bl (b ^^ txIn i j))) := rfl
@[simp] theorem e_cTabIn {neg : Bool} {ps : List (Str × D)} {mk : ME} {σ : En} : cTabIn neg ps mk σ = (do
  let k ← mk σ
  match k with
  | .v (.str z) => pure (.v (.bl (neg ^^ (ps.lookup z).isSome)))
  | _ => bad) := rfl
@[simp] theorem e_xOf {a : MS} {σ : En} : xOf a σ = (do
  let fl ← a σ
  match fl with
  | .nx σ' => pure (.nx σ')
  | .rt (.v d) => pure (.rt d)
  | _ => bad) := rfl
@[simp] theorem e_xIf {t : En → M Bool} {a b : MSx} {σ : En} : xIf t a b σ = (do
  let t ← t σ
  if t = true then a σ else b σ) := rfl
@[simp] theorem e_xPass {σ : En} : xPass σ = pure (.nx σ) := rfl
@[simp] theorem e_xSeq {a b : MSx} {σ : En} : xSeq a b σ = (do
  let f ← a σ
  match f with
  | .nx σ' => b σ'
  | f => pure f) := rfl
@[simp] theorem e_xRaise {ms : MA} {σ : En} : xRaise ms σ = (do
  let rs ← ms σ
  chk (rs.length ≤ 1000)
  pure .ex) := rfl
@[simp] theorem e_xRetC {mf : MFX} {ms : MA} {σ : En} : xRetC mf ms σ = (do
  let rs ← ms σ
  let r ← mf (rs.map R.arg)
  pure (exF r)) := rfl
@[simp] theorem e_xRetN {mf : MFX} {ms : MA} {σ : En} : xRetN mf ms σ = (do
  let rs ← ms σ
  let r ← mf (rs.map R.arg)
  exN r) := rfl
@[simp] theorem e_exF_ret {d : D} : exF (.ret d) = .rt d := rfl
@[simp] theorem e_exF_exc : exF .exc = .ex := rfl
@[simp] theorem e_exN_ret {i : Int} : exN (.ret (.int i)) = pure (.rt (.int (-i))) := rfl
@[simp] theorem e_exN_exc : exN .exc = pure .ex := rfl
@[simp] theorem e_cTry {i : Nat} {w : Str} {mf : MFX} {ms : MA} {mh : MS} {σ : En} : cTry i w mf ms mh σ = (do
  let rs ← ms σ
  let r ← mf (rs.map R.arg)
  match r with
  | .ret d => pure (.nx (σ.set i (.val (.tup [.str w, d]))))
  | .exc => mh σ) := rfl
end
end L3

set_option Elab.async false
set_option linter.all false
set_option maxRecDepth 100000
set_option maxHeartbeats 1000000
namespace K82
open PySem PySem.Spec L2 L3
def top (i : Nat) : Stmt := PySem.Challenge.pw_oneslate_k82_numbers_read.main.body.getD i (.Pass ⟨0, 0, 0, 0⟩)
abbrev s_read_number : Stmt := top 6
theorem sc_read_number : FnScope ["text"] ["text"] (defScope s_read_number) := ⟨rfl, rfl, rfl, by decide +kernel, rfl, by decide +kernel, by decide +kernel⟩
abbrev s_read_fence : Stmt := top 7
theorem sc_read_fence : FnScope ["text"] ["text"] (defScope s_read_fence) := ⟨rfl, rfl, rfl, by decide +kernel, rfl, by decide +kernel, by decide +kernel⟩
abbrev s_law_cell_at : Stmt := top 9
theorem sc_law_cell_at : FnScope ["script", "k"] ["script", "k"] (defScope s_law_cell_at) := ⟨rfl, rfl, rfl, by decide +kernel, rfl, by decide +kernel, by decide +kernel⟩
abbrev s_law_same : Stmt := top 10
theorem sc_law_same : FnScope ["found", "due", "one", "other"] ["found", "due"] (defScope s_law_same) := ⟨rfl, rfl, rfl, by decide +kernel, rfl, by decide +kernel, by decide +kernel⟩
abbrev s_law_odd : Stmt := top 11
theorem sc_law_odd : FnScope ["cell", "some"] ["cell"] (defScope s_law_odd) := ⟨rfl, rfl, rfl, by decide +kernel, rfl, by decide +kernel, by decide +kernel⟩
abbrev s_law_text : Stmt := top 12
theorem sc_law_text : FnScope ["script", "first", "number", "way", "text", "at"] ["script"] (defScope s_law_text) := ⟨rfl, rfl, rfl, by decide +kernel, rfl, by decide +kernel, by decide +kernel⟩
abbrev s_law_due : Stmt := top 13
theorem sc_law_due : FnScope ["text", "number", "sign"] ["text"] (defScope s_law_due) := ⟨rfl, rfl, rfl, by decide +kernel, rfl, by decide +kernel, by decide +kernel⟩
abbrev s_law_due_below : Stmt := top 14
theorem sc_law_due_below : FnScope ["text", "found"] ["text"] (defScope s_law_due_below) := ⟨rfl, rfl, rfl, by decide +kernel, rfl, by decide +kernel, by decide +kernel⟩
abbrev s_law_read : Stmt := top 15
theorem sc_law_read : FnScope ["text", "found"] ["text"] (defScope s_law_read) := ⟨rfl, rfl, rfl, by decide +kernel, rfl, by decide +kernel, by decide +kernel⟩
abbrev s_law_read_fence : Stmt := top 16
theorem sc_law_read_fence : FnScope ["text", "found"] ["text"] (defScope s_law_read_fence) := ⟨rfl, rfl, rfl, by decide +kernel, rfl, by decide +kernel, by decide +kernel⟩
abbrev s_law : Stmt := top 17
theorem sc_law : FnScope ["script", "text"] ["script"] (defScope s_law) := ⟨rfl, rfl, rfl, by decide +kernel, rfl, by decide +kernel, by decide +kernel⟩
abbrev ktab_FIGURES : List (Str × D) := [("0", .int 0), ("1", .int 1), ("2", .int 2), ("3", .int 3), ("4", .int 4), ("5", .int 5), ("6", .int 6), ("7", .int 7), ("8", .int 8), ("9", .int 9)]
structure Txt [L2.TabP] (P : Program) (w : World) (K : PySem.W.Frag) (mg : Str → Option Value) : Prop where
  d_read_number : Df K mg "read_number" s_read_number ["text"]
  d_read_fence : Df K mg "read_fence" s_read_fence ["text"]
  d_law_cell_at : Df K mg "_law_cell_at" s_law_cell_at ["script", "k"]
  d_law_same : Df K mg "_law_same" s_law_same ["found", "due"]
  d_law_odd : Df K mg "_law_odd" s_law_odd ["cell"]
  d_law_text : Df K mg "_law_text" s_law_text ["script"]
  d_law_due : Df K mg "_law_due" s_law_due ["text"]
  d_law_due_below : Df K mg "_law_due_below" s_law_due_below ["text"]
  d_law_read : Df K mg "_law_read" s_law_read ["text"]
  d_law_read_fence : Df K mg "_law_read_fence" s_law_read_fence ["text"]
  d_law : Df K mg "law" s_law ["script"]
  g_MOST_FIGURES : ∃ u, mg "MOST_FIGURES" = some u ∧ RelV (.int 60) u
  k_FIGURES : KTab P w K mg "FIGURES" ktab_FIGURES
  x_NoText : ∃ C, ExV K mg "NoText" C
  B : Bl3 mg
  kt : Kit K
section
variable [L2.TabP] {P : Program} {w : World} {K : PySem.W.Frag} {mg : Str → Option Value} {base : Heap}
def b_read_fence : MSx :=
    (xSeq (xIf (tOrM (tNotM (cT (c3 oLe oLe (cK (.int 1)) (cB fLenS (cCons (cVar 0) cNil)) (cK (.int 60))))) (tNotM (cT (cB fAll (cCons (cComp 1 [] (iS (cVar 0)) tYes (cTabIn false ktab_FIGURES (cVar 0))) cNil))))) (xRaise (cCons (cK (.str "a number is written by one to sixty figures")) cNil)) xPass)
    (xSeq (xIf (tAndM (cT (cM1 fStarts (cVar 0) (cCons (cK (.str "0")) cNil))) (cT (c2 oNe (cVar 0) (cK (.str "0"))))) (xRaise (cCons (cK (.str "no 0 stands ahead")) cNil)) xPass)
    (xOf (cRet (cB fIntT (cCons (cVar 0) cNil))))))
def m_read_fence : MFX := fnX 1 1 b_read_fence
theorem has_read_fence (T : Txt P w K mg) {C : Addr} (V : ExV K mg "NoText" C) : HasX P w K mg base "read_fence" ["text"] 1 (spX K mg C m_read_fence) := by
  show HasX P w K mg base _ _ _ (spX K mg C (fnX 1 1 b_read_fence))
  refine has_x (k := 0) T.d_read_fence sc_read_fence rfl rfl fun f cdv A outer s H E hr L => ?_
  have hu := hr.units
  refine @WXss.un _ _ _ _ _ _ ?_
  exact (wxs_cons (wx_if (WW.ct (ww_or (wt_not (wt_chain op_le bLe op_le bLe we_int (we_callB call_len_str kLenS rfl T.B.len bt_len (wa_cons (we_var 0) wa_nil)) (we_k (pe_globR rfl T.g_MOST_FIGURES) fun _ _ => rfl))) (ww_or1 (wt_not (wt_val (we_callB (call_all rfl) kAll rfl T.B.all bt_all (wa_cons (we_comp (esc := (defScope s_read_fence)) (EN := ["text"]) (N := ["sign"]) (n := 1) (cap := []) ⟨rfl, by decide +kernel, by decide +kernel, by decide +kernel, by decide +kernel, rfl, by decide +kernel⟩ (by decide) (wc_str (we_var 0)) rfl (fun _ _ _ _ => ⟨Or.inl rfl, rfl⟩) (fun _ _ _ _ => wfs_nil) (fun _ _ _ _ => (we_tabin T.k_FIGURES rfl (we_var 0)))) wa_nil))))))) (wxs_one (wx_raise V rfl rfl L (wa_cons we_str wa_nil))) wxs_nil)
    (wxs_cons (wx_if (WW.ct (ww_and (wt_val (we_strM PySem.F.slot_str_startswith PySem.F.type_str_startswith mt_starts bmStarts os_starts (we_var 0) (wa_cons we_str wa_nil))) (ww_and1 (wt_cmp (op_neD hu) bNe (we_var 0) we_str (nomark _))))) (wxs_one (wx_raise V rfl rfl L (wa_cons we_str wa_nil))) wxs_nil)
    (wxs_one (wx_of (ws_ret (we_callTy call_int_text kIntT rfl T.B.int' bt_int (wa_cons (we_var 0) wa_nil)))))))
def b_read_number : MSx :=
    (xSeq (xIf (tNotM (cT (cM1 fStarts (cVar 0) (cCons (cK (.str "-")) cNil)))) (xRetC m_read_fence (cCons (cVar 0) cNil)) xPass)
    (xSeq (xIf (cT (c2 oEq (cVar 0) (cK (.str "-0")))) (xRaise (cCons (cK (.str "0 is written without a sign")) cNil)) xPass)
    (xRetN m_read_fence (cCons (cSlS (cVar 0) (cPart (cK (.int 1))) cNoPart) cNil))))
def m_read_number : MFX := fnX 1 1 b_read_number
theorem has_read_number (T : Txt P w K mg) {C : Addr} (V : ExV K mg "NoText" C) : HasX P w K mg base "read_number" ["text"] 2 (spX K mg C m_read_number) := by
  show HasX P w K mg base _ _ _ (spX K mg C (fnX 1 1 b_read_number))
  refine has_x (k := 1) T.d_read_number sc_read_number rfl rfl fun f cdv A outer s H E hr L => ?_
  have hu := hr.units
  refine @WXss.un _ _ _ _ _ _ ?_
  exact (wxs_cons (wx_if (wt_not (wt_val (we_strM PySem.F.slot_str_startswith PySem.F.type_str_startswith mt_starts bmStarts os_starts (we_var 0) (wa_cons we_str wa_nil)))) (wxs_one (wx_retC (has_read_fence T V) (hr.mono (by omega)) (by exact rfl) L (wa_cons (we_var 0) wa_nil))) wxs_nil)
    (wxs_cons (wx_if (wt_cmp (op_eqD hu) bEq (we_var 0) we_str (nomark _)) (wxs_one (wx_raise V rfl rfl L (wa_cons we_str wa_nil))) wxs_nil)
    (wxs_one (wx_retN (has_read_fence T V) (hr.mono (by omega)) (by exact rfl) L (wa_cons (we_sliceS (we_var 0) (wo_some we_int) wo_none) wa_nil)))))
def b_law_cell_at_1 : MS :=
    (cRet (cK (.int 0)))
def b_law_cell_at : MS :=
    cSeq (cIfS (cT (c2 oLt (cVar 1) (cB fLen (cCons (cVar 0) cNil)))) (cRet (c2 oIx (cVar 0) (cVar 1))) cPass) b_law_cell_at_1
def m_law_cell_at : MF := fnOf 2 2 b_law_cell_at
theorem has_law_cell_at (T : Txt P w K mg) : Has P w K mg base "_law_cell_at" ["script", "k"] 1 (spF K mg m_law_cell_at) := by
  show Has P w K mg base _ _ _ (spF K mg (fnOf 2 2 b_law_cell_at))
  refine has_of (k := 0) T.d_law_cell_at sc_law_cell_at rfl rfl fun f cdv A outer s H E hr => ?_
  have hu := hr.units
  refine @WSs.un _ _ _ _ ?_
  refine @wss_cons _ _ _ _ _ _ ?_ (@wss_one _ _ _ _ ?_)
  · exact (ws_if (wt_cmp op_lt bLt (we_var 1) (we_callB call_len_seq kLen rfl T.B.len bt_len (wa_cons (we_var 0) wa_nil)) (nomark _)) (wss_one (ws_ret (we_ix ix_seq bIx (we_var 0) (we_var 1) (fun _ _ => rfl)))) wss_nil)
  · exact (ws_ret we_int)
def l_law_same_0 (self : MF) : MS :=
    (cIfS (tNotM (cT (cCall self (cCons (cVar 2) (cCons (cVar 3) cNil))))) (cRet (cK (.bl false))) cPass)
def b_law_same_4 (self : MF) : MS :=
    (cRet (cAnd (cB fIsi (cCons (cVar 0) (cCons (cK (.ty "str")) cNil))) (c2 oEq (cVar 0) (cVar 1))))
def b_law_same_3 (self : MF) : MS :=
    cSeq (cIfS (cT (cB fIsi (cCons (cVar 1) (cCons (cK (.ty "int")) cNil)))) (cRet (cAnd (cB fIsi (cCons (cVar 0) (cCons (cK (.ty "int")) cNil))) (cAnd (cNot (cB fIsi (cCons (cVar 0) (cCons (cK (.ty "bool")) cNil)))) (c2 oEq (cVar 0) (cVar 1))))) cPass) (b_law_same_4 self)
def b_law_same_2 (self : MF) : MS :=
    cSeq (cIfS (cT (cB fIsi (cCons (cVar 1) (cCons (cK (.ty "bool")) cNil)))) (cRet (cAnd (cB fIsi (cCons (cVar 0) (cCons (cK (.ty "bool")) cNil))) (c2 oEq (cVar 0) (cVar 1)))) cPass) (b_law_same_3 self)
def b_law_same_1 (self : MF) : MS :=
    cSeq (cIfS (cT (c2 oIsN (cVar 1) (cK (.non)))) (cRet (c2 oIsN (cVar 0) (cK (.non)))) cPass) (b_law_same_2 self)
def b_law_same (self : MF) : MS :=
    cSeq (cIfS (cT (cB fIsi2 (cCons (cVar 1) (cCons (cTup (cCons (cK (.ty "tuple")) (cCons (cK (.ty "list")) cNil))) cNil)))) (cSeq (cIfS (tOrM (tNotM (cT (cB fIsi2 (cCons (cVar 0) (cCons (cTup (cCons (cK (.ty "tuple")) (cCons (cK (.ty "list")) cNil))) cNil))))) (cT (c2 oNe (cB fIsi (cCons (cVar 0) (cCons (cK (.ty "tuple")) cNil))) (cB fIsi (cCons (cVar 1) (cCons (cK (.ty "tuple")) cNil)))))) (cRet (cK (.bl false))) cPass)
    (cSeq (cIfS (cT (c2 oNe (cB fLen (cCons (cVar 0) cNil)) (cB fLen (cCons (cVar 1) cNil)))) (cRet (cK (.bl false))) cPass)
    (cSeq (cForZ [2, 3] (cCons (cVar 0) (cCons (cVar 1) cNil)) (l_law_same_0 self))
    (cRet (cK (.bl true)))))) cPass) (b_law_same_1 self)
def m_law_same : Nat → MF
  | 0 => fun _ => bad
  | n + 1 => fnOf 2 4 (b_law_same (m_law_same n))
theorem has_law_same (T : Txt P w K mg) : ∀ n, Has P w K mg base "_law_same" ["found", "due"] (n + 1) (spF K mg (m_law_same n))
  | 0 => T.d_law_same.none (by rintro vs H Q E ⟨O, ds, r, S', _, _, h, _⟩; cases h)
  | n + 1 => by
    have ih : Has P w K mg base "_law_same" ["found", "due"] (n + 1) (spF K mg (m_law_same n)) := has_law_same T n
    show Has P w K mg base _ _ _ (spF K mg (fnOf 2 4 (b_law_same (m_law_same n))))
    refine (has_of (k := n + 1) T.d_law_same sc_law_same rfl rfl fun f cdv A outer s H E hr => ?_).mono (by omega)
    have hu := hr.units
    refine @WSs.un _ _ _ _ ?_
    refine @wss_cons _ _ _ _ _ _ ?_ (@wss_cons _ _ _ _ _ _ ?_ (@wss_cons _ _ _ _ _ _ ?_ (@wss_cons _ _ _ _ _ _ ?_ (@wss_one _ _ _ _ ?_))))
    · exact (ws_if (wt_val (we_callB (call_isi2 T.kt) kIsi2 rfl T.B.isinstance bt_isinstance (wa_cons (we_var 1) (wa_cons (we_tup (wa_cons (we_k (pe_bltn (v := .ty "tuple") rfl T.B.tuple' bt_tuple rfl) fun _ _ => rfl) (wa_cons (we_k (pe_bltn (v := .ty "list") rfl T.B.list' bt_list rfl) fun _ _ => rfl) wa_nil))) wa_nil)))) (wss_cons (ws_if (WW.ct (ww_or (wt_not (wt_val (we_callB (call_isi2 T.kt) kIsi2 rfl T.B.isinstance bt_isinstance (wa_cons (we_var 0) (wa_cons (we_tup (wa_cons (we_k (pe_bltn (v := .ty "tuple") rfl T.B.tuple' bt_tuple rfl) fun _ _ => rfl) (wa_cons (we_k (pe_bltn (v := .ty "list") rfl T.B.list' bt_list rfl) fun _ _ => rfl) wa_nil))) wa_nil))))) (ww_or1 (wt_cmp (op_neD hu) bNe (we_callB (call_isi T.kt) kIsi rfl T.B.isinstance bt_isinstance (wa_cons (we_var 0) (wa_cons (we_k (pe_bltn (v := .ty "tuple") rfl T.B.tuple' bt_tuple rfl) fun _ _ => rfl) wa_nil))) (we_callB (call_isi T.kt) kIsi rfl T.B.isinstance bt_isinstance (wa_cons (we_var 1) (wa_cons (we_k (pe_bltn (v := .ty "tuple") rfl T.B.tuple' bt_tuple rfl) fun _ _ => rfl) wa_nil))) (nomark _))))) (wss_one (ws_ret we_bl)) wss_nil)
    (wss_cons (ws_if (wt_cmp (op_neD hu) bNe (we_callB call_len_seq kLen rfl T.B.len bt_len (wa_cons (we_var 0) wa_nil)) (we_callB call_len_seq kLen rfl T.B.len bt_len (wa_cons (we_var 1) wa_nil)) (nomark _)) (wss_one (ws_ret we_bl)) wss_nil)
    (wss_cons (ws_forZ PassesOwn.never rfl rfl T.B.zip (wa_cons (we_var 0) (wa_cons (we_var 1) wa_nil)) (pgs_names_cons sc_law_same.nd rfl (Or.inl rfl) (pgs_names_cons sc_law_same.nd rfl (Or.inl rfl) pgs_names_nil)) (wss_one (ws_if (wt_not (wt_val (we_call ih (hr.mono (by omega)) rfl (wa_cons (we_var 2) (wa_cons (we_var 3) wa_nil))))) (wss_one (ws_ret we_bl)) wss_nil)))
    (wss_one (ws_ret we_bl))))) wss_nil)
    · exact (ws_if (wt_cmp op_isN bIsN (we_var 1) we_non (nomark _)) (wss_one (ws_ret (we_cmp op_isN bIsN (we_var 0) we_non (nomark _)))) wss_nil)
    · exact (ws_if (wt_val (we_callB (call_isi T.kt) kIsi rfl T.B.isinstance bt_isinstance (wa_cons (we_var 1) (wa_cons (we_k (pe_bltn (v := .ty "bool") rfl T.B.bool' bt_bool rfl) fun _ _ => rfl) wa_nil)))) (wss_one (ws_ret (we_and (we_callB (call_isi T.kt) kIsi rfl T.B.isinstance bt_isinstance (wa_cons (we_var 0) (wa_cons (we_k (pe_bltn (v := .ty "bool") rfl T.B.bool' bt_bool rfl) fun _ _ => rfl) wa_nil))) (we_one (we_cmp (op_eqD hu) bEq (we_var 0) (we_var 1) (nomark _)))))) wss_nil)
    · exact (ws_if (wt_val (we_callB (call_isi T.kt) kIsi rfl T.B.isinstance bt_isinstance (wa_cons (we_var 1) (wa_cons (we_k (pe_bltn (v := .ty "int") rfl T.B.int' bt_int rfl) fun _ _ => rfl) wa_nil)))) (wss_one (ws_ret (we_and (we_callB (call_isi T.kt) kIsi rfl T.B.isinstance bt_isinstance (wa_cons (we_var 0) (wa_cons (we_k (pe_bltn (v := .ty "int") rfl T.B.int' bt_int rfl) fun _ _ => rfl) wa_nil))) (we_and (we_not (we_callB (call_isi T.kt) kIsi rfl T.B.isinstance bt_isinstance (wa_cons (we_var 0) (wa_cons (we_k (pe_bltn (v := .ty "bool") rfl T.B.bool' bt_bool rfl) fun _ _ => rfl) wa_nil)))) (we_one (we_cmp (op_eqD hu) bEq (we_var 0) (we_var 1) (nomark _))))))) wss_nil)
    · exact (ws_ret (we_and (we_callB (call_isi T.kt) kIsi rfl T.B.isinstance bt_isinstance (wa_cons (we_var 0) (wa_cons (we_k (pe_bltn (v := .ty "str") rfl T.B.str' bt_str rfl) fun _ _ => rfl) wa_nil))) (we_one (we_cmp (op_eqD hu) bEq (we_var 0) (we_var 1) (nomark _)))))
def b_law_odd_2 : MS :=
    (cRet (c2 oIx (cVar 1) (c2 oMod (cVar 0) (cK (.int 25)))))
def b_law_odd_1 : MS :=
    cSeq (cSet 1 (c2 oCatL (cVar 1) (cLst (cCons (cK (.str "-01")) (cCons (cK (.str "- 1")) (cCons (cK (.str "1 0")) (cCons (cK (.str "1.")) (cCons (cK (.str ".1")) (cCons (cK (.str "-+1")) (cCons (cK (.str "_1")) (cCons (cK (.str "1_")) (cCons (cK (.str "\n")) cNil)))))))))))) b_law_odd_2
def b_law_odd : MS :=
    cSeq (cSet 1 (cLst (cCons (cK (.str "")) (cCons (cK (.str "-")) (cCons (cK (.str "--1")) (cCons (cK (.str "+1")) (cCons (cK (.str "1_0")) (cCons (cK (.str " 1")) (cCons (cK (.str "1 ")) (cCons (cK (.str "1\n")) (cCons (cK (.str "\t1")) (cCons (cK (.str "0")) (cCons (cK (.str "00")) (cCons (cK (.str "-0")) (cCons (cK (.str "-00")) (cCons (cK (.str "1-")) (cCons (cK (.str "1e5")) (cCons (cK (.str "0x1")) cNil)))))))))))))))))) b_law_odd_1
def m_law_odd : MF := fnOf 1 2 b_law_odd
theorem has_law_odd (T : Txt P w K mg) : Has P w K mg base "_law_odd" ["cell"] 1 (spF K mg m_law_odd) := by
  show Has P w K mg base _ _ _ (spF K mg (fnOf 1 2 b_law_odd))
  refine has_of (k := 0) T.d_law_odd sc_law_odd rfl rfl fun f cdv A outer s H E hr => ?_
  have hu := hr.units
  refine @WSs.un _ _ _ _ ?_
  refine @wss_cons _ _ _ _ _ _ ?_ (@wss_cons _ _ _ _ _ _ ?_ (@wss_one _ _ _ _ ?_))
  · exact (ws_set (i := 1) sc_law_odd.nd rfl (Or.inl rfl) (we_lst (wa_cons we_str (wa_cons we_str (wa_cons we_str (wa_cons we_str (wa_cons we_str (wa_cons we_str (wa_cons we_str (wa_cons we_str (wa_cons we_str (wa_cons we_str (wa_cons we_str (wa_cons we_str (wa_cons we_str (wa_cons we_str (wa_cons we_str (wa_cons we_str wa_nil))))))))))))))))))
  · exact (ws_set (i := 1) sc_law_odd.nd rfl (Or.inl rfl) (we_op op_cat bCatL (we_var 1) (we_lst (wa_cons we_str (wa_cons we_str (wa_cons we_str (wa_cons we_str (wa_cons we_str (wa_cons we_str (wa_cons we_str (wa_cons we_str (wa_cons we_str wa_nil))))))))))))
  · exact (ws_ret (we_ix ix_seq bIx (we_var 1) (we_op op_mod bMod (we_var 0) we_int) (fun _ _ => rfl)))
def b_law_text_10 : MS :=
    (cRet (cCall m_law_odd (cCons (c2 oDivB (cVar 1) (cK (.int 8))) cNil)))
def b_law_text_9 : MS :=
    cSeq (cIfS (cT (c2 oEq (cVar 3) (cK (.int 6)))) (cSeq (cSet 4 (cB fStrI (cCons (cVar 2) cNil)))
    (cSeq (cSet 5 (c2 oMod (c2 oDivB (cVar 1) (cK (.int 8))) (c2 oAdd (cB fLenS (cCons (cVar 4) cNil)) (cK (.int 1)))))
    (cRet (c2 oCatS (c2 oCatS (cSlS (cVar 4) cNoPart (cPart (cVar 5))) (c2 oIx (cK (.str "0123456789-+_ .\t\ne")) (c2 oMod (cCall m_law_cell_at (cCons (cVar 0) (cCons (cK (.int 2)) cNil))) (cK (.int 18))))) (cSlS (cVar 4) (cPart (cVar 5)) cNoPart))))) cPass) b_law_text_10
def b_law_text_8 : MS :=
    cSeq (cIfS (cT (c2 oEq (cVar 3) (cK (.int 5)))) (cRet (cM1 fJoin (cK (.str "")) (cCons (cComp 1 [] (iLc (cSl (cVar 0) (cPart (cK (.int 2))) (cPart (cK (.int 72))))) tYes (c2 oIx (cK (.str "0123456789")) (c2 oMod (cVar 0) (cK (.int 10))))) cNil))) cPass) b_law_text_9
def b_law_text_7 : MS :=
    cSeq (cIfS (cT (c2 oEq (cVar 3) (cK (.int 4)))) (cRet (cM1 fJoin (cK (.str "")) (cCons (cComp 1 [] (iLc (cSl (cVar 0) (cPart (cK (.int 2))) (cPart (cK (.int 72))))) tYes (c2 oIx (cK (.str "0123456789-+_ .\t\ne")) (c2 oMod (cVar 0) (cK (.int 18))))) cNil))) cPass) b_law_text_8
def b_law_text_6 : MS :=
    cSeq (cIfS (cT (c2 oEq (cVar 3) (cK (.int 3)))) (cRet (cB fStrI (cCons (c2 oAdd (c2 oPow (cK (.int 10)) (cK (.int 60))) (cVar 2)) cNil))) cPass) b_law_text_7
def b_law_text_5 : MS :=
    cSeq (cIfS (cT (c2 oEq (cVar 3) (cK (.int 2)))) (cRet (c2 oCatS (c2 oIx (cLst (cCons (cK (.str "0")) (cCons (cK (.str "-0")) (cCons (cK (.str "00")) cNil)))) (c2 oMod (c2 oDivB (cVar 1) (cK (.int 8))) (cK (.int 3)))) (cB fStrI (cCons (cVar 2) cNil)))) cPass) b_law_text_6
def b_law_text_4 : MS :=
    cSeq (cIfS (cT (c2 oEq (cVar 3) (cK (.int 1)))) (cRet (c2 oCatS (cK (.str "-")) (cB fStrI (cCons (cVar 2) cNil)))) cPass) b_law_text_5
def b_law_text_3 : MS :=
    cSeq (cIfS (cT (c2 oEq (cVar 3) (cK (.int 0)))) (cRet (cB fStrI (cCons (cVar 2) cNil))) cPass) b_law_text_4
def b_law_text_2 : MS :=
    cSeq (cSet 3 (c2 oMod (cVar 1) (cK (.int 8)))) b_law_text_3
def b_law_text_1 : MS :=
    cSeq (cSet 2 (c2 oMod (cCall m_law_cell_at (cCons (cVar 0) (cCons (cK (.int 1)) cNil))) (c2 oPow (cK (.int 10)) (cK (.int 60))))) b_law_text_2
def b_law_text : MS :=
    cSeq (cSet 1 (cCall m_law_cell_at (cCons (cVar 0) (cCons (cK (.int 0)) cNil)))) b_law_text_1
def m_law_text : MF := fnOf 1 6 b_law_text
theorem has_law_text (T : Txt P w K mg) : Has P w K mg base "_law_text" ["script"] 2 (spF K mg m_law_text) := by
  show Has P w K mg base _ _ _ (spF K mg (fnOf 1 6 b_law_text))
  refine has_of (k := 1) T.d_law_text sc_law_text rfl rfl fun f cdv A outer s H E hr => ?_
  have hu := hr.units
  refine @WSs.un _ _ _ _ ?_
  refine @wss_cons _ _ _ _ _ _ ?_ (@wss_cons _ _ _ _ _ _ ?_ (@wss_cons _ _ _ _ _ _ ?_ (@wss_cons _ _ _ _ _ _ ?_ (@wss_cons _ _ _ _ _ _ ?_ (@wss_cons _ _ _ _ _ _ ?_ (@wss_cons _ _ _ _ _ _ ?_ (@wss_cons _ _ _ _ _ _ ?_ (@wss_cons _ _ _ _ _ _ ?_ (@wss_cons _ _ _ _ _ _ ?_ (@wss_one _ _ _ _ ?_))))))))))
  · exact (ws_set (i := 1) sc_law_text.nd rfl (Or.inl rfl) (we_call (has_law_cell_at T) (hr.mono (by omega)) rfl (wa_cons (we_var 0) (wa_cons we_int wa_nil))))
  · exact (ws_set (i := 2) sc_law_text.nd rfl (Or.inl rfl) (we_op op_mod bMod (we_call (has_law_cell_at T) (hr.mono (by omega)) rfl (wa_cons (we_var 0) (wa_cons we_int wa_nil))) (we_op op_pow bPow we_int we_int)))
  · exact (ws_set (i := 3) sc_law_text.nd rfl (Or.inl rfl) (we_op op_mod bMod (we_var 1) we_int))
  · exact (ws_if (wt_cmp (op_eqD hu) bEq (we_var 3) we_int (nomark _)) (wss_one (ws_ret (we_callTy call_str_int kStrI rfl T.B.str' bt_str (wa_cons (we_var 2) wa_nil)))) wss_nil)
  · exact (ws_if (wt_cmp (op_eqD hu) bEq (we_var 3) we_int (nomark _)) (wss_one (ws_ret (we_op op_add_str bCatS we_str (we_callTy call_str_int kStrI rfl T.B.str' bt_str (wa_cons (we_var 2) wa_nil))))) wss_nil)
  · exact (ws_if (wt_cmp (op_eqD hu) bEq (we_var 3) we_int (nomark _)) (wss_one (ws_ret (we_op op_add_str bCatS (we_ix ix_seq bIx (we_lst (wa_cons we_str (wa_cons we_str (wa_cons we_str wa_nil)))) (we_op op_mod bMod (we_op op_fdivB bDivB (we_var 1) we_int) we_int) (fun _ _ => rfl)) (we_callTy call_str_int kStrI rfl T.B.str' bt_str (wa_cons (we_var 2) wa_nil))))) wss_nil)
  · exact (ws_if (wt_cmp (op_eqD hu) bEq (we_var 3) we_int (nomark _)) (wss_one (ws_ret (we_callTy call_str_int kStrI rfl T.B.str' bt_str (wa_cons (we_op op_add bAdd (we_op op_pow bPow we_int we_int) (we_var 2)) wa_nil)))) wss_nil)
  · exact (ws_if (wt_cmp (op_eqD hu) bEq (we_var 3) we_int (nomark _)) (wss_one (ws_ret (we_strM PySem.F.slot_str_join PySem.F.type_str_join mt_join bmJoin os_join we_str (wa_cons (we_comp (esc := (defScope s_law_text)) (EN := ["script", "first", "number", "way", "text", "at"]) (N := ["cell"]) (n := 1) (cap := []) ⟨rfl, by decide +kernel, by decide +kernel, by decide +kernel, by decide +kernel, rfl, by decide +kernel⟩ (by decide) (wc_list (we_slice (we_var 0) (wo_some we_int) (wo_some we_int))) rfl (fun _ _ _ _ => ⟨Or.inl rfl, rfl⟩) (fun _ _ _ _ => wfs_nil) (fun _ _ _ _ => (we_ix ix_seq bIx we_str (we_op op_mod bMod (we_var 0) we_int) (fun _ _ => rfl)))) wa_nil)))) wss_nil)
  · exact (ws_if (wt_cmp (op_eqD hu) bEq (we_var 3) we_int (nomark _)) (wss_one (ws_ret (we_strM PySem.F.slot_str_join PySem.F.type_str_join mt_join bmJoin os_join we_str (wa_cons (we_comp (esc := (defScope s_law_text)) (EN := ["script", "first", "number", "way", "text", "at"]) (N := ["cell"]) (n := 1) (cap := []) ⟨rfl, by decide +kernel, by decide +kernel, by decide +kernel, by decide +kernel, rfl, by decide +kernel⟩ (by decide) (wc_list (we_slice (we_var 0) (wo_some we_int) (wo_some we_int))) rfl (fun _ _ _ _ => ⟨Or.inl rfl, rfl⟩) (fun _ _ _ _ => wfs_nil) (fun _ _ _ _ => (we_ix ix_seq bIx we_str (we_op op_mod bMod (we_var 0) we_int) (fun _ _ => rfl)))) wa_nil)))) wss_nil)
  · exact (ws_if (wt_cmp (op_eqD hu) bEq (we_var 3) we_int (nomark _)) (wss_cons (ws_set (i := 4) sc_law_text.nd rfl (Or.inl rfl) (we_callTy call_str_int kStrI rfl T.B.str' bt_str (wa_cons (we_var 2) wa_nil)))
    (wss_cons (ws_set (i := 5) sc_law_text.nd rfl (Or.inl rfl) (we_op op_mod bMod (we_op op_fdivB bDivB (we_var 1) we_int) (we_op op_add bAdd (we_callB call_len_str kLenS rfl T.B.len bt_len (wa_cons (we_var 4) wa_nil)) we_int)))
    (wss_one (ws_ret (we_op op_add_str bCatS (we_op op_add_str bCatS (we_sliceS (we_var 4) wo_none (wo_some (we_var 5))) (we_ix ix_seq bIx we_str (we_op op_mod bMod (we_call (has_law_cell_at T) (hr.mono (by omega)) rfl (wa_cons (we_var 0) (wa_cons we_int wa_nil))) we_int) (fun _ _ => rfl))) (we_sliceS (we_var 4) (wo_some (we_var 5)) wo_none)))))) wss_nil)
  · exact (ws_ret (we_call (has_law_odd T) (hr.mono (by omega)) rfl (wa_cons (we_op op_fdivB bDivB (we_var 1) we_int) wa_nil)))
def l_law_due_0 : MS :=
    (cSeq (cIfS (cT (c2 (oInS true) (cVar 2) (cK (.str "0123456789")))) (cRet (cTup (cCons (cK (.str "refused")) cNil))) cPass)
    (cSet 1 (c2 oAdd (c2 oMulB (cK (.int 10)) (cVar 1)) (cM1 fFind (cK (.str "0123456789")) (cCons (cVar 2) cNil)))))
def b_law_due_3 : MS :=
    (cRet (cTup (cCons (cK (.str "told")) (cCons (cVar 1) cNil))))
def b_law_due_2 : MS :=
    cSeq (cFor 2 (iS (cVar 0)) l_law_due_0) b_law_due_3
def b_law_due_1 : MS :=
    cSeq (cSet 1 (cK (.int 0))) b_law_due_2
def b_law_due : MS :=
    cSeq (cIfS (tOrM (cT (c2 oLt (cB fLenS (cCons (cVar 0) cNil)) (cK (.int 1)))) (tOrM (cT (c2 oGt (cB fLenS (cCons (cVar 0) cNil)) (cK (.int 60)))) (tAndM (cT (c2 oEq (c2 oIx (cVar 0) (cK (.int 0))) (cK (.str "0")))) (cT (c2 oGt (cB fLenS (cCons (cVar 0) cNil)) (cK (.int 1))))))) (cRet (cTup (cCons (cK (.str "refused")) cNil))) cPass) b_law_due_1
def m_law_due : MF := fnOf 1 3 b_law_due
theorem has_law_due (T : Txt P w K mg) : Has P w K mg base "_law_due" ["text"] 1 (spF K mg m_law_due) := by
  show Has P w K mg base _ _ _ (spF K mg (fnOf 1 3 b_law_due))
  refine has_of (k := 0) T.d_law_due sc_law_due rfl rfl fun f cdv A outer s H E hr => ?_
  have hu := hr.units
  refine @WSs.un _ _ _ _ ?_
  refine @wss_cons _ _ _ _ _ _ ?_ (@wss_cons _ _ _ _ _ _ ?_ (@wss_cons _ _ _ _ _ _ ?_ (@wss_one _ _ _ _ ?_)))
  · exact (ws_if (WW.ct (ww_or (wt_cmp op_lt bLt (we_callB call_len_str kLenS rfl T.B.len bt_len (wa_cons (we_var 0) wa_nil)) we_int (nomark _)) (ww_or (wt_cmp op_gt bGt (we_callB call_len_str kLenS rfl T.B.len bt_len (wa_cons (we_var 0) wa_nil)) we_int (nomark _)) (ww_or1 (WW.ct (ww_and (wt_cmp (op_eqD hu) bEq (we_ix ix_seq bIx (we_var 0) we_int (fun _ _ => rfl)) we_str (nomark _)) (ww_and1 (wt_cmp op_gt bGt (we_callB call_len_str kLenS rfl T.B.len bt_len (wa_cons (we_var 0) wa_nil)) we_int (nomark _))))))))) (wss_one (ws_ret (we_tup (wa_cons we_str wa_nil)))) wss_nil)
  · exact (ws_set (i := 1) sc_law_due.nd rfl (Or.inl rfl) we_int)
  · exact (ws_for (i := 2) PassesOwn.never rfl (wf_str (we_var 0)) sc_law_due.nd rfl (Or.inl rfl) (wss_cons (ws_if (wt_cmp op_notin_str bNotInS (we_var 2) we_str rfl) (wss_one (ws_ret (we_tup (wa_cons we_str wa_nil)))) wss_nil)
    (wss_one (ws_set (i := 1) sc_law_due.nd rfl (Or.inl rfl) (we_op op_add bAdd (we_op op_mulB bMulB we_int (we_var 1)) (we_strM PySem.F.slot_str_find PySem.F.type_str_find mt_find bmFind os_find we_str (wa_cons (we_var 2) wa_nil)))))))
  · exact (ws_ret (we_tup (wa_cons we_str (wa_cons (we_var 1) wa_nil))))
def b_law_due_below_2 : MS :=
    (cRet (cTup (cCons (cK (.str "told")) (cCons (c2 oSub (cK (.int 0)) (c2 oIx (cVar 1) (cK (.int 1)))) cNil))))
def b_law_due_below_1 : MS :=
    cSeq (cIfS (tOrM (cT (c2 oNe (cSlS (cVar 0) cNoPart (cPart (cK (.int 1)))) (cK (.str "-")))) (tOrM (cT (c2 oEq (cVar 1) (cTup (cCons (cK (.str "refused")) cNil)))) (cT (c2 oEq (c2 oIx (cVar 1) (cK (.int 1))) (cK (.int 0)))))) (cRet (cCall m_law_due (cCons (cVar 0) cNil))) cPass) b_law_due_below_2
def b_law_due_below : MS :=
    cSeq (cSet 1 (cCall m_law_due (cCons (cSlS (cVar 0) (cPart (cK (.int 1))) cNoPart) cNil))) b_law_due_below_1
def m_law_due_below : MF := fnOf 1 2 b_law_due_below
theorem has_law_due_below (T : Txt P w K mg) : Has P w K mg base "_law_due_below" ["text"] 2 (spF K mg m_law_due_below) := by
  show Has P w K mg base _ _ _ (spF K mg (fnOf 1 2 b_law_due_below))
  refine has_of (k := 1) T.d_law_due_below sc_law_due_below rfl rfl fun f cdv A outer s H E hr => ?_
  have hu := hr.units
  refine @WSs.un _ _ _ _ ?_
  refine @wss_cons _ _ _ _ _ _ ?_ (@wss_cons _ _ _ _ _ _ ?_ (@wss_one _ _ _ _ ?_))
  · exact (ws_set (i := 1) sc_law_due_below.nd rfl (Or.inl rfl) (we_call (has_law_due T) (hr.mono (by omega)) rfl (wa_cons (we_sliceS (we_var 0) (wo_some we_int) wo_none) wa_nil)))
  · exact (ws_if (WW.ct (ww_or (wt_cmp (op_neD hu) bNe (we_sliceS (we_var 0) wo_none (wo_some we_int)) we_str (nomark _)) (ww_or (wt_cmp (op_eqD hu) bEq (we_var 1) (we_tup (wa_cons we_str wa_nil)) (nomark _)) (ww_or1 (wt_cmp (op_eqD hu) bEq (we_ix ix_seq bIx (we_var 1) we_int (fun _ _ => rfl)) we_int (nomark _)))))) (wss_one (ws_ret (we_call (has_law_due T) (hr.mono (by omega)) rfl (wa_cons (we_var 0) wa_nil)))) wss_nil)
  · exact (ws_ret (we_tup (wa_cons we_str (wa_cons (we_op op_sub bSub we_int (we_ix ix_seq bIx (we_var 1) we_int (fun _ _ => rfl))) wa_nil))))
def b_law_read_2 : MS :=
    (cRet (cVar 1))
def b_law_read_1 : MS :=
    cSeq (cTry 1 "told" m_read_number (cCons (cVar 0) cNil) (cSet 1 (cTup (cCons (cK (.str "refused")) cNil)))) b_law_read_2
def b_law_read : MS :=
    cSeq (cSet 1 (cTup (cCons (cK (.str "refused")) cNil))) b_law_read_1
def m_law_read : MF := fnOf 1 2 b_law_read
theorem has_law_read (T : Txt P w K mg) : Has P w K mg base "_law_read" ["text"] 3 (spF K mg m_law_read) := by
  show Has P w K mg base _ _ _ (spF K mg (fnOf 1 2 b_law_read))
  refine has_of (k := 2) T.d_law_read sc_law_read rfl rfl fun f cdv A outer s H E hr => ?_
  have hu := hr.units
  obtain ⟨C, V⟩ := T.x_NoText
  refine @WSs.un _ _ _ _ ?_
  refine @wss_cons _ _ _ _ _ _ ?_ (@wss_cons _ _ _ _ _ _ ?_ (@wss_one _ _ _ _ ?_))
  · exact (ws_set (i := 1) sc_law_read.nd rfl (Or.inl rfl) (we_tup (wa_cons we_str wa_nil)))
  · exact (ws_try (i := 1) V (has_read_number T V) (hr.mono (by omega)) rfl rfl rfl ⟨rfl, rfl⟩ sc_law_read.nd rfl (Or.inl rfl) (wa_cons (we_var 0) wa_nil) (fun a xe => wss_one (ws_set (i := 1) sc_law_read.nd rfl (Or.inl rfl) (we_tup (wa_cons we_str wa_nil)))))
  · exact (ws_ret (we_var 1))
def b_law_read_fence_2 : MS :=
    (cRet (cVar 1))
def b_law_read_fence_1 : MS :=
    cSeq (cTry 1 "told" m_read_fence (cCons (cVar 0) cNil) (cSet 1 (cTup (cCons (cK (.str "refused")) cNil)))) b_law_read_fence_2
def b_law_read_fence : MS :=
    cSeq (cSet 1 (cTup (cCons (cK (.str "refused")) cNil))) b_law_read_fence_1
def m_law_read_fence : MF := fnOf 1 2 b_law_read_fence
theorem has_law_read_fence (T : Txt P w K mg) : Has P w K mg base "_law_read_fence" ["text"] 2 (spF K mg m_law_read_fence) := by
  show Has P w K mg base _ _ _ (spF K mg (fnOf 1 2 b_law_read_fence))
  refine has_of (k := 1) T.d_law_read_fence sc_law_read_fence rfl rfl fun f cdv A outer s H E hr => ?_
  have hu := hr.units
  obtain ⟨C, V⟩ := T.x_NoText
  refine @WSs.un _ _ _ _ ?_
  refine @wss_cons _ _ _ _ _ _ ?_ (@wss_cons _ _ _ _ _ _ ?_ (@wss_one _ _ _ _ ?_))
  · exact (ws_set (i := 1) sc_law_read_fence.nd rfl (Or.inl rfl) (we_tup (wa_cons we_str wa_nil)))
  · exact (ws_try (i := 1) V (has_read_fence T V) (hr.mono (by omega)) rfl rfl rfl ⟨rfl, rfl⟩ sc_law_read_fence.nd rfl (Or.inl rfl) (wa_cons (we_var 0) wa_nil) (fun a xe => wss_one (ws_set (i := 1) sc_law_read_fence.nd rfl (Or.inl rfl) (we_tup (wa_cons we_str wa_nil)))))
  · exact (ws_ret (we_var 1))
def b_law_2 : MS :=
    (cRet (cCall (m_law_same 4) (cCons (cCall m_law_read (cCons (cVar 1) cNil)) (cCons (cCall m_law_due_below (cCons (cVar 1) cNil)) cNil))))
def b_law_1 : MS :=
    cSeq (cIfS (tNotM (cT (cCall (m_law_same 4) (cCons (cCall m_law_read_fence (cCons (cVar 1) cNil)) (cCons (cCall m_law_due (cCons (cVar 1) cNil)) cNil))))) (cRet (cK (.bl false))) cPass) b_law_2
def b_law : MS :=
    cSeq (cSet 1 (cCall m_law_text (cCons (cVar 0) cNil))) b_law_1
def m_law : MF := fnOf 1 2 b_law
theorem ok_law (T : Txt P w K mg) {f : Addr} {fd : FuncData} (F : Fun K "law" "law" s_law f fd) : FnOk P w K mg base CX0 6 f fd ["script"] (spF K mg m_law) := by
  show FnOk P w K mg base CX0 _ f fd _ (spF K mg (fnOf 1 2 b_law))
  refine fn_sim (k := 5) F sc_law rfl rfl fun cdv A outer s H E hr => ?_
  have hu := hr.units
  refine @WSs.un _ _ _ _ ?_
  refine @wss_cons _ _ _ _ _ _ ?_ (@wss_cons _ _ _ _ _ _ ?_ (@wss_one _ _ _ _ ?_))
  · exact (ws_set (i := 1) sc_law.nd rfl (Or.inl rfl) (we_call (has_law_text T) (hr.mono (by omega)) rfl (wa_cons (we_var 0) wa_nil)))
  · exact (ws_if (wt_not (wt_val (we_call (has_law_same T 4) (hr.mono (by omega)) rfl (wa_cons (we_call (has_law_read_fence T) (hr.mono (by omega)) rfl (wa_cons (we_var 1) wa_nil)) (wa_cons (we_call (has_law_due T) (hr.mono (by omega)) rfl (wa_cons (we_var 1) wa_nil)) wa_nil))))) (wss_one (ws_ret we_bl)) wss_nil)
  · exact (ws_ret (we_call (has_law_same T 4) (hr.mono (by omega)) rfl (wa_cons (we_call (has_law_read T) (hr.mono (by omega)) rfl (wa_cons (we_var 1) wa_nil)) (wa_cons (we_call (has_law_due_below T) (hr.mono (by omega)) rfl (wa_cons (we_var 1) wa_nil)) wa_nil))))
end
end K82

set_option Elab.async false
set_option linter.all false
set_option maxRecDepth 100000
set_option maxHeartbeats 1000000
namespace L3
open PySem PySem.Spec L2
/-! ### plain data that is like itself -/
mutual
def D.wid : D → Bool
  | .tup xs => decide (xs.length ≤ 1000) && widAll xs
  | .lst xs => decide (xs.length ≤ 1000) && widAll xs
  | .dic _ _ => true
  | .fn _ => true
  | .ty _ => true
  | .non => true
  | .bl _ => true
  | .int _ => true
  | .str _ => true
def widAll : List D → Bool
  | [] => true
  | x :: xs => x.wid && widAll xs
end
theorem widAll_iff : ∀ {xs : List D}, widAll xs = true ↔ ∀ x ∈ xs, x.wid = true
  | [] => by simp [widAll]
  | x :: xs => by simp [widAll, widAll_iff]
theorem gdAll_iff : ∀ {xs : List D} {n : Nat}, gdAll xs n = true ↔ ∀ x ∈ xs, x.gd n = true
  | [], _ => by simp [gdAll]
  | x :: xs, n => by simp [gdAll, gdAll_iff]
/-- plain, at most n deep, not wide -/
def Ok (n : Nat) (d : D) : Prop := d.gd n = true ∧ d.wid = true
theorem ok_int {n : Nat} {i : Int} : Ok n (.int i) := ⟨rfl, rfl⟩
theorem ok_str {n : Nat} {x : Str} (h : PySem.PyData.strOk x = true) : Ok n (.str x) := ⟨h, rfl⟩
theorem ok_tup {n : Nat} {xs : List D} (hl : xs.length ≤ 1000) (h : ∀ x ∈ xs, Ok n x) : Ok (n + 1) (.tup xs) :=
  ⟨gdAll_iff.mpr fun x hx => (h x hx).1, by show (decide (xs.length ≤ 1000) && widAll xs) = true; rw [decide_eq_true hl, widAll_iff.mpr fun x hx => (h x hx).2]; rfl⟩
theorem gd_mono : ∀ {d : D} {n m : Nat}, n ≤ m → d.gd n = true → d.gd m = true := by
  intro d
  induction d using D.rec (motive_2 := fun ds => ∀ n m, n ≤ m → gdAll ds n = true → gdAll ds m = true) with
  | non => exact fun _ h => h
  | bl _ => exact fun _ h => h
  | int _ => exact fun _ h => h
  | str _ => exact fun _ h => h
  | fn _ => exact fun _ h => h
  | ty _ => exact fun _ h => h
  | dic _ _ _ => exact fun _ h => h
  | tup xs ih =>
    intro n m hm h
    cases n with
    | zero => cases h
    | succ n =>
      cases m with
      | zero => omega
      | succ m => exact ih n m (by omega) h
  | lst xs ih =>
    intro n m hm h
    cases n with
    | zero => cases h
    | succ n =>
      cases m with
      | zero => omega
      | succ m => exact ih n m (by omega) h
  | nil => rfl
  | cons x xs ih1 ih2 =>
    rename_i n m hm h
    have h : (x.gd n && gdAll xs n) = true := h
    rw [Bool.and_eq_true] at h
    show (x.gd m && gdAll xs m) = true
    rw [ih1 hm h.1, ih2 n m hm h.2]; rfl
theorem ok_mono {n m : Nat} {d : D} (h : Ok n d) (hm : n ≤ m) : Ok m d := ⟨gd_mono hm h.1, h.2⟩
theorem ok1 {n : Nat} {a : D} (h : Ok n a) : Ok (n + 1) (.tup [a]) := ok_tup (by simp) fun x hx => by rw [List.mem_singleton.mp hx]; exact h
theorem ok2 {n : Nat} {a b : D} (h1 : Ok n a) (h2 : Ok n b) : Ok (n + 1) (.tup [a, b]) := ok_tup (by simp) (by simp only [List.forall_mem_cons]; exact ⟨h1, h2, fun _ h => nomatch h⟩)
/-- one of a few -/
theorem pick (P : D → Prop) (xs : List D) (c k : Int) (hk : (xs.length : Int) = k) (h0 : 0 < k) (h : ∀ x ∈ xs, P x) : ∃ v, atI xs (c % k) = some v ∧ P v := by
  have hm := mod_lt (a := c) h0
  obtain ⟨v, e⟩ := atI_some (xs := xs) (i := c % k) hm.1 (by rw [hk]; exact hm.2)
  exact ⟨v, e, h v (atI_mem e)⟩
@[simp] theorem e_isnw {xs : List D} : R.isN (.vw xs) = false := rfl
@[simp] theorem e_isnl {xs : List D} : R.isN (.v (.lst xs)) = false := rfl
@[simp] theorem e_isnb {b : Bool} : R.isN (.v (.bl b)) = false := rfl
@[simp] theorem e_lenS {z : Str} : fLenS [.v (.str z)] = if z.length ≤ sizeLine then pure (.v (.int (z.length : Nat))) else bad := rfl
@[simp] theorem e_catS {x y : Str} : oCatS (.v (.str x)) (.v (.str y)) = if x.length + y.length ≤ sizeLine then pure (.v (.str (x ++ y))) else bad := rfl
theorem eq_bl (b : Bool) : oEq (.v (.bl b)) (.v (.bl b)) = pure (.v (.bl true)) := by rw [e_eq rfl rfl]; simp [peq]
theorem eq_str {x : Str} (h : PySem.PyData.strOk x = true) : oEq (.v (.str x)) (.v (.str x)) = pure (.v (.bl true)) := by rw [e_eq (x := .v (.str x)) (y := .v (.str x)) h h]; simp [peq]
end L3

set_option Elab.async false
set_option linter.all false
set_option maxRecDepth 100000
set_option maxHeartbeats 1000000
namespace L3
open PySem PySem.Spec L2
end L3

set_option Elab.async false
set_option linter.all false
set_option maxRecDepth 100000
set_option maxHeartbeats 1000000
namespace L3
open PySem PySem.Spec L2
end L3
namespace L3
open PySem PySem.Spec L2
theorem cut_ints (ns : List Int) (a b : Nat) : ∃ ms : List Int, cutD (ns.map D.int) (some (a : Int)) (some (b : Int)) = ms.map D.int ∧ ms.length ≤ b - a := by
  unfold cutD
  rw [HT.sIx_nat, HT.sIx_nat, ← List.map_drop, ← List.map_take]
  refine ⟨_, rfl, ?_⟩
  rw [List.length_take, List.length_drop]
  simp only [List.length_map]
  omega
end L3

set_option Elab.async false
set_option linter.all false
set_option maxRecDepth 100000
set_option maxHeartbeats 1000000
namespace L3
open PySem PySem.Spec L2
/-! ### names, as texts and as keys -/
def tx (a : List Nat) : Str := ⟨a.toArray⟩
abbrev cd (s : Str) : List Nat := s.cps.toList
theorem tx_cd (s : Str) : tx (cd s) = s := by
  unfold tx
  rw [Array.toArray_toList]
theorem cd_tx (a : List Nat) : cd (tx a) = a := rfl
theorem tx_inj {a b : List Nat} : tx a = tx b ↔ a = b := ⟨fun h => by rw [← cd_tx a, h, cd_tx], fun h => by rw [h]⟩
theorem eq_txt {a b : List Nat} (ha : PySem.PyData.strOk (tx a) = true) (hb : PySem.PyData.strOk (tx b) = true) : oEq (.v (.str (tx a))) (.v (.str (tx b))) = pure (.v (.bl (decide (a = b)))) := by
  rw [e_eq (x := .v (.str (tx a))) (y := .v (.str (tx b))) ha hb]
  show pure (R.v (D.bl (tx a == tx b))) = _
  congr 3
  rw [Bool.eq_iff_iff, beq_iff_eq, decide_eq_true_eq, tx_inj]
theorem ne_txt {a b : List Nat} (ha : PySem.PyData.strOk (tx a) = true) (hb : PySem.PyData.strOk (tx b) = true) : oNe (.v (.str (tx a))) (.v (.str (tx b))) = pure (.v (.bl (!decide (a = b)))) := by
  rw [e_ne (x := .v (.str (tx a))) (y := .v (.str (tx b))) ha hb]
  show pure (R.v (D.bl (!(tx a == tx b)))) = _
  congr 4
  rw [Bool.eq_iff_iff, beq_iff_eq, decide_eq_true_eq, tx_inj]
theorem strOk_iff {a : List Nat} : PySem.PyData.strOk (tx a) = true ↔ ∀ c ∈ a, c < 0x110000 := by
  unfold PySem.PyData.strOk tx
  rw [List.all_toArray, List.all_eq_true]
  simp
theorem tx_len (a : List Nat) : (tx a).length = a.length := by
  show a.toArray.size = _
  simp
theorem tx_app (a b : List Nat) : tx a ++ tx b = tx (a ++ b) := by
  show (⟨a.toArray ++ b.toArray⟩ : Str) = _
  unfold tx
  simp
theorem cutS_tx (a : List Nat) (lo hi : Option Int) : cutS (tx a) lo hi = tx (cutD a lo hi) := rfl
theorem cut_hi {α : Type} (xs : List α) (k : Nat) (h : k ≤ xs.length) : cutD xs none (some (k : Int)) = xs.take k := by
  unfold cutD
  rw [HT.sIx_nat, HT.sIx_none, List.drop_zero, Nat.sub_zero, Nat.min_eq_left h]
theorem cut_lo {α : Type} (xs : List α) (k : Nat) (h : k ≤ xs.length) : cutD xs (some (k : Int)) none = xs.drop k := by
  unfold cutD
  rw [HT.sIx_nat, HT.sIx_none, Nat.min_eq_left h, List.take_of_length_le (by rw [List.length_drop]; omega)]
end L3
namespace K82
open PySem PySem.Spec L2 L3 PySem.NumText
/-! ### digits, texts -/
def dg (c : Nat) : Bool := decide (48 ≤ c ∧ c ≤ 57)
theorem ch_tx (c : Nat) : ch c = tx [c] := rfl
theorem figs_lit : (("0" : Str) = ch 48 ∧ ("1" : Str) = ch 49 ∧ ("2" : Str) = ch 50 ∧ ("3" : Str) = ch 51 ∧ ("4" : Str) = ch 52 ∧ ("5" : Str) = ch 53 ∧ ("6" : Str) = ch 54 ∧ ("7" : Str) = ch 55 ∧ ("8" : Str) = ch 56 ∧ ("9" : Str) = ch 57) := by decide +kernel
theorem ch_beq (a b : Nat) : (ch a == ch b) = decide (a = b) := by
  rw [Bool.eq_iff_iff, beq_iff_eq, decide_eq_true_eq, ch_tx, ch_tx, tx_inj]
  simp
theorem figs (c : Nat) : (ktab_FIGURES.lookup (ch c)).isSome = dg c := by
  obtain ⟨a0, a1, a2, a3, a4, a5, a6, a7, a8, a9⟩ := figs_lit
  unfold ktab_FIGURES
  rw [a0, a1, a2, a3, a4, a5, a6, a7, a8, a9]
  simp only [List.lookup_cons, ch_beq]
  unfold dg
  by_cases h : 48 ≤ c ∧ c ≤ 57
  · have : c = 48 ∨ c = 49 ∨ c = 50 ∨ c = 51 ∨ c = 52 ∨ c = 53 ∨ c = 54 ∨ c = 55 ∨ c = 56 ∨ c = 57 := by omega
    rcases this with rfl | rfl | rfl | rfl | rfl | rfl | rfl | rfl | rfl | rfl <;> rfl
  · have n : ∀ k, 48 ≤ k → k ≤ 57 → decide (c = k) = false := fun k h1 h2 => decide_eq_false (by omega)
    rw [n 48, n 49, n 50, n 51, n 52, n 53, n 54, n 55, n 56, n 57, decide_eq_false h] <;> first | rfl | omega
theorem ten_cps : ("0123456789" : Str).cps.toList = [48, 49, 50, 51, 52, 53, 54, 55, 56, 57] := by decide +kernel
theorem in_ten (c : Nat) : txIn (ch c) "0123456789" = dg c := by
  unfold txIn
  rw [show ch c = ⟨#[c]⟩ from rfl, PySem.StrLaws.found_one, ten_cps]
  unfold dg
  rw [Bool.eq_iff_iff, decide_eq_true_eq, decide_eq_true_eq]
  simp only [List.mem_cons, List.not_mem_nil, or_false]
  omega
theorem find_ten : ∀ k, k < 10 → Txt.find "0123456789" (ch (48 + k)) = (k : Nat) := by decide +kernel
/-- what a text of figures says -/
def due (l : List Nat) : Option Nat := if 1 ≤ l.length ∧ l.length ≤ 60 ∧ l.all dg = true ∧ ¬ (l.head? = some 48 ∧ 1 < l.length) then some (digitsVal l) else none
def dueD : Option Int → D
  | some n => .tup [.str "told", .int n]
  | none => .tup [.str "refused"]
theorem starts1 (l : List Nat) (c : Nat) : Txt.startswith (tx l) (ch c) = decide (l.head? = some c) := by
  unfold Txt.startswith
  cases l with
  | nil => rfl
  | cons a l =>
    rw [Bool.eq_iff_iff, Bool.and_eq_true, decide_eq_true_eq, decide_eq_true_eq]
    unfold Builtin.Str.subAt
    have e : (tx (a :: l)).cps.extract 0 (0 + (ch c).length) = #[a] := by
      show (a :: l).toArray.extract 0 (0 + 1) = #[a]
      simp
    rw [e, beq_iff_eq]
    constructor
    · intro ⟨_, h⟩
      have : #[a] = #[c] := h
      simp at this
      rw [this]; rfl
    · intro h
      cases h
      refine ⟨?_, rfl⟩
      rw [tx_len]
      show 0 + 1 ≤ l.length + 1
      omega
theorem bls_ch (p : Nat → Bool) (l : List Nat) : bls ((l.map fun c => D.str (ch c)).map fun d => match d with | .str z => D.bl (p (z.cps.getD 0 0)) | _ => .non) = some (l.map p) := by
  induction l with
  | nil => rfl
  | cons c r ih =>
    rw [List.map_cons, List.map_cons, List.map_cons]
    show (bls _).map _ = _
    rw [ih]; rfl
theorem chD_tx (l : List Nat) : chD (tx l) = l.map fun c => D.str (ch c) := rfl
theorem fence_comp (l : List Nat) : kLoop tYes (cTabIn false ktab_FIGURES (cVar 0)) [.emp] (l.map fun c => D.str (ch c)) = pure (l.map fun c => D.bl (dg c)) := by
  have := comp_map (el := cTabIn false ktab_FIGURES (cVar 0)) (σ := [.emp]) (fun d => match d with | .str z => D.bl ((ktab_FIGURES.lookup z).isSome) | _ => .non) (l.map fun c => D.str (ch c)) (fun d hd => by
    obtain ⟨c, _, rfl⟩ := List.mem_map.mp hd
    simp)
  rw [this, List.map_map]
  congr 1
  refine List.map_congr_left fun c _ => ?_
  show D.bl _ = _
  rw [figs]
theorem zero_txt : ("0" : Str) = tx [48] := by decide +kernel
theorem minus_txt : ("-" : Str) = tx [45] := by decide +kernel
theorem mzero_txt : ("-0" : Str) = tx [45, 48] := by decide +kernel
theorem ok48 : PySem.PyData.strOk (tx [48]) = true := by decide +kernel
theorem ok45 : PySem.PyData.strOk (tx [45]) = true := by decide +kernel
theorem ok4548 : PySem.PyData.strOk (tx [45, 48]) = true := by decide +kernel
theorem size1000 {n : Nat} (h : n ≤ 1000) : n ≤ sizeLine := by rw [sizeLine_eq]; omega
theorem read_fence_eq (l : List Nat) (hl : l.length ≤ 1000) (ho : PySem.PyData.strOk (tx l) = true) : m_read_fence [.str (tx l)] = pure (match due l with | some n => .ret (.int (n : Nat)) | none => .exc) := by
  have hb : bls (l.map fun c => D.bl (dg c)) = some (l.map dg) := bls_map dg l
  have hall : (l.map dg).all id = l.all dg := by rw [List.all_map]; rfl
  have hs := size1000 hl
  have hs' : l.length < sizeLine := by rw [sizeLine_eq]; omega
  simp only [m_read_fence, b_read_fence]
  unfold fnX
  rw [if_pos (show [D.str (tx l)].length = 1 from rfl)]
  by_cases h1 : 1 ≤ l.length
  · have h1i : (1 : Int) ≤ (l.length : Int) := by omega
    by_cases h2 : l.length ≤ 60
    · have h2i : (l.length : Int) ≤ 60 := by omega
      by_cases h3 : l.all dg = true
      · have hst := starts1 l 48
        have e0 : Txt.startswith (tx l) "0" = decide (l.head? = some 48) := by rw [zero_txt]; exact hst
        have e1 : oNe (.v (.str (tx l))) (.v (.str "0")) = pure (.v (.bl (!decide (l = [48])))) := by rw [zero_txt]; exact ne_txt ho ok48
        have ei : PySem.intText? (tx l) = some ((digitsVal l : Nat) : Int) := intText_digits (x := tx l) (fun c hc => by
            have := List.all_eq_true.mp h3 c hc
            unfold dg at this
            simpa using this) (by intro z; have : l = [] := z; rw [this] at h1; simp at h1) (by rw [tx_len]; omega)
        have ef : fIntT [.v (.str (tx l))] = pure (.v (.int ((digitsVal l : Nat) : Int))) := by
          unfold fIntT
          simp only [ei]
          rw [if_pos (by rw [tx_len]; omega)]
        by_cases h4 : l.head? = some 48
        · by_cases h5 : l = [48]
          · have hd : due l = some (digitsVal l) := by rw [h5]; decide
            have d5 : decide (l = [48]) = true := decide_eq_true h5
            simp [chD_tx, fence_comp, hb, hall, h3, tx_len, hs, hs', e0, e1, h1i, h2i, h4, d5, hd, ef]
          · have hd : due l = none := by
              unfold due
              rw [if_neg]
              intro ⟨_, _, _, q⟩
              refine q ⟨h4, ?_⟩
              cases l with
              | nil => simp at h1
              | cons a r =>
                cases r with
                | nil => cases h4; exact absurd rfl h5
                | cons b r => simp
            simp [chD_tx, fence_comp, hb, hall, h3, tx_len, hs, hs', e0, e1, h1i, h2i, h4, h5, hd]
        · have hd : due l = some (digitsVal l) := by
            unfold due
            rw [if_pos ⟨h1, h2, h3, fun q => h4 q.1⟩]
          simp [chD_tx, fence_comp, hb, hall, h3, tx_len, hs, hs', e0, h1i, h2i, h4, hd, ef]
      · have hd : due l = none := by unfold due; rw [if_neg fun q => h3 q.2.2.1]
        have h3' : l.all dg = false := by simpa using h3
        simp [chD_tx, fence_comp, hb, hall, h3', tx_len, hs, hs', h1i, h2i, hd]
    · have hd : due l = none := by unfold due; rw [if_neg fun q => h2 q.2.1]
      have h2i : ¬ (l.length : Int) ≤ 60 := by omega
      simp [tx_len, hs, h1i, h2i, hd]
  · have hd : due l = none := by unfold due; rw [if_neg fun q => h1 q.1]
    have h1i : ¬ (1 : Int) ≤ (l.length : Int) := by omega
    simp [tx_len, hs, h1i, hd]
end K82

set_option Elab.async false
set_option linter.all false
set_option maxRecDepth 100000
set_option maxHeartbeats 1000000
namespace K82
open PySem PySem.Spec L2 L3 PySem.NumText
theorem find_dg {c : Nat} (h : dg c = true) : Txt.find "0123456789" (ch c) = ((c - 48 : Nat) : Int) := by
  unfold dg at h
  have h := of_decide_eq_true h
  have := find_ten (c - 48) (by omega)
  rw [show 48 + (c - 48) = c by omega] at this
  exact this
theorem due_loop (s : Slot) : ∀ (l : List Nat) (a : Nat) (s2 : Slot), ∃ s2', fLoop (fun d σ => l_law_due_0 (σ.set 2 (.val d))) (l.map fun c => D.str (ch c)) [s, .val (.int (a : Nat)), s2]
    = if l.all dg = true then pure (.nx [s, .val (.int ((l.foldl (fun acc c => acc * 10 + (c - 48)) a : Nat) : Int)), s2']) else pure (.rt (.v (.tup [.str "refused"])))
  | [], a, s2 => ⟨s2, rfl⟩
  | c :: l, a, s2 => by
    by_cases h : dg c = true
    · obtain ⟨s2', ih⟩ := due_loop s l (a * 10 + (c - 48)) (.val (.str (ch c)))
      refine ⟨s2', ?_⟩
      rw [List.map_cons, fLoop]
      have hb : l_law_due_0 ([s, .val (.int (a : Nat)), s2].set 2 (.val (.str (ch c)))) = pure (.nx [s, .val (.int ((a * 10 + (c - 48) : Nat) : Int)), .val (.str (ch c))]) := by
        have e : (10 * (a : Int) + ((c - 48 : Nat) : Int)) = ((a * 10 + (c - 48) : Nat) : Int) := by omega
        simp only [l_law_due_0]
        have cm : CMulB 10 (a : Int) := .inl ⟨by decide, by decide⟩
        have e' : (10 * (a : Int) + ((c - 48 : Nat) : Int)) = ((a : Int) * 10 + ((c - 48 : Nat) : Int)) := by omega
        simp [in_ten, h, find_dg h, cm, e']
      show ((l_law_due_0 ([s, .val (.int (a : Nat)), s2].set 2 (.val (.str (ch c))))) >>= _) = _
      rw [hb, List.all_cons, h, List.foldl_cons]
      exact ih
    · have h' : dg c = false := by simpa using h
      refine ⟨s2, ?_⟩
      rw [List.map_cons, fLoop]
      have hb : l_law_due_0 ([s, .val (.int (a : Nat)), s2].set 2 (.val (.str (ch c)))) = pure (.rt (.v (.tup [.str "refused"]))) := by
        simp only [l_law_due_0]
        simp [in_ten, h']
      show ((l_law_due_0 ([s, .val (.int (a : Nat)), s2].set 2 (.val (.str (ch c))))) >>= _) = _
      rw [hb, List.all_cons, h']
      rfl
theorem at_head {c : Nat} {l : List Nat} (hl : l.length ≤ 1000) (hc : l.head? = some c) : oIx (.v (.str (tx l))) (.v (.int 0)) = pure (.v (.str (tx [c]))) := by
  cases l with
  | nil => cases hc
  | cons d l =>
    cases hc
    show (match atI (c :: l) 0 with
      | some c => if (tx (c :: l)).length ≤ sizeLine then (pure (R.v (.str ⟨#[c]⟩)) : M R) else bad
      | none => bad) = _
    rw [e_at0]
    dsimp only
    rw [if_pos (by rw [tx_len]; exact size1000 hl)]
    rfl
def dueI (l : List Nat) : Option Int := (due l).map fun n => (n : Nat)
theorem law_due_eq (l : List Nat) (hl : l.length ≤ 1000) (ho : PySem.PyData.strOk (tx l) = true) : m_law_due [.str (tx l)] = pure (.v (dueD (dueI l))) := by
  have hs := size1000 hl
  obtain ⟨s2', hlp⟩ := due_loop (.val (.str (tx l))) l 0 .emp
  have hlp : fLoop (fun d σ => l_law_due_0 (σ.set 2 (.val d))) (l.map fun c => D.str (ch c)) [.val (.str (tx l)), .val (.int 0), .emp] = _ := hlp
  simp only [m_law_due, b_law_due, b_law_due_1, b_law_due_2, b_law_due_3]
  by_cases h1 : l.length < 1
  · have hd : dueI l = none := by unfold dueI due; rw [if_neg fun q => by omega]; rfl
    have h1i : (l.length : Int) < 1 := by omega
    simp [tx_len, hs, h1i, hd, dueD]
  · have h1i : ¬ (l.length : Int) < 1 := by omega
    by_cases h2 : 60 < l.length
    · have hd : dueI l = none := by unfold dueI due; rw [if_neg fun q => by omega]; rfl
      have h2i : (60 : Int) < (l.length : Int) := by omega
      simp [tx_len, hs, h1i, h2i, hd, dueD]
    · have h2i : ¬ (60 : Int) < (l.length : Int) := by omega
      obtain ⟨c, hc⟩ : ∃ c, l.head? = some c := by
        cases l with
        | nil => simp at h1
        | cons c r => exact ⟨c, rfl⟩
      have hcm : c ∈ l := by cases l with | nil => cases hc | cons d r => cases hc; exact List.mem_cons_self
      have e0 : oEq (.v (.str (tx [c]))) (.v (.str "0")) = pure (.v (.bl (decide (c = 48)))) := by
        rw [zero_txt, eq_txt (strOk_iff.mpr fun x hx => by rw [List.mem_singleton.mp hx]; exact strOk_iff.mp ho c hcm) ok48]
        simp
      have ea := at_head hl hc
      have hh : l.head? = some 48 ↔ c = 48 := by rw [hc]; simp
      by_cases h3 : c = 48 ∧ 1 < l.length
      · have hd : dueI l = none := by unfold dueI due; rw [if_neg fun q => q.2.2.2 ⟨hh.mpr h3.1, h3.2⟩]; rfl
        have h3i : (1 : Int) < (l.length : Int) := by omega
        rw [decide_eq_true h3.1] at e0
        simp [tx_len, hs, h1i, h2i, h3i, hd, dueD, ea, e0]
      · by_cases h4 : l.all dg = true
        · have hd : dueI l = some ((digitsVal l : Nat) : Int) := by
            unfold dueI due
            rw [if_pos ⟨by omega, by omega, h4, fun q => h3 ⟨hh.mp q.1, q.2⟩⟩]; rfl
          rw [if_pos h4] at hlp
          by_cases q : c = 48
          · have h3i : ¬ (1 : Int) < (l.length : Int) := fun z => h3 ⟨q, by omega⟩
            have d48 : decide (c = 48) = true := decide_eq_true q
            rw [d48] at e0
            simp [tx_len, hs, h1i, h2i, h3i, hd, dueD, ea, e0, chD_tx, hlp, digitsVal]
          · have d48 : decide (c = 48) = false := decide_eq_false q
            rw [d48] at e0
            simp [tx_len, hs, h1i, h2i, hd, dueD, ea, e0, chD_tx, hlp, digitsVal]
        · have hd : dueI l = none := by unfold dueI due; rw [if_neg fun q => h4 q.2.2.1]; rfl
          rw [if_neg h4] at hlp
          by_cases q : c = 48
          · have h3i : ¬ (1 : Int) < (l.length : Int) := fun z => h3 ⟨q, by omega⟩
            have d48 : decide (c = 48) = true := decide_eq_true q
            rw [d48] at e0
            simp [tx_len, hs, h1i, h2i, h3i, hd, dueD, ea, e0, chD_tx, hlp]
          · have d48 : decide (c = 48) = false := decide_eq_false q
            rw [d48] at e0
            simp [tx_len, hs, h1i, h2i, hd, dueD, ea, e0, chD_tx, hlp]
end K82

set_option Elab.async false
set_option linter.all false
set_option maxRecDepth 100000
set_option maxHeartbeats 1000000
namespace K82
open PySem PySem.Spec L2 L3 PySem.NumText
theorem cut1 (l : List Nat) : cutD l (some 1) none = l.tail := by
  cases l with
  | nil => rfl
  | cons c r => exact cut_lo (c :: r) 1 (by simp)
theorem take1 (l : List Nat) : cutD l none (some 1) = l.take 1 := by
  cases l with
  | nil => rfl
  | cons c r => exact cut_hi (c :: r) 1 (by simp)
def rd (l : List Nat) : Option Int := if l.head? = some 45 then (if l = [45, 48] then none else (dueI (l.tail)).map fun n => -n) else dueI l
theorem strOk_drop {l : List Nat} (h : PySem.PyData.strOk (tx l) = true) : PySem.PyData.strOk (tx (l.tail)) = true := strOk_iff.mpr fun c hc => strOk_iff.mp h c (List.mem_of_mem_tail hc)
theorem strOk_take {l : List Nat} (h : PySem.PyData.strOk (tx l) = true) : PySem.PyData.strOk (tx (l.take 1)) = true := strOk_iff.mpr fun c hc => strOk_iff.mp h c (List.mem_of_mem_take hc)
theorem read_fence_eq' (l : List Nat) (hl : l.length ≤ 1000) (ho : PySem.PyData.strOk (tx l) = true) : m_read_fence [.str (tx l)] = pure (match dueI l with | some n => .ret (.int n) | none => .exc) := by
  rw [read_fence_eq l hl ho]
  unfold dueI
  cases due l <;> rfl
theorem read_number_eq (l : List Nat) (hl : l.length ≤ 1000) (ho : PySem.PyData.strOk (tx l) = true) : m_read_number [.str (tx l)] = pure (match rd l with | some n => .ret (.int n) | none => .exc) := by
  have hs := size1000 hl
  have e0 : Txt.startswith (tx l) "-" = decide (l.head? = some 45) := by rw [minus_txt]; exact starts1 l 45
  have e1 : oEq (.v (.str (tx l))) (.v (.str "-0")) = pure (.v (.bl (decide (l = [45, 48])))) := by rw [mzero_txt]; exact eq_txt ho ok4548
  have f1 := read_fence_eq' l hl ho
  have f2 := read_fence_eq' (l.tail) (by rw [List.length_tail]; omega) (strOk_drop ho)
  simp only [m_read_number, b_read_number]
  unfold fnX
  rw [if_pos (show [D.str (tx l)].length = 1 from rfl)]
  unfold rd
  by_cases h : l.head? = some 45
  · rw [if_pos h]
    by_cases h2 : l = [45, 48]
    · rw [if_pos h2]
      rw [decide_eq_true h2] at e1
      simp [e0, h, e1]
    · rw [if_neg h2]
      rw [decide_eq_false h2] at e1
      cases hd : dueI (l.tail) with
      | none =>
        rw [hd] at f2
        simp [e0, h, e1, tx_len, hs, cutS_tx, cut1, f2]
      | some n =>
        rw [hd] at f2
        simp [e0, h, e1, tx_len, hs, cutS_tx, cut1, f2]
  · rw [if_neg h]
    cases hd : dueI l with
    | none =>
      rw [hd] at f1
      simp [e0, h, f1]
    | some n =>
      rw [hd] at f1
      simp [e0, h, f1]
theorem ok_told : PySem.PyData.strOk "told" = true := by decide +kernel
theorem ok_refd : PySem.PyData.strOk "refused" = true := by decide +kernel
theorem dueD_ok (o : Option Int) : Ok 2 (dueD o) := by
  cases o with
  | none => exact ok1 (ok_str ok_refd)
  | some n => exact ok2 (ok_str ok_told) ok_int
theorem eq_ref (o : Option Int) : oEq (.v (dueD o)) (.v (.tup [.str "refused"])) = pure (.v (.bl o.isNone)) := by
  rw [e_eq (x := .v (dueD o)) (y := .v (.tup [.str "refused"])) (gd_mono (by omega) (dueD_ok o).1) (gd_mono (by omega) (dueD_ok none).1)]
  cases o with
  | none =>
    show pure (R.v (D.bl (peq (.tup [.str "refused"]) (.tup [.str "refused"])))) = _
    simp [peq, peqAll]
  | some n =>
    show pure (R.v (D.bl (peq (.tup [.str "told", .int n]) (.tup [.str "refused"])))) = _
    simp [peq, peqAll]
theorem foldl_zero : ∀ (l : List Nat) (a : Nat), l.all dg = true → l.foldl (fun acc c => acc * 10 + (c - 48)) a = 0 → a = 0 ∧ ∀ c ∈ l, c = 48
  | [], a, _, h => ⟨h, fun c hc => nomatch hc⟩
  | c :: l, a, hd, h => by
    rw [List.all_cons, Bool.and_eq_true] at hd
    rw [List.foldl_cons] at h
    obtain ⟨h1, h2⟩ := foldl_zero l _ hd.2 h
    have hc := of_decide_eq_true (show decide (48 ≤ c ∧ c ≤ 57) = true from hd.1)
    refine ⟨by omega, fun d hdm => ?_⟩
    rcases List.mem_cons.mp hdm with rfl | q
    · omega
    · exact h2 d q
theorem due_zero {l : List Nat} (h : dueI l = some 0) : l = [48] := by
  unfold dueI due at h
  split at h
  · rename_i c
    have h : some ((digitsVal l : Nat) : Int) = some 0 := h
    have h : digitsVal l = 0 := by have := Option.some.inj h; omega
    obtain ⟨_, z⟩ := foldl_zero l 0 c.2.2.1 h
    obtain ⟨c1, _, _, c4⟩ := c
    cases l with
    | nil => simp at c1
    | cons a r =>
      have ha := z a List.mem_cons_self
      subst ha
      cases r with
      | nil => rfl
      | cons b r => exact absurd ⟨rfl, by simp⟩ c4
  · cases h
theorem due_minus {l : List Nat} (h : l.head? = some 45) : dueI l = none := by
  unfold dueI due
  rw [if_neg]
  · rfl
  · intro ⟨_, _, q, _⟩
    cases l with
    | nil => cases h
    | cons c r =>
      cases h
      rw [List.all_cons, Bool.and_eq_true] at q
      exact absurd q.1 (by decide)
theorem due_48 : dueI [48] = some 0 := by decide
theorem due_below_eq (l : List Nat) (hl : l.length ≤ 1000) (ho : PySem.PyData.strOk (tx l) = true) : m_law_due_below [.str (tx l)] = pure (.v (dueD (rd l))) := by
  have hs := size1000 hl
  have d1 := law_due_eq l hl ho
  have d2 := law_due_eq (l.tail) (by rw [List.length_tail]; omega) (strOk_drop ho)
  have hq : l.take 1 = [45] ↔ l.head? = some 45 := by
    cases l with
    | nil => simp
    | cons c r => simp
  have e1 : oNe (.v (.str (tx (l.take 1)))) (.v (.str "-")) = pure (.v (.bl (!decide (l.head? = some 45)))) := by
    rw [minus_txt, ne_txt (strOk_take ho) ok45]
    congr 4
    rw [Bool.eq_iff_iff, decide_eq_true_eq, decide_eq_true_eq, hq]
  have e2 := eq_ref (dueI (l.tail))
  simp only [m_law_due_below, b_law_due_below, b_law_due_below_1, b_law_due_below_2]
  unfold rd
  by_cases h : l.head? = some 45
  · rw [if_pos h]
    rw [decide_eq_true h] at e1
    have hm := due_minus h
    cases hd : dueI (l.tail) with
    | none =>
      rw [hd] at e2 d2
      have e2 : oEq (.v (dueD none)) (.v (.tup [.str "refused"])) = pure (.v (.bl true)) := e2
      rw [hm] at d1
      have : (if l = [45, 48] then none else Option.map (fun n : Int => -n) none) = none := by split <;> rfl
      rw [this]
      simp [tx_len, hs, cutS_tx, cut1, take1, d2, e1, e2, d1]
    | some n =>
      rw [hd] at e2 d2
      have e2 : oEq (.v (dueD (some n))) (.v (.tup [.str "refused"])) = pure (.v (.bl false)) := e2
      have dx : dueD (some n) = .tup [.str "told", .int n] := rfl
      by_cases hn : n = 0
      · subst hn
        have hl48 := due_zero hd
        have hl2 : l = [45, 48] := by
          cases l with
          | nil => cases h
          | cons c r => cases h; rw [show r = [48] from hl48]
        rw [if_pos hl2]
        rw [hm] at d1
        rw [dx] at e2 d2
        simp [tx_len, hs, cutS_tx, cut1, take1, d2, e1, e2, d1]
      · have hl2 : l ≠ [45, 48] := fun z => by
          rw [z] at hd
          have : dueI [48] = some n := hd
          rw [due_48] at this
          exact hn (Option.some.inj this).symm
        rw [if_neg hl2]
        rw [dx] at e2 d2
        simp [tx_len, hs, cutS_tx, cut1, take1, d2, e1, e2, hn, dueD]
  · rw [if_neg h]
    rw [decide_eq_false h] at e1
    simp [tx_len, hs, cutS_tx, cut1, take1, d2, e1, d1]
theorem law_read_eq (l : List Nat) (hl : l.length ≤ 1000) (ho : PySem.PyData.strOk (tx l) = true) : m_law_read [.str (tx l)] = pure (.v (dueD (rd l))) := by
  have f := read_number_eq l hl ho
  simp only [m_law_read, b_law_read, b_law_read_1, b_law_read_2]
  cases hd : rd l with
  | none => rw [hd] at f; simp [f, dueD]
  | some n => rw [hd] at f; simp [f, dueD]
theorem law_read_fence_eq (l : List Nat) (hl : l.length ≤ 1000) (ho : PySem.PyData.strOk (tx l) = true) : m_law_read_fence [.str (tx l)] = pure (.v (dueD (dueI l))) := by
  have f := read_fence_eq' l hl ho
  simp only [m_law_read_fence, b_law_read_fence, b_law_read_fence_1, b_law_read_fence_2]
  cases hd : dueI l with
  | none => rw [hd] at f; simp [f, dueD]
  | some n => rw [hd] at f; simp [f, dueD]
end K82

set_option Elab.async false
set_option linter.all false
set_option maxRecDepth 100000
set_option maxHeartbeats 1000000
namespace K82
open PySem PySem.Spec L2 L3 PySem.NumText
def Gz (k : Nat) (z : Str) : Prop := z.length ≤ k ∧ PySem.PyData.strOk z = true
theorem gz_mono {j k : Nat} {z : Str} (h : Gz j z) (hj : j ≤ k) : Gz k z := ⟨by have := h.1; omega, h.2⟩
theorem gz_app {j k : Nat} {x y : Str} (hx : Gz j x) (hy : Gz k y) : Gz (j + k) (x ++ y) := by
  have e : x ++ y = tx (cd x ++ cd y) := by rw [← tx_app, tx_cd, tx_cd]
  have lx : (cd x).length = x.length := Array.length_toList
  have ly : (cd y).length = y.length := Array.length_toList
  refine ⟨?_, ?_⟩
  · rw [e, tx_len, List.length_append, lx, ly]
    have := hx.1; have := hy.1; omega
  · rw [e]
    refine strOk_iff.mpr fun c hc => ?_
    have h1 := hx.2
    have h2 := hy.2
    rw [← tx_cd x] at h1
    rw [← tx_cd y] at h2
    rcases List.mem_append.mp hc with q | q
    · exact strOk_iff.mp h1 c q
    · exact strOk_iff.mp h2 c q
theorem ofString_ok (s : String) : PySem.PyData.strOk (Str.ofString s) = true := by
  rw [← tx_cd (Str.ofString s)]
  refine strOk_iff.mpr fun c hc => ?_
  have hc : c ∈ (Str.ofString s).cps.toList := hc
  rw [PyProof.Rows.signs_ofString] at hc
  obtain ⟨ch, _, rfl⟩ := List.mem_map.mp hc
  have := ch.valid
  rcases this with h | h
  · exact Nat.lt_of_lt_of_le h (by decide)
  · exact h.2
theorem gz_num {n : Int} {k : Nat} (h0 : 0 ≤ n) (hk : 1 ≤ k) (h1 : n < 10 ^ k) : Gz k (Str.ofString (toString n)) := ⟨PyProof.Rows.toString_length_le h0 hk h1, ofString_ok _⟩
theorem str_num {n : Int} (h0 : 0 ≤ n) (h1 : n < 10 ^ 61) : fStrI [.v (.int n)] = pure (.v (.str (Str.ofString (toString n)))) := by
  show (if n.natAbs.log2 < 1920 then (pure (R.v (.str (Str.ofString (toString n)))) : M R) else bad) = _
  rw [if_pos]
  have : n.natAbs < 2 ^ 1920 := by
    have : (10 : Int) ^ 61 < 2 ^ 1920 := by decide +kernel
    have h2 : (n.natAbs : Int) = n := Int.natAbs_of_nonneg h0
    have : (n.natAbs : Int) < 2 ^ 1920 := by omega
    exact_mod_cast this
  by_cases z : n.natAbs = 0
  · rw [z]; decide
  · exact (Nat.log2_lt z).mpr this
theorem gz_cut {k : Nat} {z : Str} (h : Gz k z) (lo hi : Option Int) : Gz k (cutS z lo hi) := by
  refine ⟨by have := cutS_len z lo hi; have := h.1; omega, ?_⟩
  have e : cutS z lo hi = tx (cutD (cd z) lo hi) := rfl
  rw [e]
  have h2 := h.2
  rw [← tx_cd z] at h2
  exact strOk_iff.mpr fun c hc => strOk_iff.mp h2 c (cut_mem hc)
theorem gz_ix {z : Str} {k : Nat} (hz : Gz k z) (hk : k ≤ 1000) {i : Int} (h0 : 0 ≤ i) (h : i < (z.length : Int)) : ∃ c, oIx (.v (.str z)) (.v (.int i)) = pure (.v (.str (tx [c]))) ∧ c < 0x110000 := by
  obtain ⟨c, e⟩ := atI_some (xs := z.cps.toList) (i := i) h0 (by rw [Array.length_toList]; exact h)
  have h2 := hz.2
  rw [← tx_cd z] at h2
  refine ⟨c, ?_, strOk_iff.mp h2 c (atI_mem e)⟩
  show (match atI z.cps.toList i with
    | some c => if z.length ≤ sizeLine then (pure (R.v (.str ⟨#[c]⟩)) : M R) else bad
    | none => bad) = _
  rw [e]
  dsimp only
  rw [if_pos (size1000 (by have := hz.1; omega))]
  rfl
theorem join_ch : ∀ cs : List Nat, Txt.join "" (cs.map fun c => tx [c]) = tx cs := by
  intro cs
  unfold Txt.join
  rw [StrLaws.glued_eq_join]
  have e0 : ("" : Str) = tx [] := by decide +kernel
  rw [e0]
  induction cs with
  | nil => decide +kernel
  | cons c r ih =>
    cases r with
    | nil => rfl
    | cons d r =>
      show tx [c] ++ tx [] ++ Str.join (tx []) (tx [d] :: r.map fun c => tx [c]) = _
      have ih : Str.join (tx []) (tx [d] :: r.map fun c => tx [c]) = tx (d :: r) := ih
      rw [ih, tx_app, tx_app]
      rfl
theorem strs_ch (cs : List Nat) : strsD (cs.map fun c => D.str (tx [c])) = some (cs.map fun c => tx [c]) := by
  induction cs with
  | nil => rfl
  | cons c r ih =>
    show (strsD _).map _ = _
    rw [ih]; rfl
theorem joinOk_ch {cs : List Nat} (h : cs.length ≤ 100) : JoinOk "" (cs.map fun c => tx [c]) = true := by
  unfold JoinOk
  rw [StrLaws.joinFits (B := 1)]
  · rfl
  · intro y hy
    obtain ⟨c, _, rfl⟩ := List.mem_map.mp hy
    exact Nat.le_refl _
  · rw [List.length_map]
    have : ("" : Str).length = 0 := by decide +kernel
    rw [this]; omega
theorem join_eq {cs : List Nat} (h : cs.length ≤ 100) : fJoin (.v (.str "")) [.fr (cs.map fun c => D.str (tx [c]))] = pure (.v (.str (tx cs))) := by
  unfold fJoin
  show (match (strsD (cs.map fun c => D.str (tx [c]))) with
    | some zs => if JoinOk "" zs = true then (pure (R.v (.str (Txt.join "" zs))) : M R) else bad
    | none => bad) = _
  rw [strs_ch]
  dsimp only
  rw [if_pos (joinOk_ch h), join_ch]
theorem comp_signs (w : Str) (k : Nat) (hw : Gz 100 w) (hk : (w.length : Int) = (k : Nat)) (h0 : 0 < k) : ∀ ms : List Int, ∃ cs : List Nat, cs.length = ms.length ∧ (∀ c ∈ cs, c < 0x110000) ∧ kLoop tYes (c2 oIx (cK (.str w)) (c2 oMod (cVar 0) (cK (.int (k : Nat))))) [.emp] (ms.map D.int) = pure (cs.map fun c => D.str (tx [c]))
  | [] => ⟨[], rfl, (fun _ h => by cases h), rfl⟩
  | m :: ms => by
    obtain ⟨cs, l, hc, e⟩ := comp_signs w k hw hk h0 ms
    have hm := mod_lt (a := m) (b := (k : Nat)) (by omega)
    obtain ⟨c, ec, c1⟩ := gz_ix hw (by omega) (i := m % (k : Nat)) hm.1 (by omega)
    refine ⟨c :: cs, by rw [List.length_cons, List.length_cons, l], fun x hx => ?_, ?_⟩
    · rcases List.mem_cons.mp hx with rfl | q
      · exact c1
      · exact hc x q
    · have hk' : (0 : Int) < (k : Nat) := by omega
      rw [List.map_cons, kLoop, e]
      have hne : ¬ ((k : Nat) : Int) = 0 := by omega
      simp [ec, h0]
end K82

set_option Elab.async false
set_option linter.all false
set_option maxRecDepth 100000
set_option maxHeartbeats 1000000
namespace K82
open PySem PySem.Spec L2 L3
theorem zipD_get {xs : List D} {i : Nat} {d : D} (h : (zipD xs xs)[i]? = some d) : ∃ x, xs[i]? = some x ∧ d = .tup [x, x] := by
  unfold zipD at h
  rw [List.getElem?_map] at h
  cases e : (xs.zip xs)[i]? with
  | none => rw [e] at h; cases h
  | some p =>
    rw [e] at h
    cases h
    obtain ⟨a, b⟩ := List.getElem?_zip_eq_some.mp e
    rw [a] at b
    exact ⟨p.1, a, by show D.tup [p.1, p.2] = _; rw [← Option.some.inj b]⟩
theorem same_refl : ∀ (n : Nat) (d : D), Ok n d → m_law_same (n + 1) [d, d] = pure (.v (.bl true)) := by
  have seq : ∀ (n : Nat) (xs : List D) (s : Slot), (∀ x ∈ xs, m_law_same n [x, x] = pure (.v (.bl true))) → ∃ σ', fLoop (tupB [2, 3] (l_law_same_0 (m_law_same n))) (zipD xs xs) [s, s, .emp, .emp] = pure (.nx σ') := fun n xs s h => by
    obtain ⟨σ', e, s2, s3, rfl⟩ := for_inv (b := tupB [2, 3] (l_law_same_0 (m_law_same n))) (ds := zipD xs xs) (σ := [s, s, .emp, .emp])
      (fun i σ => ∃ s2 s3, σ = [s, s, s2, s3]) ⟨_, _, rfl⟩ (fun i d σ hx ⟨s2, s3, es⟩ => by
        subst es
        obtain ⟨x, hx', rfl⟩ := zipD_get hx
        have hx := h x (List.mem_of_getElem? hx')
        refine ⟨_, .inl (?_ : _ = pure (Fl.nx ([s, s, .val x, .val x]))), _, _, rfl⟩
        simp only [l_law_same_0]
        simp [tupB, setsD, hx])
    exact ⟨_, e⟩
  intro n
  induction n with
  | zero =>
    intro d h
    cases d with
    | non => simp [m_law_same, b_law_same, b_law_same_1, fIsi2, R.kind, isiB, kdN]
    | bl b => simp [m_law_same, b_law_same, b_law_same_1, b_law_same_2, fIsi2, R.kind, isiB, kdN, eq_bl]
    | int i => simp [m_law_same, b_law_same, b_law_same_1, b_law_same_2, b_law_same_3, fIsi2, R.kind, isiB, kdN]
    | str x => simp [m_law_same, b_law_same, b_law_same_1, b_law_same_2, b_law_same_3, b_law_same_4, fIsi2, R.kind, isiB, kdN, eq_str h.1]
    | tup xs => exact absurd h.1 (by intro z; cases z)
    | lst xs => exact absurd h.1 (by intro z; cases z)
    | dic _ _ => exact absurd h.1 (by intro z; cases z)
    | fn _ => exact absurd h.1 (by intro z; cases z)
    | ty _ => exact absurd h.1 (by intro z; cases z)
  | succ n ih =>
    intro d h
    have parts : ∀ xs : List D, gdAll xs n = true → (decide (xs.length ≤ 1000) && widAll xs) = true → (∀ x ∈ xs, m_law_same (n + 1) [x, x] = pure (.v (.bl true))) := fun xs h1 h2 => by
      rw [Bool.and_eq_true] at h2
      exact fun x hx => ih x ⟨gdAll_iff.mp h1 x hx, widAll_iff.mp h2.2 x hx⟩
    cases d with
    | non => simp [m_law_same, b_law_same, b_law_same_1, fIsi2, R.kind, isiB, kdN]
    | bl b => simp [m_law_same, b_law_same, b_law_same_1, b_law_same_2, fIsi2, R.kind, isiB, kdN, eq_bl]
    | int i => simp [m_law_same, b_law_same, b_law_same_1, b_law_same_2, b_law_same_3, fIsi2, R.kind, isiB, kdN]
    | str x => simp [m_law_same, b_law_same, b_law_same_1, b_law_same_2, b_law_same_3, b_law_same_4, fIsi2, R.kind, isiB, kdN, eq_str h.1]
    | tup xs =>
      obtain ⟨σ', S⟩ := seq (n + 1) xs (.val (.tup xs)) (parts xs h.1 h.2)
      have n1 : oNe (.v (.bl true)) (.v (.bl true)) = pure (.v (.bl false)) := by rw [e_ne rfl rfl]; simp [peq]
      have n2 : oNe (.v (.int xs.length)) (.v (.int xs.length)) = pure (.v (.bl false)) := by rw [e_ne rfl rfl]; simp [peq]
      rw [m_law_same]
      simp [b_law_same, fIsi2, R.kind, isiB, kdN, S, n1, n2, zipR, R.walk]
    | lst xs =>
      obtain ⟨σ', S⟩ := seq (n + 1) xs (.vw xs) (parts xs h.1 h.2)
      have n1 : oNe (.v (.bl false)) (.v (.bl false)) = pure (.v (.bl false)) := by rw [e_ne rfl rfl]; simp [peq]
      have n2 : oNe (.v (.int xs.length)) (.v (.int xs.length)) = pure (.v (.bl false)) := by rw [e_ne rfl rfl]; simp [peq]
      rw [m_law_same]
      simp [b_law_same, fIsi2, R.kind, isiB, kdN, S, n1, n2, zipR, R.walk]
    | dic _ _ => exact absurd h.1 (by intro z; cases z)
    | fn _ => exact absurd h.1 (by intro z; cases z)
    | ty _ => exact absurd h.1 (by intro z; cases z)
end K82
namespace K82
open PySem PySem.Spec L2 L3
theorem cell_at (ns : List Int) (k : Nat) : m_law_cell_at [.lst (ns.map D.int), .int (k : Nat)] = pure (.v (.int (ns.getD k 0))) := by
  simp only [m_law_cell_at, b_law_cell_at, b_law_cell_at_1]
  by_cases h : k < ns.length
  · simp [h, at_ints h]
  · simp [h]
end K82
namespace K82
open PySem PySem.Spec L2 L3 PySem.NumText
theorem odd_eq (c : Int) : ∃ z, m_law_odd [.int c] = pure (.v (.str z)) ∧ Gz 10 z := by
  obtain ⟨v, e, z, rfl, hz⟩ := pick (fun d => ∃ z : Str, d = .str z ∧ Gz 10 z) [.str "", .str "-", .str "--1", .str "+1", .str "1_0", .str " 1", .str "1 ", .str "1\n", .str "\t1", .str "0", .str "00", .str "-0", .str "-00", .str "1-", .str "1e5", .str "0x1", .str "-01", .str "- 1", .str "1 0", .str "1.", .str ".1", .str "-+1", .str "_1", .str "1_", .str "\n"] c 25 rfl (by decide)
    (by simp only [List.forall_mem_cons]; refine ⟨?_, ?_, ?_, ?_, ?_, ?_, ?_, ?_, ?_, ?_, ?_, ?_, ?_, ?_, ?_, ?_, ?_, ?_, ?_, ?_, ?_, ?_, ?_, ?_, ?_, fun _ h => nomatch h⟩ <;> exact ⟨_, rfl, by decide +kernel, by decide +kernel⟩)
  refine ⟨z, ?_, hz⟩
  simp only [m_law_odd, b_law_odd, b_law_odd_1, b_law_odd_2]
  have h25 : 25 ≤ sizeLine := size1000 (by omega)
  simp [e, h25]
abbrev w18 : Str := "0123456789-+_ .\t\ne"
theorem w18_ok : Gz 100 w18 ∧ w18.length = 18 := ⟨⟨by decide +kernel, by decide +kernel⟩, by decide +kernel⟩
theorem w10_ok : Gz 100 "0123456789" ∧ ("0123456789" : Str).length = 10 := ⟨⟨by decide +kernel, by decide +kernel⟩, by decide +kernel⟩
theorem text_eq (ns : List Int) : ∃ l, m_law_text [.lst (ns.map D.int)] = pure (.v (.str (tx l))) ∧ l.length ≤ 1000 ∧ PySem.PyData.strOk (tx l) = true := by
  suffices h : ∃ z, m_law_text [.lst (ns.map D.int)] = pure (.v (.str z)) ∧ Gz 1000 z by
    obtain ⟨z, e, h1, h2⟩ := h
    refine ⟨cd z, by rw [tx_cd]; exact e, ?_, by rw [tx_cd]; exact h2⟩
    rw [show (cd z).length = z.length from Array.length_toList]; exact h1
  have c0 := cell_at ns 0
  have c1 := cell_at ns 1
  have k2 := cell_at ns 2
  simp only [Int.natCast_zero] at c0
  have c1 : m_law_cell_at [.lst (ns.map D.int), .int 1] = pure (.v (.int (ns.getD 1 0))) := c1
  have k2 : m_law_cell_at [.lst (ns.map D.int), .int 2] = pure (.v (.int (ns.getD 2 0))) := k2
  generalize ea : ns.getD 0 0 = a at c0
  generalize eb : ns.getD 1 0 = b at c1
  generalize ec : ns.getD 2 0 = c at k2
  have hn := mod_lt (a := b) (b := 10 ^ 60) (by decide +kernel)
  generalize en : b % 10 ^ 60 = n at hn
  have en' : b % 1000000000000000000000000000000000000000000000000000000000000 = n := en
  have g0 : Gz 60 (Str.ofString (toString n)) := gz_num hn.1 (by decide) hn.2
  have s0 := str_num hn.1 (Int.lt_trans hn.2 (by decide +kernel))
  have hw := mod_lt (a := a) (b := 8) (by decide)
  generalize eT : Str.ofString (toString n) = T at g0 s0
  have sz : ∀ k, k ≤ 1000 → k ≤ sizeLine := fun k h => size1000 h
  simp only [m_law_text, b_law_text, b_law_text_1, b_law_text_2, b_law_text_3, b_law_text_4, b_law_text_5, b_law_text_6, b_law_text_7, b_law_text_8, b_law_text_9, b_law_text_10]
  have cases8 : a % 8 = 0 ∨ a % 8 = 1 ∨ a % 8 = 2 ∨ a % 8 = 3 ∨ a % 8 = 4 ∨ a % 8 = 5 ∨ a % 8 = 6 ∨ a % 8 = 7 := by omega
  rcases cases8 with w | w | w | w | w | w | w | w
  · exact ⟨T, by simp [c0, c1, w, en', s0], gz_mono g0 (by omega)⟩
  · have g1 : Gz 1 "-" := ⟨by decide +kernel, by decide +kernel⟩
    have g2 := gz_app g1 g0
    have l1 := sz _ (show ("-" : Str).length + T.length ≤ 1000 by have := g1.1; have := g0.1; omega)
    exact ⟨_, by simp [c0, c1, w, en', s0, l1], gz_mono g2 (by omega)⟩
  · obtain ⟨v, e, z, rfl, hz⟩ := pick (fun d => ∃ z : Str, d = .str z ∧ Gz 10 z) [.str "0", .str "-0", .str "00"] (a / 8) 3 rfl (by decide)
      (by simp only [List.forall_mem_cons]; refine ⟨?_, ?_, ?_, fun _ h => nomatch h⟩ <;> exact ⟨_, rfl, by decide +kernel, by decide +kernel⟩)
    have g2 := gz_app hz g0
    have l1 := sz _ (show z.length + T.length ≤ 1000 by have := hz.1; have := g0.1; omega)
    exact ⟨_, by simp [c0, c1, w, en', s0, e, l1], gz_mono g2 (by omega)⟩
  · have hb : (0 : Int) ≤ 10 ^ 60 + n ∧ 10 ^ 60 + n < 10 ^ 61 := by
      have : (10 : Int) ^ 60 + 10 ^ 60 ≤ 10 ^ 61 := by decide +kernel
      have : (0 : Int) ≤ 10 ^ 60 := by decide +kernel
      omega
    have s1 := str_num hb.1 hb.2
    have s1 : fStrI [.v (.int (1000000000000000000000000000000000000000000000000000000000000 + n))] = _ := s1
    exact ⟨_, by simp [c0, c1, w, en', s1], gz_mono (gz_num (k := 61) hb.1 (by decide) hb.2) (by omega)⟩
  · obtain ⟨ms, e1, e2⟩ := cut_ints ns 2 72
    have e1 : cutD (ns.map D.int) (some 2) (some 72) = ms.map D.int := e1
    obtain ⟨cs, l, hc, e3⟩ := comp_signs w18 18 w18_ok.1 (by rw [w18_ok.2]) (by decide) ms
    have e3 : kLoop tYes (c2 oIx (cK (.str w18)) (c2 oMod (cVar 0) (cK (.int 18)))) [.emp] (ms.map D.int) = _ := e3
    have hj := join_eq (cs := cs) (by omega)
    refine ⟨tx cs, ?_, by rw [tx_len]; omega, strOk_iff.mpr hc⟩
    have hz : ms.length < sizeLine := by rw [sizeLine_eq]; omega
    simp [c0, c1, w, en', e1, e3, hj, hz]
  · obtain ⟨ms, e1, e2⟩ := cut_ints ns 2 72
    have e1 : cutD (ns.map D.int) (some 2) (some 72) = ms.map D.int := e1
    obtain ⟨cs, l, hc, e3⟩ := comp_signs "0123456789" 10 w10_ok.1 (by rw [w10_ok.2]) (by decide) ms
    have e3 : kLoop tYes (c2 oIx (cK (.str "0123456789")) (c2 oMod (cVar 0) (cK (.int 10)))) [.emp] (ms.map D.int) = _ := e3
    have hj := join_eq (cs := cs) (by omega)
    refine ⟨tx cs, ?_, by rw [tx_len]; omega, strOk_iff.mpr hc⟩
    have hz : ms.length < sizeLine := by rw [sizeLine_eq]; omega
    simp [c0, c1, w, en', e1, e3, hj, hz]
  · have hm := mod_lt (a := c) (b := 18) (by decide)
    obtain ⟨x, ex, hx⟩ := gz_ix w18_ok.1 (by omega) (i := c % 18) hm.1 (by rw [w18_ok.2]; exact hm.2)
    have gx : Gz 1 (tx [x]) := ⟨by rw [tx_len]; exact Nat.le_refl _, strOk_iff.mpr fun y hy => by rw [List.mem_singleton.mp hy]; exact hx⟩
    have lt := sz _ (show T.length ≤ 1000 by have := g0.1; omega)
    have hp : (0 : Int) < (T.length : Int) + 1 := by omega
    have gA := gz_cut g0 none (some (a / 8 % ((T.length : Int) + 1)))
    have gB := gz_cut g0 (some (a / 8 % ((T.length : Int) + 1))) none
    have l1 := sz _ (show (cutS T none (some (a / 8 % ((T.length : Int) + 1)))).length + (tx [x]).length ≤ 1000 by have := gA.1; have := gx.1; omega)
    have gC := gz_app gA gx
    have l2 := sz _ (show (cutS T none (some (a / 8 % ((T.length : Int) + 1))) ++ tx [x]).length + (cutS T (some (a / 8 % ((T.length : Int) + 1))) none).length ≤ 1000 by have := gC.1; have := gB.1; omega)
    exact ⟨_, by simp [c0, c1, k2, w, en', s0, lt, hp, ex, l1, l2], gz_mono (gz_app gC gB) (by omega)⟩
  · obtain ⟨z, e, hz⟩ := odd_eq (a / 8)
    exact ⟨z, by simp [c0, c1, w, en', e], gz_mono hz (by omega)⟩
theorem law_eq (ns : List Int) : m_law [.lst (ns.map D.int)] = pure (.v (.bl true)) := by
  obtain ⟨l, e, hl, ho⟩ := text_eq ns
  have f1 := law_read_fence_eq l hl ho
  have f2 := law_due_eq l hl ho
  have f3 := law_read_eq l hl ho
  have f4 := due_below_eq l hl ho
  have s1 : m_law_same 4 [dueD (dueI l), dueD (dueI l)] = pure (.v (.bl true)) := same_refl 3 _ (ok_mono (dueD_ok _) (by omega))
  have s2 : m_law_same 4 [dueD (rd l), dueD (rd l)] = pure (.v (.bl true)) := same_refl 3 _ (ok_mono (dueD_ok _) (by omega))
  simp only [m_law, b_law, b_law_1, b_law_2]
  simp [e, f1, f2, f3, f4, s1, s2]
theorem law_true (ns : List Int) (hn : ns.length ≤ 63) : ∃ S', (m_law [.lst (ns.map D.int)]).run [] = .ok (.v (.bl true)) S' := ⟨[], by rw [law_eq ns]; rfl⟩
end K82

open PySem PySem.W PyProof.Rows
set_option maxRecDepth 100000 in
set_option maxHeartbeats 0 in
theorem PySem.Challenge.cw_oneslate_k82_numbers_read_holds : PySem.Challenge.rw_oneslate_k82_numbers_read.Holds := by
  w_on; o_law; k_head; (case hw => w_witness2)
  k_fill
  letI : L2.TabP := ⟨fun _ => False, fun _ => ""⟩
  refine L3.walk (l := PySem.Challenge.rw_oneslate_k82_numbers_read) (k := 6) rfl rfl ⟨rfl, by decide, by decide⟩ (fun _ h => h) (fun w h Y => PySem.W.kIn_of Y) ?F
  case F =>
    intro w mg fa h KX G hmg
    have d_read_number : L2.Df (L2.KOf KX) mg "read_number" K82.s_read_number ["text"] := by
      dsimp only [L2.KOf]
      refine' L3.df_mk KX G ?a ?l ?c ?k (fun _ _ _ _ _ _ => L3.us1 fun _ => rfl)
      (case a => k_is); (case l => k_is); (case c => k_is); (case k => k_is)
    have d_read_fence : L2.Df (L2.KOf KX) mg "read_fence" K82.s_read_fence ["text"] := by
      dsimp only [L2.KOf]
      refine' L3.df_mk KX G ?a ?l ?c ?k (fun _ _ _ _ _ _ => L3.us1 fun _ => rfl)
      (case a => k_is); (case l => k_is); (case c => k_is); (case k => k_is)
    have d_law_cell_at : L2.Df (L2.KOf KX) mg "_law_cell_at" K82.s_law_cell_at ["script", "k"] := by
      dsimp only [L2.KOf]
      refine' L3.df_mk KX G ?a ?l ?c ?k (fun _ _ _ _ _ _ => L3.us2 fun _ _ => rfl)
      (case a => k_is); (case l => k_is); (case c => k_is); (case k => k_is)
    have d_law_same : L2.Df (L2.KOf KX) mg "_law_same" K82.s_law_same ["found", "due"] := by
      dsimp only [L2.KOf]
      refine' L3.df_mk KX G ?a ?l ?c ?k (fun _ _ _ _ _ _ => L3.us2 fun _ _ => rfl)
      (case a => k_is); (case l => k_is); (case c => k_is); (case k => k_is)
    have d_law_odd : L2.Df (L2.KOf KX) mg "_law_odd" K82.s_law_odd ["cell"] := by
      dsimp only [L2.KOf]
      refine' L3.df_mk KX G ?a ?l ?c ?k (fun _ _ _ _ _ _ => L3.us1 fun _ => rfl)
      (case a => k_is); (case l => k_is); (case c => k_is); (case k => k_is)
    have d_law_text : L2.Df (L2.KOf KX) mg "_law_text" K82.s_law_text ["script"] := by
      dsimp only [L2.KOf]
      refine' L3.df_mk KX G ?a ?l ?c ?k (fun _ _ _ _ _ _ => L3.us1 fun _ => rfl)
      (case a => k_is); (case l => k_is); (case c => k_is); (case k => k_is)
    have d_law_due : L2.Df (L2.KOf KX) mg "_law_due" K82.s_law_due ["text"] := by
      dsimp only [L2.KOf]
      refine' L3.df_mk KX G ?a ?l ?c ?k (fun _ _ _ _ _ _ => L3.us1 fun _ => rfl)
      (case a => k_is); (case l => k_is); (case c => k_is); (case k => k_is)
    have d_law_due_below : L2.Df (L2.KOf KX) mg "_law_due_below" K82.s_law_due_below ["text"] := by
      dsimp only [L2.KOf]
      refine' L3.df_mk KX G ?a ?l ?c ?k (fun _ _ _ _ _ _ => L3.us1 fun _ => rfl)
      (case a => k_is); (case l => k_is); (case c => k_is); (case k => k_is)
    have d_law_read : L2.Df (L2.KOf KX) mg "_law_read" K82.s_law_read ["text"] := by
      dsimp only [L2.KOf]
      refine' L3.df_mk KX G ?a ?l ?c ?k (fun _ _ _ _ _ _ => L3.us1 fun _ => rfl)
      (case a => k_is); (case l => k_is); (case c => k_is); (case k => k_is)
    have d_law_read_fence : L2.Df (L2.KOf KX) mg "_law_read_fence" K82.s_law_read_fence ["text"] := by
      dsimp only [L2.KOf]
      refine' L3.df_mk KX G ?a ?l ?c ?k (fun _ _ _ _ _ _ => L3.us1 fun _ => rfl)
      (case a => k_is); (case l => k_is); (case c => k_is); (case k => k_is)
    have d_law : L2.Df (L2.KOf KX) mg "law" K82.s_law ["script"] := by
      dsimp only [L2.KOf]
      refine' L3.df_mk KX G ?a ?l ?c ?k (fun _ _ _ _ _ _ => L3.us1 fun _ => rfl)
      (case a => k_is); (case l => k_is); (case c => k_is); (case k => k_is)
    have g_MOST_FIGURES : ∃ u, mg "MOST_FIGURES" = some u ∧ L2.RelV (.int 60) u := by
      refine' ⟨_, PySem.W.mg_of KX G ?a, ?b⟩
      (case a => k_is); (case b => exact ⟨_, rfl⟩)
    have k_FIGURES : L3.KTab PySem.Challenge.rw_oneslate_k82_numbers_read.prog w (L2.KOf KX) mg "FIGURES" K82.ktab_FIGURES := by
      dsimp only [L2.KOf]
      refine' L3.ktab_mk KX G ?a ?s ?l ?k ?f
      (case a => k_is); (case s => decide); (case l => k_is)
      case k =>
        intro e he
        rcases List.mem_cons.mp he with rfl | he
        · exact ⟨"0", rfl, rfl⟩
        rcases List.mem_cons.mp he with rfl | he
        · exact ⟨"1", rfl, rfl⟩
        rcases List.mem_cons.mp he with rfl | he
        · exact ⟨"2", rfl, rfl⟩
        rcases List.mem_cons.mp he with rfl | he
        · exact ⟨"3", rfl, rfl⟩
        rcases List.mem_cons.mp he with rfl | he
        · exact ⟨"4", rfl, rfl⟩
        rcases List.mem_cons.mp he with rfl | he
        · exact ⟨"5", rfl, rfl⟩
        rcases List.mem_cons.mp he with rfl | he
        · exact ⟨"6", rfl, rfl⟩
        rcases List.mem_cons.mp he with rfl | he
        · exact ⟨"7", rfl, rfl⟩
        rcases List.mem_cons.mp he with rfl | he
        · exact ⟨"8", rfl, rfl⟩
        rcases List.mem_cons.mp he with rfl | he
        · exact ⟨"9", rfl, rfl⟩
        cases he
      case f => exact ⟨_, _, rfl, ⟨_, rfl⟩, L3.krep_int, ⟨_, _, rfl, ⟨_, rfl⟩, L3.krep_int, ⟨_, _, rfl, ⟨_, rfl⟩, L3.krep_int, ⟨_, _, rfl, ⟨_, rfl⟩, L3.krep_int, ⟨_, _, rfl, ⟨_, rfl⟩, L3.krep_int, ⟨_, _, rfl, ⟨_, rfl⟩, L3.krep_int, ⟨_, _, rfl, ⟨_, rfl⟩, L3.krep_int, ⟨_, _, rfl, ⟨_, rfl⟩, L3.krep_int, ⟨_, _, rfl, ⟨_, rfl⟩, L3.krep_int, ⟨_, _, rfl, ⟨_, rfl⟩, L3.krep_int, rfl⟩⟩⟩⟩⟩⟩⟩⟩⟩⟩
    have x_NoText : ∃ C, L3.ExV (L2.KOf KX) mg "NoText" C := by
      dsimp only [L2.KOf]
      refine' ⟨_, PySem.W.mg_of KX G ?a, ?b⟩
      (case a => k_is); (case b => kernel_rfl)
    have kt : L2.Kit (L2.KOf KX) := L2.kit_all _
    have Bx : L3.Bl3 mg := by
      refine' ⟨PySem.W.mg_none_of KX G ?z0, PySem.W.mg_none_of KX G ?z1, PySem.W.mg_none_of KX G ?z2, PySem.W.mg_none_of KX G ?z3, PySem.W.mg_none_of KX G ?z4, PySem.W.mg_none_of KX G ?z5, PySem.W.mg_none_of KX G ?z6, PySem.W.mg_none_of KX G ?z7, PySem.W.mg_none_of KX G ?z8, PySem.W.mg_none_of KX G ?z9, PySem.W.mg_none_of KX G ?z10, PySem.W.mg_none_of KX G ?z11, PySem.W.mg_none_of KX G ?z12, PySem.W.mg_none_of KX G ?z13, PySem.W.mg_none_of KX G ?z14, PySem.W.mg_none_of KX G ?z15, PySem.W.mg_none_of KX G ?z16, PySem.W.mg_none_of KX G ?z17, PySem.W.mg_none_of KX G ?z18⟩
      (case z0 => k_is); (case z1 => k_is); (case z2 => k_is); (case z3 => k_is); (case z4 => k_is); (case z5 => k_is); (case z6 => k_is); (case z7 => k_is); (case z8 => k_is); (case z9 => k_is); (case z10 => k_is); (case z11 => k_is); (case z12 => k_is); (case z13 => k_is); (case z14 => k_is); (case z15 => k_is); (case z16 => k_is); (case z17 => k_is); (case z18 => k_is)
    exact L3.all_mk hmg d_law (fun _ _ _ _ _ _ _ => rfl) K82.law_true (fun base f fd F => K82.ok_law ⟨d_read_number, d_read_fence, d_law_cell_at, d_law_same, d_law_odd, d_law_text, d_law_due, d_law_due_below, d_law_read, d_law_read_fence, d_law, g_MOST_FIGURES, k_FIGURES, x_NoText, Bx, kt⟩ F)


