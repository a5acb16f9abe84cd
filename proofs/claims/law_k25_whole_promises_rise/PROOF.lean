import PyProof.Rows.All
import Wide.All
import OpenK.AllK
import Wide.FinOn
import Lean
import PyProof.EqAt
import PyProof.EqKinds
import PyProof.TupleCall
import KE.KSortTup
import PyProof.ZipIter
import KE.KMinKey
import KE.KRevSl
import KE.KSortedM
import PyProof.Rows.EnumRows
import PyProof.EnumStmt
import PySem.Challenge.RW_oneslate_k25_whole_promises_rise
set_option Elab.async false
set_option linter.all false
set_option maxRecDepth 100000
/-! THE HAND LAYER, for ints, bools, texts, own classes, LISTS and tuples (index, slices, in, append, pop ..), calls, loops. Paste it whole ahead of your own text; what your proof does not reach may be deleted. -/
namespace L2
open PySem PySem.Spec PyProof.Rows

/-- a key: an int or a str -/
abbrev Key := Sum Int Str
def keyIs : Key → Value → Bool
  | .inl k, v => Value.isInt k v
  | .inr x, v => Value.isStrOf x v
def keyH (w : World) : Key → Int
  | .inl k => hashInt k
  | .inr x => hashStr w x
theorem keyIs_shape : ∀ {k : Key} {v : Value}, keyIs k v = true → (∃ i t, k = Sum.inl i ∧ v = Value.int i t) ∨ (∃ x t, k = Sum.inr x ∧ v = Value.str x t)
  | .inl i, v, h => by
    obtain ⟨t, e⟩ := Value.isInt_shape (k := i) (v := v) h
    exact .inl ⟨i, t, rfl, e⟩
  | .inr x, v, h => by
    obtain ⟨t, e⟩ := Value.isStrOf_shape (x := x) (v := v) h
    exact .inr ⟨x, t, rfl, e⟩
theorem keyIs_int (i : Int) (t : Tok) : keyIs (.inl i) (.int i t) = true := by simp [keyIs, Value.isInt]
theorem keyIs_str (x : Str) (t : Tok) : keyIs (.inr x) (.str x t) = true := by simp [keyIs, Value.isStrOf]
theorem key_ll (a b : Int) : decide ((Sum.inl a : Key) = Sum.inl b) = (a == b) := by
  by_cases e : a = b
  · subst e; simp
  · have h : ¬ (Sum.inl a : Key) = Sum.inl b := fun q => e (Sum.inl.inj q)
    rw [decide_eq_false h]
    exact (beq_eq_false_iff_ne.mpr e).symm
theorem key_rr (a b : Str) : decide ((Sum.inr a : Key) = Sum.inr b) = decide (a = b) := by
  by_cases e : a = b
  · subst e; simp
  · have h : ¬ (Sum.inr a : Key) = Sum.inr b := fun q => e (Sum.inr.inj q)
    rw [decide_eq_false h, decide_eq_false e]
theorem key_lr (a : Int) (b : Str) : decide ((Sum.inl a : Key) = Sum.inr b) = false := decide_eq_false (fun q => nomatch q)
theorem key_rl (a : Str) (b : Int) : decide ((Sum.inr a : Key) = Sum.inl b) = false := decide_eq_false (fun q => nomatch q)

def mixKind (prog : Program) (w : World) : PySem.KeyKind prog w Key where
  is := keyIs
  hash := keyH w
  inj := fun v a b ha hb => by
    rcases keyIs_shape ha with ⟨i, t, rfl, rfl⟩ | ⟨x, t, rfl, rfl⟩
    · rcases keyIs_shape hb with ⟨j, u, rfl, e⟩ | ⟨y, u, rfl, e⟩
      · injection e with e1 _; rw [e1]
      · exact nomatch e
    · rcases keyIs_shape hb with ⟨j, u, rfl, e⟩ | ⟨y, u, rfl, e⟩
      · exact nomatch e
      · injection e with e1 _; rw [e1]
  byValue := fun k v h => by
    rcases keyIs_shape h with ⟨i, t, rfl, rfl⟩ | ⟨x, t, rfl, rfl⟩ <;> rfl
  pyHash := fun hv h => by
    rcases keyIs_shape hv with ⟨i, t, rfl, rfl⟩ | ⟨x, t, rfl, rfl⟩
    · exact wpAny_pyHash_int h
    · exact wpAny_pyHash_str h
  eqBool := fun hu hv h => by
    rcases keyIs_shape hu with ⟨i, t, rfl, rfl⟩ | ⟨x, t, rfl, rfl⟩
    · rcases keyIs_shape hv with ⟨j, u, rfl, rfl⟩ | ⟨y, u, rfl, rfl⟩
      · rw [key_ll] at h; exact wpAny_eqBool_int h
      · rw [key_lr] at h; exact SeqAt.EqAt.int_str i t y u _ _ _ _ h
    · rcases keyIs_shape hv with ⟨j, u, rfl, rfl⟩ | ⟨y, u, rfl, rfl⟩
      · rw [key_rl] at h; exact SeqAt.EqAt.str_int x t j u _ _ _ _ h
      · rw [key_rr] at h; exact wpAny_eqBool_str h
  «strs» := fun k x t v h => by
    rcases keyIs_shape h with ⟨i, u, rfl, e⟩ | ⟨y, u, rfl, e⟩
    · exact nomatch e
    · injection e with e1 _
      subst e1
      cases v <;> rfl

theorem mixKind_int (prog : Program) (w : World) (i : Int) (t : Tok) : (mixKind prog w).is (.inl i) (.int i t) = true := keyIs_int i t
theorem mixKind_str (prog : Program) (w : World) (x : Str) (t : Tok) : (mixKind prog w).is (.inr x) (.str x t) = true := keyIs_str x t
end L2

namespace L2
open PySem PySem.Spec PyProof.Rows

/-- a value, without the heap -/
inductive V where
  | non | bl (b : Bool) | int (i : Int) | str (x : Str) | byt (b : Array UInt8) | flt (b : UInt64) | ref (a : Addr) | ty (n : String)
  deriving DecidableEq

def RelV : V → Value → Prop
  | .non, u => u = Value.none
  | .bl b, u => u = Value.bool b
  | .int i, u => ∃ t, u = Value.int i t
  | .str x, u => ∃ t, u = Value.str x t
  | .byt b, u => ∃ t, u = Value.bytes b t
  | .flt b, u => ∃ t, u = Value.float b t
  | .ref a, u => u = Value.ref a
  | .ty n, u => u = Value.type n

abbrev Vals : List V → List Value → Prop := Paired RelV
theorem Vals.length {xs : List V} {us : List Value} (r : Vals xs us) : xs.length = us.length := Paired.length r
theorem Vals.get : ∀ {xs : List V} {us : List Value} {i : Nat} {x : V}, Vals xs us → xs[i]? = some x → ∃ u, us[i]? = some u ∧ RelV x u
  | _, _, _, _, .nil, e => by simp at e
  | _, _, 0, _, .cons r _, e => by simp at e; subst e; exact ⟨_, rfl, r⟩
  | _, _, i + 1, x, .cons _ t, e => by
    obtain ⟨u, h1, h2⟩ := Vals.get (i := i) (x := x) t (by simpa using e)
    exact ⟨u, by simpa using h1, h2⟩
theorem Vals.append : ∀ {xs ys : List V} {us ws : List Value}, Vals xs us → Vals ys ws → Vals (xs ++ ys) (us ++ ws)
  | _, _, _, _, .nil, s => s
  | _, _, _, _, .cons r t, s => .cons r (Vals.append t s)
theorem Vals.take : ∀ {xs : List V} {us : List Value} (n : Nat), Vals xs us → Vals (xs.take n) (us.take n)
  | _, _, 0, _ => .nil
  | _, _, _ + 1, .nil => .nil
  | _, _, n + 1, .cons r t => .cons r (Vals.take n t)
theorem Vals.drop : ∀ {xs : List V} {us : List Value} (n : Nat), Vals xs us → Vals (xs.drop n) (us.drop n)
  | _, _, 0, r => r
  | _, _, _ + 1, .nil => .nil
  | _, _, n + 1, .cons _ t => Vals.drop n t

def RelO : Option V → Option Value → Prop
  | some v, some u => RelV v u
  | none, none => True
  | _, _ => False
def KV {κ : Type} : List (κ × V) → List (κ × Value) → Prop := Paired fun (p : κ × V) (q : κ × Value) => p.1 = q.1 ∧ RelV p.2 q.2

/-- a key of a dict (00_mix): an int or a text -/
def kV : Key → V
  | .inl i => .int i
  | .inr x => .str x

/-- what stands at a tracked address -/
inductive HO where
  /-- a list -/
  | lst (xs : List V)
  /-- a tuple (never changes) -/
  | tup (xs : List V)
  /-- a dict whose keys are ints and texts; one whose keys are tuples of ints and texts (the empty one is both) -/
  | dK (kvs : List (Key × V)) | dT (kvs : List (List Key × V))
  /-- a set of ints: its members, its size -/
  | set (S : Int → Bool) (n : Nat)
  /-- an instance of the class at C, its dict at dx, its attributes -/
  | ins (C dx : Addr) (fs : List (Str × V))
  /-- the dict of the instance at x -/
  | own (x : Addr)
  /-- the dict of an exception -/
  | xd (fs : List (Str × V))
  /-- a bound method, f of x -/
  | met (f x : Addr)
  /-- a range object lo, lo + 1, .. below hi -/
  | rng (lo hi : Int)
  /-- a thing that is known to the object (the script; a dict while a loop walks it): read, never written while it is so -/
  | frz (o : Obj) (u : HO)
  /-- a code object's table -/
  | tbl (ps : Array Value)
  /-- any other thing, by what is true of its one object (a def of one's own: SetO a S n := HO.ext fun h => ..) -/
  | ext (φ : Heap → Prop)

abbrev Hp := Addr → Option HO
def upd (H : Hp) (a : Addr) (o : HO) : Hp := fun b => if b = a then some o else H b
theorem upd_same {H : Hp} {a : Addr} {o : HO} : upd H a o a = some o := by unfold upd; rw [if_pos rfl]
theorem upd_ne {H : Hp} {a b : Addr} {o : HO} (h : b ≠ a) : upd H a o b = H b := by unfold upd; rw [if_neg h]
theorem upd_upd {H : Hp} {a : Addr} {o u : HO} : upd (upd H a o) a u = upd H a u := by
  funext b; unfold upd; split <;> rfl
/-- two objects of different content stand apart -/
theorem ne_of {H : Hp} {a b : Addr} {o u : HO} (h : H a = some o) (h' : H b = some u) (d : o ≠ u) : a ≠ b := by
  intro e; subst e; rw [h] at h'; exact d (Option.some.inj h')
theorem ne_of_none {H : Hp} {a b : Addr} {o : HO} (h : H a = some o) (h' : H b = none) : a ≠ b := by
  intro e; subst e; rw [h] at h'; cases h'

section
variable (P : Program) (w : World)
def ObjOk (H : Hp) (h : Heap) (a : Addr) : HO → Prop
  | .lst xs => xs.length ≤ sizeLine ∧ ∃ (its : List Value) (n : Nat), Vals xs its ∧ h.get? a = some { cls := .type "list", data := .seq its.toArray n }
  | .tup xs => xs.length ≤ sizeLine ∧ ∃ its : List Value, Vals xs its ∧ IsTup h a its.toArray
  | .dK kvs => kvs.length ≤ sizeLine ∧ (a == sysModules) = false ∧ ∃ vs, KV kvs vs ∧ h.DictOf (mixKind P w) a vs
  | .dT kvs => kvs.length ≤ sizeLine ∧ (a == sysModules) = false ∧ ∃ xs : List (List Key × Addr × Value),
      Paired (fun (p : List Key × V) (q : List Key × Addr × Value) => p.1 = q.1 ∧ H q.2.1 = some (.tup (p.1.map kV)) ∧ RelV p.2 q.2.2) kvs xs ∧
      ∃ o es ep, h.get? a = some o ∧ o.ExactDict ∧ o.data = .dict es ep ∧ es.toList = xs.map (entryOfKey (tupleKind (mixKind P w))) ∧ (xs.map (·.1)).Nodup
  | .set S n => h.SetOf (intKind P w) a S n
  | .ins C dx fs => H dx = some (.own a) ∧ fs.length ≤ 1000 ∧ dx ≠ a ∧ h.get? a = some (PySem.W.instObj C dx) ∧
      ∃ mA, h.Ns1 dx mA ∧ (∀ f, RelO (fs.lookup f) (mA f)) ∧ PySem.Within mA (fs.map (·.1))
  | .own _ => ∃ o, h.get? a = some o
  | .xd fs => ∃ mA, h.Ns1 a mA ∧ ∀ f, RelO (fs.lookup f) (mA f)
  | .rng lo hi => ∃ t u v, h.get? a = some { cls := .type "range", data := .fields #[.int lo t, .int hi u, .int 1 v] }
  | .frz o u => h.get? a = some o ∧ ObjOk H h a u
  | .tbl ps => h.get? a = some { cls := .none, data := .fields ps }
  | .met f x => h.get? a = some (PySem.W.methodObj (.ref f) (.ref x))
  | .ext φ => φ h ∧ (∃ o, h.get? a = some o) ∧ ∀ h1 h2 : Heap, φ h1 → (∀ o, h1.get? a = some o → h2.get? a = some o) → φ h2
/-- the abstract heap is held -/
def HOk (H : Hp) (h : Heap) : Prop := ∀ a o, H a = some o → ObjOk P w H h a o
end

section
variable {P : Program} {w : World} {H H' : Hp} {h h' : Heap} {a : Addr} {o : HO}
theorem ObjOk.lt (x : ObjOk P w H h a o) : a < h.objs.size := by
  cases o with
  | lst xs => obtain ⟨_, _, _, _, e⟩ := x; exact Heap.lt_size e
  | tup xs => obtain ⟨_, _, _, p⟩ := x; exact p.lt
  | dK kvs => obtain ⟨_, _, _, _, o, _, _, e, _⟩ := x; exact Heap.lt_size e
  | dT kvs => obtain ⟨_, _, _, _, o, _, _, e, _⟩ := x; exact Heap.lt_size e
  | set S n => obtain ⟨o, _, _, _, e, _⟩ := x; exact Heap.lt_size e
  | ins C dx fs => obtain ⟨_, _, _, e, _⟩ := x; exact Heap.lt_size e
  | own y => obtain ⟨_, e⟩ := x; exact Heap.lt_size e
  | xd fs => obtain ⟨_, ⟨_, _, _, e, _⟩, _⟩ := x; exact Heap.lt_size e
  | rng lo hi => obtain ⟨_, _, _, e⟩ := x; exact Heap.lt_size e
  | frz ob u => obtain ⟨e, _⟩ := x; exact Heap.lt_size e
  | tbl ps => exact Heap.lt_size (show h.get? a = some _ from x)
  | met f y => exact Heap.lt_size (show h.get? a = some _ from x)
  | ext φ => obtain ⟨_, ⟨_, e⟩, _⟩ := x; exact Heap.lt_size e
theorem Paired.mapP {α β : Type} {F G : α → β → Prop} : ∀ {l₁ : List α} {l₂ : List β}, Paired F l₁ l₂ → (∀ a b, F a b → G a b) → Paired G l₁ l₂
  | _, _, .nil, _ => .nil
  | _, _, .cons r t, f => .cons (f _ _ r) (Paired.mapP t f)
/-- what an object's description leans on: its own object, its own dict, the tuples -/
theorem ObjOk.stay (x : ObjOk P w H h a o) (k : ∀ b u, (b = a ∨ H b = some (.own a)) → h.get? b = some u → h'.get? b = some u)
    (ho : ∀ b, H b = some (.own a) → H' b = some (.own a)) (ht : ∀ b xs, H b = some (.tup xs) → H' b = some (.tup xs)) : ObjOk P w H' h' a o := by
  induction o with
  | lst xs => obtain ⟨z, its, n, r, e⟩ := x; exact ⟨z, its, n, r, k _ _ (.inl rfl) e⟩
  | tup xs => obtain ⟨z, its, r, ob, e, c⟩ := x; exact ⟨z, its, r, ob, k _ _ (.inl rfl) e, c⟩
  | dK kvs => obtain ⟨z, y, vs, r, ob, es, ep, e, c⟩ := x; exact ⟨z, y, vs, r, ob, es, ep, k _ _ (.inl rfl) e, c⟩
  | dT kvs =>
    obtain ⟨z, y, xs, r, ob, es, ep, e, c⟩ := x
    exact ⟨z, y, xs, Paired.mapP r fun p q z => ⟨z.1, ht _ _ z.2.1, z.2.2⟩, ob, es, ep, k _ _ (.inl rfl) e, c⟩
  | set S n => obtain ⟨ob, es, ep, t, e, c⟩ := x; exact ⟨ob, es, ep, t, k _ _ (.inl rfl) e, c⟩
  | ins C dx fs =>
    obtain ⟨d, z, ne, e, mA, ⟨od, es, ep, e2, c⟩, r⟩ := x
    exact ⟨ho _ d, z, ne, k _ _ (.inl rfl) e, mA, ⟨od, es, ep, k _ _ (.inr d) e2, c⟩, r⟩
  | own y => obtain ⟨ob, e⟩ := x; exact ⟨ob, k _ _ (.inl rfl) e⟩
  | xd fs => obtain ⟨mA, ⟨od, es, ep, e, c⟩, r⟩ := x; exact ⟨mA, ⟨od, es, ep, k _ _ (.inl rfl) e, c⟩, r⟩
  | rng lo hi => obtain ⟨t, u, v, e⟩ := x; exact ⟨t, u, v, k _ _ (.inl rfl) e⟩
  | frz ob u ih => obtain ⟨e, q⟩ := x; exact ⟨k _ _ (.inl rfl) e, ih q⟩
  | tbl ps =>
    have e : h.get? a = some { cls := .none, data := .fields ps } := x
    show h'.get? a = some { cls := .none, data := .fields ps }
    exact k a _ (.inl rfl) e
  | met f y =>
    have e : h.get? a = some (PySem.W.methodObj (.ref f) (.ref y)) := x
    show h'.get? a = some (PySem.W.methodObj (.ref f) (.ref y))
    exact k a _ (.inl rfl) e
  | ext φ => obtain ⟨p, ⟨o, e⟩, st⟩ := x; exact ⟨st _ _ p fun o q => k _ _ (.inl rfl) q, ⟨o, k _ _ (.inl rfl) e⟩, st⟩
theorem HOk.lt (x : HOk P w H h) (e : H a = some o) : a < h.objs.size := (x a o e).lt
theorem HOk.fresh (x : HOk P w H h) (e : h.objs.size ≤ a) : H a = none := by
  cases q : H a with
  | none => rfl
  | some u => exact absurd (Nat.lt_of_lt_of_le (x.lt q) e) (Nat.lt_irrefl _)
/-- every object of the heap is kept -/
theorem HOk.kept (x : HOk P w H h) (k : ∀ b u, h.get? b = some u → h'.get? b = some u) : HOk P w H h' := fun a o e =>
  (x a o e).stay (fun b u _ q => k b u q) (fun _ q => q) fun _ _ q => q
/-- a new object is laid and tracked -/
theorem HOk.laid (x : HOk P w H h) (k : ∀ b u, h.get? b = some u → h'.get? b = some u) (hp : h.objs.size ≤ a) (new : ObjOk P w (upd H a o) h' a o) : HOk P w (upd H a o) h' := fun b u e => by
  have hn := x.fresh hp
  by_cases hb : b = a
  · subst hb; rw [upd_same] at e; cases e; exact new
  · rw [upd_ne hb] at e
    exact (x b u e).stay (fun c v _ q => k c v q) (fun c q => by rw [upd_ne (ne_of_none q hn)]; exact q) fun c xs q => by rw [upd_ne (ne_of_none q hn)]; exact q
end

/-- what may be read as u: it is u, or a known u -/
def Rd (H : Hp) (a : Addr) (u : HO) : Prop := H a = some u ∨ ∃ o, H a = some (.frz o u)
theorem Rd.ok {P : Program} {w : World} {H : Hp} {h : Heap} {a : Addr} {u : HO} (r : Rd H a u) (x : HOk P w H h) : ObjOk P w H h a u := by
  rcases r with r | ⟨o, r⟩
  · exact x a u r
  · obtain ⟨_, q⟩ := x a _ r
    exact q
/-- what may be written -/
def Mut : Option HO → Prop
  | some (.lst _) => True
  | some (.dK _) => True
  | some (.dT _) => True
  | some (.set _ _) => True
  | some (.ins _ _ _) => True
  | some (.ext _) => True
  | _ => False
section
variable {P : Program} {w : World} {H : Hp} {h h' : Heap} {x e : Addr} {o' : HO}
/-- the object at e is changed: x itself, or the dict of the instance x -/
theorem HOk.write (ok : HOk P w H h) (mu : Mut (H x)) (he : e = x ∨ H e = some (.own x)) (k : ∀ b u, b ≠ e → h.get? b = some u → h'.get? b = some u) (heo : ∃ u, h'.get? e = some u)
    (new : ObjOk P w (upd H x o') h' x o') : HOk P w (upd H x o') h' := fun b u q => by
  have nown : ∀ c y, H c = some (.own y) → c ≠ x := fun c y r z => by subst z; rw [r] at mu; exact mu
  have ntup : ∀ c xs, H c = some (.tup xs) → c ≠ x := fun c xs r z => by subst z; rw [r] at mu; exact mu
  by_cases hb : b = x
  · subst hb; rw [upd_same] at q; cases q; exact new
  · rw [upd_ne hb] at q
    by_cases hbe : b = e
    · have q' : H b = some (.own x) := by
        rcases he with z | z
        · exact absurd (hbe.trans z) hb
        · rw [hbe]; exact z
      rw [q] at q'; cases q'
      obtain ⟨v, hv⟩ := heo
      exact ⟨v, by rw [hbe]; exact hv⟩
    · refine (ok b u q).stay (fun c v hc r => k c v ?_ r) (fun c r => by rw [upd_ne (nown c b r)]; exact r) fun c xs r => by rw [upd_ne (ntup c xs r)]; exact r
      rcases hc with rfl | hc
      · exact hbe
      · rintro rfl
        rcases he with z | z
        · exact nown c b hc z
        · rw [hc] at z; cases z; exact hb rfl
end

/-! ### kept unless tracked; of the frames at fs (the callers') the slots may change (an exception that passes writes there); of the records at ex (iterators) nothing is said -/
structure Un (fs ex : List Addr) (H H' : Hp) (h h' : Heap) : Prop where
  keep : ∀ b o, h.get? b = some o → H b = none → b ∉ fs → b ∉ ex → h'.get? b = some o
  slot : ∀ b o, h.get? b = some o → H b = none → b ∈ fs → b ∉ ex → ∃ sl, h'.get? b = some { o with slots := sl }
  free : ∀ b o, h.get? b = some o → H b = none → b ∉ ex → H' b = none
  there : ∀ b o, h.get? b = some o → b ∉ ex → ∃ o', h'.get? b = some o'
  tups : ∀ b xs, H b = some (.tup xs) → H' b = some (.tup xs)
  frzs : ∀ b o u, H b = some (.frz o u) → H' b = some (.frz o u)
  tbls : ∀ b ps, H b = some (.tbl ps) → ∃ more, H' b = some (.tbl (ps ++ more))
section
variable {fs fs' ex ex' : List Addr} {H H1 H2 : Hp} {h h1 h2 h' : Heap} {a x e : Addr} {o : HO}
theorem Un.any (u : Un fs ex H H1 h h1) {b : Addr} {ob : Obj} (q : h.get? b = some ob) (n : H b = none) (hx : b ∉ ex) : ∃ sl, h1.get? b = some { ob with slots := sl } := by
  by_cases hb : b ∈ fs
  · exact u.slot b ob q n hb hx
  · exact ⟨ob.slots, u.keep b ob q n hb hx⟩
theorem Un.kept (k : ∀ b u, h.get? b = some u → h'.get? b = some u) : Un fs ex H H h h' :=
  ⟨fun b ob q _ _ _ => k b ob q, fun b ob q _ _ _ => ⟨ob.slots, k b ob q⟩, fun _ _ _ n _ => n, fun b ob q _ => ⟨ob, k b ob q⟩, fun _ _ q => q, fun _ _ _ q => q, fun _ ps q => ⟨#[], by rw [q]; simp⟩⟩
theorem Un.refl : Un fs ex H H h h := Un.kept fun _ _ q => q
theorem Un.laid (k : ∀ b u, h.get? b = some u → h'.get? b = some u) (hp : h.objs.size ≤ a) (hn : H a = none) : Un fs ex H (upd H a o) h h' where
  keep := fun b u q _ _ _ => k b u q
  slot := fun b u q _ _ _ => ⟨u.slots, k b u q⟩
  free := fun b u q n _ => by rw [upd_ne (Nat.ne_of_lt (Nat.lt_of_lt_of_le (Heap.lt_size q) hp))]; exact n
  there := fun b u q _ => ⟨u, k b u q⟩
  tups := fun b xs q => by rw [upd_ne (ne_of_none q hn)]; exact q
  frzs := fun b u xs q => by rw [upd_ne (ne_of_none q hn)]; exact q
  tbls := fun b ps q => ⟨#[], by rw [upd_ne (ne_of_none q hn), q]; simp⟩
theorem Un.write (mu : Mut (H x)) (he : e = x ∨ H e = some (.own x)) (k : ∀ b u, b ≠ e → h.get? b = some u → h'.get? b = some u) (heo : ∃ u, h'.get? e = some u) : Un fs ex H (upd H x o) h h' := by
  have hx : ∀ b, H b = none → b ≠ x := fun b n z => by subst z; rw [n] at mu; exact mu
  have hb : ∀ b, H b = none → b ≠ e := fun b n z => by
    subst z
    rcases he with r | r
    · exact hx b n r
    · rw [n] at r; cases r
  have hm : ∀ b u, H b = some u → ¬ Mut (some u) → b ≠ x := fun b u q nm z => by subst z; rw [q] at mu; exact nm mu
  refine ⟨fun b u q n _ _ => k b u (hb b n) q, fun b u q n _ _ => ⟨u.slots, k b u (hb b n) q⟩, fun b u q n _ => by rw [upd_ne (hx b n)]; exact n, fun b u q _ => ?_,
    fun b xs q => by rw [upd_ne (hm b _ q fun z => z)]; exact q, fun b u xs q => by rw [upd_ne (hm b _ q fun z => z)]; exact q, fun b ps q => ⟨#[], by rw [upd_ne (hm b _ q fun z => z), q]; simp⟩⟩
  by_cases hbe : b = e
  · subst hbe; exact heo
  · exact ⟨u, k b u hbe q⟩
end

/-! ### the heap without what is tracked -/
def trk (h : Heap) (H : Hp) : List Addr := (List.range h.objs.size).filter fun a => (H a).isSome
def hidT (h : Heap) (H : Hp) : Heap := PySem.W.hideAll h (trk h H)
theorem hidT_size (h : Heap) (H : Hp) : (hidT h H).objs.size = h.objs.size := PySem.W.hideAll_size _ _
theorem hidT_get {h : Heap} {H : Hp} {b : Addr} {o : Obj} (e : h.get? b = some o) (n : H b = none) : (hidT h H).get? b = some o :=
  PySem.W.hideAll_get _ e fun hm => by
    have q : (H b).isSome = true := (List.mem_filter.mp hm).2
    rw [n] at q; simp at q
theorem of_hidT {h : Heap} {H : Hp} {b : Addr} {o : Obj} (e : (hidT h H).get? b = some o) : h.get? b = some o ∧ H b = none := by
  have e' : h.get? b = some o := PySem.W.of_hideAll (trk h H) e
  refine ⟨e', ?_⟩
  cases q : H b with
  | none => rfl
  | some x =>
    have hm : b ∈ trk h H := List.mem_filter.mpr ⟨List.mem_range.mpr (Heap.lt_size e'), by simp [q]⟩
    have z : (hidT h H).get? b = none := PySem.W.hideAll_none (trk h H) hm
    rw [z] at e; cases e

/-! ### OpenK's ledger, filled with every new object but one -/
def allNews (g h : Heap) (L : Addr) : List (Addr × Obj) := (List.range h.objs.size).filterMap fun a => if a = L ∨ (g.get? a).isSome = true then none else (h.get? a).map fun o => (a, o)
def rest (g h : Heap) (L d : Addr) : List (Addr × Obj) := (allNews g h L).filter fun p => decide (p.1 ≠ d)
end L2

namespace L2
open PySem PySem.Spec PyProof.Rows

/-- the module's facts, over the base: the heap at the law's entry without what is tracked there -/
structure Mod (K : PySem.W.Frag) (mg : Str → Option Value) (base : Heap) : Prop where
  kin : K.In base
  glob : base.Ns mainGlobals mg
  blt : ∃ mb, base.Ns builtinsNs mb ∧ ∀ x : Str, x ≠ "__name__" → mb x = bootBuiltins x
  nolimit : base.NoLimit

/-- the context: a def's body (or a comprehension's block) running. base: fixed through the whole law; s₀, H₀: the entry; outer: the frames whose slots others may change (a def's callers); stack: all frames that run;
   ex: iterators that were made ahead of the entry and are walked here (a comprehension's); fn: the names whose cells were made at the entry (a def: all; a comprehension's block: its own); calm: not within an except suite; pn: pins that every state bears; xe: what is wanted of an exception that leaves the code -/
structure Cx where
  prog : Program
  w : World
  K : PySem.W.Frag
  mg : Str → Option Value
  base : Heap
  A : Around
  N : List Str
  s₀ : Shared
  H₀ : Hp
  env : Env
  outer : List Env
  stack : List Env
  ex : List Addr
  fn : Str → Bool
  calm : Bool
  pn : List (Addr × Obj)
  xe : Value → Shared → Prop
/-- the callers' frames -/
def frs (l : List Env) : List Addr := l.filterMap (·.frame)
abbrev Cx.fs (X : Cx) : List Addr := frs X.outer

def Vis (sc : Scope) (x : Str) : Prop := sc.names.lookup x = some .local ∨ sc.names.lookup x = some .cell ∨ sc.names.lookup x = some .free
def Loc (sc : Scope) (x : Str) : Prop := sc.names.lookup x = some .local ∨ sc.names.lookup x = some .cell
def Look (env : Env) (h : Heap) (m : Str → Option Value) (x : Str) (u : Value) : Prop :=
  (env.kindOf x = some .local ∧ m x = some u) ∨ ((env.kindOf x = some .cell ∨ env.kindOf x = some .free) ∧ ∃ c, env.cells.lookup x = some c ∧ h.IsCell c (some u))

structure Cx.Ok (X : Cx) : Prop where
  mod : Mod X.K X.mg X.base
  kind : X.env.scope.kind = .function
  glob : X.env.globals = mainGlobals
  blt : X.env.builtins = builtinsNs
  above : X.s₀.heap.objs.size ≤ X.env.locals
  inj : ∀ x y c, X.env.cells.lookup x = some c → X.env.cells.lookup y = some c → x = y
  has : ∀ x, (X.env.kindOf x = some .cell ∨ X.env.kindOf x = some .free) → ∃ c, X.env.cells.lookup x = some c
  cab : ∀ x c, X.fn x = true → X.env.cells.lookup x = some c → X.s₀.heap.objs.size ≤ c
  hd : X.calm = true → X.A.handled = none
  frames : X.A.frames = some X.stack
  stk : X.stack = X.outer ∨ (X.stack = X.env :: X.outer ∧ X.env.frame = some X.env.locals)
  exf : ∀ b ∈ X.ex, b ≠ X.env.locals ∧ ∀ x c, X.env.cells.lookup x = some c → c ≠ b
  bs : ∀ b o, X.base.get? b = some o → X.s₀.heap.get? b = some o ∧ X.H₀ b = none
  bsz : X.base.objs.size ≤ X.s₀.heap.objs.size
  noex : ∀ b o, X.base.get? b = some o → b ∉ X.ex
  exfs : ∀ b ∈ X.ex, b ∉ X.fs
  funs : X.s₀.heap.FunFrames X.base X.outer
  frf : ∀ b ∈ X.fs, X.H₀ b = none

structure Inv (X : Cx) (pins : List (Addr × Obj)) (σ : List (Option V)) (H : Hp) (s : Shared) : Prop where
  ok : X.Ok
  os : s.os = X.s₀.os
  bare : AllBare s.gens
  base : Un X.fs X.ex X.H₀ H X.s₀.heap s.heap
  loc : ∃ m, s.heap.Ns X.env.locals m ∧ ∀ (i : Nat) (x : Str) (v : V), X.N[i]? = some x → σ[i]? = some (some v) → Vis X.env.scope x → ∃ u, RelV v u ∧ Look X.env s.heap m x u
  cell : ∀ x c, X.env.cells.lookup x = some c → ∃ v, s.heap.IsCell c v
  free : H X.env.locals = none
  freeC : ∀ x c, X.env.cells.lookup x = some c → H c = none
  pin : ∀ p ∈ X.pn ++ pins, s.heap.get? p.1 = some p.2 ∧ H p.1 = none ∧ p.1 ≠ X.env.locals ∧ p.1 ∉ X.fs ∧ ∀ v, p.2.data ≠ .cell v
  hok : HOk X.prog X.w H s.heap
  len : σ.length = X.N.length

section
variable {X : Cx} {pins : List (Addr × Obj)} {σ : List (Option V)} {H H' : Hp} {s : Shared} {h' : Heap}

theorem Cx.Ok.nofr (ok : X.Ok) {b : Addr} {o : Obj} (e : X.base.get? b = some o) : b ∉ X.fs := fun hb => by
  have := (ok.funs.mem hb).1
  rw [e] at this; cases this
theorem Inv.bs (I : Inv X pins σ H s) : ∀ b o, X.base.get? b = some o → s.heap.get? b = some o ∧ H b = none := fun b o e =>
  ⟨I.base.keep b o (I.ok.bs b o e).1 (I.ok.bs b o e).2 (I.ok.nofr e) (I.ok.noex b o e), I.base.free b o (I.ok.bs b o e).1 (I.ok.bs b o e).2 (I.ok.noex b o e)⟩
theorem Inv.bk (I : Inv X pins σ H s) : ∀ b o, X.base.get? b = some o → s.heap.get? b = some o := fun b o e => (I.bs b o e).1
theorem Inv.mod (I : Inv X pins σ H s) : Mod X.K X.mg X.base := I.ok.mod
theorem Inv.kIn (I : Inv X pins σ H s) : X.K.In s.heap := I.ok.mod.kin.keeps I.bk
/-- the frame over the base: for OpenK's rules (K.In X.base is I.mod.kin) -/
theorem Inv.fr (I : Inv X pins σ H s) : ∃ m, Fr X.base X.env.locals s.heap m :=
  let ⟨m, hn, _⟩ := I.loc
  ⟨m, hn, I.bk, Nat.le_trans I.ok.bsz I.ok.above⟩
theorem Inv.lt (I : Inv X pins σ H s) : X.env.locals < s.heap.objs.size := let ⟨_, hn, _⟩ := I.loc; hn.lt
theorem Inv.sz (I : Inv X pins σ H s) : X.s₀.heap.objs.size ≤ s.heap.objs.size := Nat.le_trans I.ok.above (Nat.le_of_lt I.lt)
theorem Inv.nofs (I : Inv X pins σ H s) {a : Addr} (h : s.heap.objs.size ≤ a) : a ∉ X.fs := fun hb => by
  obtain ⟨_, o, ho, _⟩ := I.ok.funs.mem hb
  exact absurd (Nat.lt_of_lt_of_le (Heap.lt_size ho) (Nat.le_trans I.sz h)) (Nat.lt_irrefl _)
theorem Inv.cne (I : Inv X pins σ H s) : ∀ x c, X.env.cells.lookup x = some c → c ≠ X.env.locals := fun x c e z => by
  obtain ⟨v, o, ho, hd⟩ := I.cell x c e
  obtain ⟨m, ⟨o', es, ep, ho', hd', _⟩, _⟩ := I.loc
  rw [z, ho'] at ho; cases ho; rw [hd'] at hd; cases hd
theorem Inv.funs (I : Inv X pins σ H s) : s.heap.FunFrames X.base X.outer := by
  have all : ∀ (l : List Env), (∀ b ∈ frs l, b ∈ X.fs) → X.s₀.heap.FunFrames X.base l → s.heap.FunFrames X.base l := by
    intro l
    induction l with
    | nil => intro _ _; trivial
    | cons env r ih =>
      intro hs hl
      obtain ⟨hk, ⟨L, o, hf, hn, ho, hd⟩, hr⟩ := hl
      have hL : L ∈ X.fs := hs L (by unfold frs; rw [List.filterMap_cons, hf]; exact List.mem_cons_self)
      obtain ⟨sl, e⟩ := I.base.slot L o ho (I.ok.frf L hL) hL fun z => I.ok.exfs L z hL
      exact ⟨hk, ⟨L, _, hf, hn, e, hd⟩, ih (fun b hb => hs b (by unfold frs; rw [List.filterMap_cons, hf]; exact List.mem_cons_of_mem _ hb)) hr⟩
  exact all X.outer (fun _ hb => hb) I.ok.funs

/-- the frames that run, for a call -/
theorem Inv.stack (I : Inv X pins σ H s) : s.heap.FunFrames X.base X.stack := by
  rcases I.ok.stk with e | ⟨e, hf⟩
  · rw [e]; exact I.funs
  · rw [e]
    obtain ⟨m, hn, _⟩ := I.loc
    refine .cons (by rw [I.ok.kind]; decide) hf hn ?_ I.funs
    exact Heap.get?_none_of_le (Nat.le_trans I.ok.bsz I.ok.above)
theorem Inv.stkSub (I : Inv X pins σ H s) : ∀ b ∈ frs X.stack, b ∈ X.env.locals :: X.fs := fun b hb => by
  rcases I.ok.stk with e | ⟨e, hf⟩
  · rw [e] at hb; exact List.mem_cons_of_mem _ hb
  · rw [e] at hb
    unfold frs at hb
    rw [List.filterMap_cons, hf] at hb
    exact hb
theorem Inv.stkFree (I : Inv X pins σ H s) : ∀ b ∈ frs X.stack, H b = none := fun b hb => by
  rcases List.mem_cons.mp (I.stkSub b hb) with e | hb
  · rw [e]; exact I.free
  · obtain ⟨_, o, ho, _⟩ := I.ok.funs.mem hb
    exact I.base.free b o ho (I.ok.frf b hb) fun z => I.ok.exfs b z hb

/-- THE STEP: the untracked objects but the frame and the records at ch are kept (the callers' frames up to slots), the frame's map is kept, the new abstract heap is held -/
theorem Inv.step {g' : Array GenState} {t' : Nat} {d' : Drawn} {ch : List Addr} (I : Inv X pins σ H s)
    (hch : ∀ b ∈ ch, (b ∈ X.ex ∨ X.s₀.heap.objs.size ≤ b) ∧ b ≠ X.env.locals ∧ (∀ x c, X.env.cells.lookup x = some c → c ≠ b) ∧ ∀ p ∈ X.pn ++ pins, p.1 ≠ b)
    (keep : ∀ b o, b ≠ X.env.locals → b ∉ X.fs → b ∉ ch → s.heap.get? b = some o → H b = none → h'.get? b = some o)
    (slot : ∀ b o, b ≠ X.env.locals → b ∈ X.fs → b ∉ ch → s.heap.get? b = some o → H b = none → ∃ sl, h'.get? b = some { o with slots := sl }) (free : ∀ b o, b ∉ ch → s.heap.get? b = some o → H b = none → H' b = none)
    (there : ∀ b o, b ∉ ch → s.heap.get? b = some o → ∃ o', h'.get? b = some o')
    (tups : ∀ b xs, H b = some (.tup xs) → H' b = some (.tup xs)) (frzs : ∀ b o u, H b = some (.frz o u) → H' b = some (.frz o u)) (tbls : ∀ b ps, H b = some (.tbl ps) → ∃ more, H' b = some (.tbl (ps ++ more)))
    (ns : ∀ m, s.heap.Ns X.env.locals m → h'.Ns X.env.locals m) (hok : HOk X.prog X.w H' h') (hg : AllBare g') :
    Inv X pins σ H' { s with heap := h', gens := g', drawn := d', toks := t' } := by
  have neL : ∀ b o, X.s₀.heap.get? b = some o → b ≠ X.env.locals := fun b o e => Nat.ne_of_lt (Nat.lt_of_lt_of_le (Heap.lt_size e) I.ok.above)
  have neC : ∀ b o, X.s₀.heap.get? b = some o → b ∉ X.ex → b ∉ ch := fun b o e hx hb => by
    rcases (hch b hb).1 with z | z
    · exact hx z
    · exact absurd (Nat.lt_of_lt_of_le (Heap.lt_size e) z) (Nat.lt_irrefl _)
  have cellK : ∀ x c, X.env.cells.lookup x = some c → ∀ v, s.heap.IsCell c v → h'.IsCell c v := fun x c e v ⟨o, ho, hd⟩ => by
    have nch : c ∉ ch := fun z => (hch c z).2.2.1 x c e rfl
    by_cases hc : c ∈ X.fs
    · obtain ⟨sl, q⟩ := slot c o (I.cne x c e) hc nch ho (I.freeC x c e)
      exact ⟨_, q, hd⟩
    · exact ⟨o, keep c o (I.cne x c e) hc nch ho (I.freeC x c e), hd⟩
  refine ⟨I.ok, I.os, hg, ⟨fun b o e n hb hx => ?_, fun b o e n hb hx => ?_, fun b o e n hx => ?_, fun b o e hx => ?_, fun b xs e => tups b xs (I.base.tups b xs e), fun b o xs e => frzs b o xs (I.base.frzs b o xs e), fun b ps e => ?_⟩, ?_, fun x c e => ?_, ?_, fun x c e => ?_, fun p hp => ?_, hok, I.len⟩
  · exact keep b o (neL b o e) hb (neC b o e hx) (I.base.keep b o e n hb hx) (I.base.free b o e n hx)
  · obtain ⟨sl, e1⟩ := I.base.slot b o e n hb hx
    obtain ⟨sl', e2⟩ := slot b _ (neL b o e) hb (neC b o e hx) e1 (I.base.free b o e n hx)
    exact ⟨sl', e2⟩
  · obtain ⟨o', e1⟩ := I.base.there b o e hx
    exact free b o' (neC b o e hx) e1 (I.base.free b o e n hx)
  · obtain ⟨o', e1⟩ := I.base.there b o e hx
    exact there b o' (neC b o e hx) e1
  · obtain ⟨m1, e1⟩ := I.base.tbls b ps e
    obtain ⟨m2, e2⟩ := tbls b _ e1
    exact ⟨m1 ++ m2, by rw [e2, Array.append_assoc]⟩
  · obtain ⟨m, hn, hl⟩ := I.loc
    refine ⟨m, ns m hn, fun i x v e1 e2 e3 => ?_⟩
    obtain ⟨u, r, l⟩ := hl i x v e1 e2 e3
    refine ⟨u, r, ?_⟩
    rcases l with l | ⟨k, c, e, z⟩
    · exact .inl l
    · exact .inr ⟨k, c, e, cellK x c e _ z⟩
  · obtain ⟨v, z⟩ := I.cell x c e
    exact ⟨v, cellK x c e v z⟩
  · obtain ⟨m, ⟨o, _, _, ho, _⟩, _⟩ := I.loc
    exact free _ o (fun z => (hch _ z).2.1 rfl) ho I.free
  · obtain ⟨v, o, ho, hd⟩ := I.cell x c e
    exact free c o (fun z => (hch c z).2.2.1 x c e rfl) ho (I.freeC x c e)
  · obtain ⟨e, n, ne, nf, d⟩ := I.pin p hp
    have nch : p.1 ∉ ch := fun z => (hch p.1 z).2.2.2 p hp rfl
    exact ⟨keep p.1 p.2 ne nf nch e n, free p.1 p.2 nch e n, ne, nf, d⟩
/-- .. where the frame's own object is kept too -/
theorem Inv.un {t' : Nat} (I : Inv X pins σ H s) (u : Un X.fs [] H H' s.heap h') (hok : HOk X.prog X.w H' h') : Inv X pins σ H' { s with heap := h', toks := t' } := by
  obtain ⟨m, ⟨o, es, ep, ho, r⟩, _⟩ := id I.loc
  obtain ⟨sl, hL⟩ := u.any ho I.free (by simp)
  exact I.step (g' := s.gens) (d' := s.drawn) (ch := []) (fun _ z => nomatch z) (fun b o _ hb _ e n => u.keep b o e n hb (by simp)) (fun b o _ hb _ e n => u.slot b o e n hb (by simp)) (fun b o _ e n => u.free b o e n (by simp)) (fun b o _ e => u.there b o e (by simp)) u.tups u.frzs u.tbls (fun m' hm => by
    obtain ⟨o', es', ep', ho', r'⟩ := hm
    rw [ho] at ho'; cases ho'
    exact ⟨_, es', ep', hL, r'⟩) hok I.bare
/-- behind a call (or a comprehension's block): the slots of this frame may have changed too, the records at ch may have turned -/
theorem Inv.call {g' : Array GenState} {t' : Nat} {d' : Drawn} {ch : List Addr} (I : Inv X pins σ H s) (u : Un (frs X.stack) ch H H' s.heap h') (hok : HOk X.prog X.w H' h') (hg : AllBare g')
    (hch : ∀ b ∈ ch, (b ∈ X.ex ∨ X.s₀.heap.objs.size ≤ b) ∧ b ≠ X.env.locals ∧ (∀ x c, X.env.cells.lookup x = some c → c ≠ b) ∧ ∀ p ∈ X.pn ++ pins, p.1 ≠ b) :
    Inv X pins σ H' { s with heap := h', gens := g', drawn := d', toks := t' } := by
  obtain ⟨m, ⟨o, es, ep, ho, r⟩, _⟩ := id I.loc
  obtain ⟨sl, hL⟩ := u.any ho I.free fun z => (hch _ z).2.1 rfl
  exact I.step (ch := ch) hch (fun b o hL hb hc e n => u.keep b o e n (fun z => (List.mem_cons.mp (I.stkSub b z)).elim hL hb) hc) (fun b o _ _ hc e n => u.any e n hc) (fun b o hc e n => u.free b o e n hc) (fun b o hc e => u.there b o e hc) u.tups u.frzs u.tbls (fun m' hm => by
    obtain ⟨o', es', ep', ho', r'⟩ := hm
    rw [ho] at ho'; cases ho'
    exact ⟨_, es', ep', hL, r'⟩) hok hg
/-- an untracked record of ours (an iterator) has turned -/
theorem Inv.turned {t' : Nat} {it : Addr} (I : Inv X pins σ H s) (k : ∀ b o, b ≠ it → s.heap.get? b = some o → h'.get? b = some o) (hn : H it = none) (hL : it ≠ X.env.locals)
    (h1 : it ∈ X.ex ∨ X.s₀.heap.objs.size ≤ it) (h2 : ∀ x c, X.env.cells.lookup x = some c → c ≠ it) (h3 : ∀ p ∈ X.pn ++ pins, p.1 ≠ it) : Inv X pins σ H { s with heap := h', toks := t' } := by
  have nit : ∀ b u, H b = some u → b ≠ it := fun b u e z => by rw [z, hn] at e; cases e
  refine I.step (g' := s.gens) (d' := s.drawn) (ch := [it]) (fun b hb => ?_) (fun b o _ _ hc e _ => k b o (fun z => hc (by simp [z])) e) (fun b o _ _ hc e _ => ⟨o.slots, k b o (fun z => hc (by simp [z])) e⟩) (fun _ _ _ _ n => n)
    (fun b o hc e => ⟨o, k b o (fun z => hc (by simp [z])) e⟩) (fun _ _ e => e) (fun _ _ _ e => e) (fun b ps e => ⟨#[], by rw [e]; simp⟩) (fun m hm => ?_) (fun b u e => ?_) I.bare
  · have e : b = it := by simpa using hb
    subst e
    exact ⟨h1, hL, h2, h3⟩
  · obtain ⟨o, es, ep, ho, r⟩ := hm
    exact ⟨o, es, ep, k _ o (Ne.symm hL) ho, r⟩
  · refine (I.hok b u e).stay (fun c v hc q => k c v ?_ q) (fun _ q => q) fun _ _ q => q
    rcases hc with z | z
    · rw [z]; exact nit b u e
    · exact nit c _ z
theorem Inv.tok (I : Inv X pins σ H s) (t : Nat) : Inv X pins σ H { s with toks := t } := I.un (h' := s.heap) (t' := t) Un.refl I.hok
/-- all objects kept -/
theorem Inv.kept {t' : Nat} (I : Inv X pins σ H s) (k : ∀ b u, s.heap.get? b = some u → h'.get? b = some u) : Inv X pins σ H { s with heap := h', toks := t' } := I.un (Un.kept k) (I.hok.kept k)
/-- a new object laid and tracked -/
theorem Inv.laid {a : Addr} {o : HO} {t' : Nat} (I : Inv X pins σ H s) (k : ∀ b u, s.heap.get? b = some u → h'.get? b = some u) (hp : s.heap.objs.size ≤ a) (new : ObjOk X.prog X.w (upd H a o) h' a o) :
    Inv X pins σ (upd H a o) { s with heap := h', toks := t' } := I.un (Un.laid k hp (I.hok.fresh hp)) (I.hok.laid k hp new)
/-- an object written -/
theorem Inv.write {x e : Addr} {o : HO} {t' : Nat} (I : Inv X pins σ H s) (mu : Mut (H x)) (he : e = x ∨ H e = some (.own x)) (k : ∀ b u, b ≠ e → s.heap.get? b = some u → h'.get? b = some u) (heo : ∃ u, h'.get? e = some u)
    (new : ObjOk X.prog X.w (upd H x o) h' x o) : Inv X pins σ (upd H x o) { s with heap := h', toks := t' } := I.un (Un.write mu he k heo) (I.hok.write mu he k heo new)
/-- forgetting slots, pins -/
theorem Inv.weak {σ' : List (Option V)} (I : Inv X pins σ H s) (hl : σ'.length = σ.length) (w : ∀ (i : Nat) v, σ'[i]? = some (some v) → σ[i]? = some (some v)) : Inv X pins σ' H s :=
  ⟨I.ok, I.os, I.bare, I.base, let ⟨m, hn, hl'⟩ := I.loc; ⟨m, hn, fun i x v e1 e2 e3 => hl' i x v e1 (w i v e2) e3⟩, I.cell, I.free, I.freeC, I.pin, I.hok, hl.trans I.len⟩
theorem Inv.pins_of {pins' : List (Addr × Obj)} (I : Inv X pins σ H s) (h : ∀ p ∈ pins', s.heap.get? p.1 = some p.2 ∧ H p.1 = none ∧ p.1 ≠ X.env.locals ∧ p.1 ∉ X.fs ∧ ∀ v, p.2.data ≠ .cell v) : Inv X pins' σ H s :=
  ⟨I.ok, I.os, I.bare, I.base, I.loc, I.cell, I.free, I.freeC, fun p hp => (List.mem_append.mp hp).elim (fun z => I.pin p (List.mem_append_left _ z)) (h p), I.hok, I.len⟩

theorem nodup_ix {N : List Str} (hN : N.Nodup) {i j : Nat} {x : Str} (a : N[i]? = some x) (b : N[j]? = some x) : i = j := by
  obtain ⟨h1, e1⟩ := List.getElem?_eq_some_iff.mp a
  obtain ⟨h2, e2⟩ := List.getElem?_eq_some_iff.mp b
  exact (List.getElem_inj hN).mp (e1.trans e2.symm)

/-- a name is stored; what changed -/
theorem store_ok2 {M : Model} {A : Around} {E : Value → Shared → Prop} {i : Nat} {x : Str} {v : V} {u : Value} {Q : Unit → Shared → Prop} (I : Inv X pins σ H s) (hN : X.N.Nodup) (hi : X.N[i]? = some x) (hx : Loc X.env.scope x) (r : RelV v u)
    (h : ∀ s', Inv X pins (σ.set i (some v)) H s' → (∃ a, Heap.SameBut a s.heap s'.heap ∧ (a = X.env.locals ∨ X.env.cells.lookup x = some a)) → Q () s') (hf : X.fn x = true ∨ X.env.scope.names.lookup x = some .local := by first | exact .inl rfl | exact .inr rfl | assumption) : wpAny M A (storeName X.env x u) Q E s := by
  obtain ⟨m, hn, hl⟩ := id I.loc
  have hcls : (X.env.scope.kind == .class || (X.env.scope.kind == .module && X.env.locals != X.env.globals)) = false := by rw [I.ok.kind]; rfl
  have hiσ : i < σ.length := by rw [I.len]; exact (List.getElem?_eq_some_iff.mp hi).1
  have cne := I.cne
  have tracked : ∀ {a : Addr} {h' : Heap}, (∃ o, s.heap.get? a = some o ∧ H a = none) → Heap.SameBut a s.heap h' → HOk X.prog X.w H h' := fun {a h'} ha hs b ob e => by
    obtain ⟨_, _, hfree⟩ := ha
    refine (I.hok b ob e).stay (fun c w' hc q => (hs.2 c ?_).trans q) (fun _ q => q) fun _ _ q => q
    rintro rfl
    rcases hc with rfl | hc
    · rw [hfree] at e; cases e
    · rw [hfree] at hc; cases hc
  rcases hx with hk | hk
  · refine wpAny_storeName_local hk hn (fun h' hn' hs => ?_) hcls
    obtain ⟨oL, _, _, hoL, _⟩ := id hn
    refine h _ ⟨I.ok, I.os, I.bare, ⟨fun b o e n hb hx => ?_, fun b o e n hb hx => ?_, I.base.free, fun b o e hx => ?_, I.base.tups, I.base.frzs, I.base.tbls⟩, ⟨_, hn', fun j y v' e1 e2 e3 => ?_⟩, fun y c e => ?_, I.free, I.freeC, fun p hp => ?_, tracked ⟨oL, hoL, I.free⟩ hs, by simpa using I.len⟩ ⟨_, hs, .inl rfl⟩
    · exact (hs.2 b (Nat.ne_of_lt (Nat.lt_of_lt_of_le (Heap.lt_size e) I.ok.above))).trans (I.base.keep b o e n hb hx)
    · obtain ⟨sl, e1⟩ := I.base.slot b o e n hb hx
      exact ⟨sl, (hs.2 b (Nat.ne_of_lt (Nat.lt_of_lt_of_le (Heap.lt_size e) I.ok.above))).trans e1⟩
    · obtain ⟨o', e1⟩ := I.base.there b o e hx
      exact ⟨o', (hs.2 b (Nat.ne_of_lt (Nat.lt_of_lt_of_le (Heap.lt_size e) I.ok.above))).trans e1⟩
    · by_cases hj : j = i
      · subst hj
        rw [hi] at e1; cases e1
        rw [List.getElem?_set_self hiσ] at e2
        cases e2
        exact ⟨u, r, .inl ⟨hk, by simp⟩⟩
      · rw [List.getElem?_set_ne (Ne.symm hj)] at e2
        obtain ⟨u', r', q⟩ := hl j y v' e1 e2 e3
        refine ⟨u', r', ?_⟩
        rcases q with ⟨k, e⟩ | ⟨k, c, e, z⟩
        · refine .inl ⟨k, ?_⟩
          have : y ≠ x := fun e => hj (nodup_ix hN e1 (e ▸ hi))
          simp [this, e]
        · exact .inr ⟨k, c, e, z.sameBut hs (cne y c e)⟩
    · obtain ⟨w', z⟩ := I.cell y c e
      exact ⟨w', z.sameBut hs (cne y c e)⟩
    · obtain ⟨e, n, ne, nf, d⟩ := I.pin p hp
      exact ⟨(hs.2 p.1 ne).trans e, n, ne, nf, d⟩
  · have hfn : X.fn x = true := by
      rcases hf with z | z
      · exact z
      · rw [z] at hk; cases hk
    obtain ⟨c, hc⟩ := I.ok.has x (.inl hk)
    obtain ⟨w', z⟩ := I.cell x c hc
    refine wpAny_storeName_cell I.ok.kind hk hc z (fun h' hc' hs => ?_)
    obtain ⟨oc, hoc, hocd⟩ := id z
    refine h { s with heap := h' } ⟨I.ok, I.os, I.bare, ⟨fun b o e n hb hx => ?_, fun b o e n hb hx => ?_, I.base.free, fun b o e hx => ?_, I.base.tups, I.base.frzs, I.base.tbls⟩, ⟨m, hn.sameBut hs (Ne.symm (cne x c hc)), fun j y v' e1 e2 e3 => ?_⟩, fun y c' e => ?_, I.free, I.freeC, fun p hp => ?_, tracked ⟨oc, hoc, I.freeC x c hc⟩ hs, by simpa using I.len⟩ ⟨c, hs, .inr hc⟩
    · exact (hs.2 b (Nat.ne_of_lt (Nat.lt_of_lt_of_le (Heap.lt_size e) (I.ok.cab x c hfn hc)))).trans (I.base.keep b o e n hb hx)
    · obtain ⟨sl, e1⟩ := I.base.slot b o e n hb hx
      exact ⟨sl, (hs.2 b (Nat.ne_of_lt (Nat.lt_of_lt_of_le (Heap.lt_size e) (I.ok.cab x c hfn hc)))).trans e1⟩
    · obtain ⟨o', e1⟩ := I.base.there b o e hx
      exact ⟨o', (hs.2 b (Nat.ne_of_lt (Nat.lt_of_lt_of_le (Heap.lt_size e) (I.ok.cab x c hfn hc)))).trans e1⟩
    · by_cases hj : j = i
      · subst hj
        rw [hi] at e1; cases e1
        rw [List.getElem?_set_self hiσ] at e2
        cases e2
        exact ⟨u, r, .inr ⟨.inl hk, c, hc, hc'⟩⟩
      · rw [List.getElem?_set_ne (Ne.symm hj)] at e2
        obtain ⟨u', r', q⟩ := hl j y v' e1 e2 e3
        refine ⟨u', r', ?_⟩
        rcases q with q | ⟨k, c', e, z'⟩
        · exact .inl q
        · refine .inr ⟨k, c', e, z'.sameBut hs ?_⟩
          rintro rfl
          exact hj (nodup_ix hN e1 (I.ok.inj _ _ _ e hc ▸ hi))
    · by_cases hcc : c' = c
      · subst hcc; exact ⟨_, hc'⟩
      · obtain ⟨w2, z2⟩ := I.cell y c' e
        exact ⟨w2, z2.sameBut hs hcc⟩
    · obtain ⟨e, n, ne, nf, d⟩ := I.pin p hp
      refine ⟨(hs.2 p.1 ?_).trans e, n, ne, nf, d⟩
      intro q
      rw [q, hoc] at e
      have q' : oc = p.2 := Option.some.inj e
      exact d w' (by rw [← q']; exact hocd)
theorem store_ok {M : Model} {A : Around} {E : Value → Shared → Prop} {i : Nat} {x : Str} {v : V} {u : Value} {Q : Unit → Shared → Prop} (I : Inv X pins σ H s) (hN : X.N.Nodup) (hi : X.N[i]? = some x) (hx : Loc X.env.scope x) (r : RelV v u)
    (h : ∀ s', Inv X pins (σ.set i (some v)) H s' → Q () s') (hf : X.fn x = true ∨ X.env.scope.names.lookup x = some .local := by first | exact .inl rfl | exact .inr rfl | assumption) : wpAny M A (storeName X.env x u) Q E s :=
  store_ok2 I hN hi hx r (fun s' I' _ => h s' I') hf
/-- behind a call or a block, the state as it is -/
theorem Inv.call' {s' : Shared} {ch : List Addr} (I : Inv X pins σ H s) (ho : s'.os = s.os) (u : Un (frs X.stack) ch H H' s.heap s'.heap) (hok : HOk X.prog X.w H' s'.heap) (hg : AllBare s'.gens)
    (hch : ∀ b ∈ ch, (b ∈ X.ex ∨ X.s₀.heap.objs.size ≤ b) ∧ b ≠ X.env.locals ∧ (∀ x c, X.env.cells.lookup x = some c → c ≠ b) ∧ ∀ p ∈ X.pn ++ pins, p.1 ≠ b) : Inv X pins σ H' s' := by
  obtain ⟨h', g', d', t', o'⟩ := s'
  have e : o' = s.os := ho
  subst e
  exact I.call (g' := g') (t' := t') (d' := d') u hok hg hch
end

/-! ### the judgements -/
/-- an exception: its class, its own dict's address (where it has one), the abstract heap behind it -/
abbrev XK := Value → Option Addr → Hp → Prop
abbrev St := List (Option V)
abbrev VK := V → Hp → Prop
/-- an expression's reading; a test's; an argument list's -/
abbrev TE := St → Hp → VK → Prop
abbrev TT := St → Hp → (Bool → Hp → Prop) → Prop
abbrev TA := St → Hp → (List V → Hp → Prop) → Prop
/-- what is wanted behind a statement -/
structure Ends where
  nx : St → Hp → Prop
  rt : VK
  bk : St → Hp → Prop := fun _ _ => False
  ct : St → Hp → Prop := fun _ _ => False
abbrev TS := Ends → St → Hp → Prop

def EP (X : Cx) (pins : List (Addr × Obj)) (σ : St) (Q : VK) (u : Value) (s' : Shared) : Prop := ∃ v H', Inv X pins σ H' s' ∧ RelV v u ∧ Q v H'
def TP (X : Cx) (pins : List (Addr × Obj)) (σ : St) (Q : Bool → Hp → Prop) (b : Bool) (s' : Shared) : Prop := ∃ H', Inv X pins σ H' s' ∧ Q b H'
def AP (X : Cx) (pins : List (Addr × Obj)) (σ : St) (Q : List V → Hp → Prop) (us : List Value) (s' : Shared) : Prop := ∃ vs H', Inv X pins σ H' s' ∧ Vals vs us ∧ Q vs H'
def SP (X : Cx) (pins : List (Addr × Obj)) (D : Ends) (f : Flow) (s' : Shared) : Prop :=
  match f with
  | .next => ∃ σ' H', Inv X pins σ' H' s' ∧ D.nx σ' H'
  | .brk => ∃ σ' H', Inv X pins σ' H' s' ∧ D.bk σ' H'
  | .cont => ∃ σ' H', Inv X pins σ' H' s' ∧ D.ct σ' H'
  | .ret u => ∃ v σ' H', Inv X pins σ' H' s' ∧ RelV v u ∧ D.rt v H'

def PE (X : Cx) (e : Expr) (t : TE) : Prop :=
  ∀ (pins : List (Addr × Obj)) (s : Shared) (σ : St) (H : Hp) (Q : VK), Inv X pins σ H s → t σ H Q → wpAny (model X.prog X.w) X.A (eval e X.env) (EP X pins σ Q) X.xe s
def PT (X : Cx) (e : Expr) (t : TT) : Prop :=
  ∀ (pins : List (Addr × Obj)) (s : Shared) (σ : St) (H : Hp) (Q : Bool → Hp → Prop), Inv X pins σ H s → t σ H Q → wpAny (model X.prog X.w) X.A (isTrue e X.env (eval e X.env)) (TP X pins σ Q) X.xe s
/-- a test whatever its 'whole' is (and, or) -/
def PW (X : Cx) (e : Expr) (t : TT) : Prop :=
  ∀ (whole : Sem Value) (pins : List (Addr × Obj)) (s : Shared) (σ : St) (H : Hp) (Q : Bool → Hp → Prop), Inv X pins σ H s → t σ H Q → wpAny (model X.prog X.w) X.A (isTrue e X.env whole) (TP X pins σ Q) X.xe s
theorem PW.pt {X : Cx} {e : Expr} {t : TT} (h : PW X e t) : PT X e t := h _
/-- an argument list (no star), from the left -/
def PA (X : Cx) (es : List Expr) (t : TA) : Prop :=
  ∀ (pos : Pos) (pins : List (Addr × Obj)) (s : Shared) (σ : St) (H : Hp) (Q : List V → Hp → Prop), Inv X pins σ H s → t σ H Q → wpAny (model X.prog X.w) X.A (spliced (backTo pos (starEach es X.env))) (AP X pins σ Q) X.xe s
def PS (X : Cx) (st : Stmt) (t : TS) : Prop :=
  ∀ (pins : List (Addr × Obj)) (s : Shared) (σ : St) (H : Hp) (D : Ends), Inv X pins σ H s → t D σ H → wpAny (model X.prog X.w) X.A (exec st X.env) (SP X pins D) X.xe s
def PSs (X : Cx) (st : List Stmt) (t : TS) : Prop :=
  ∀ (pins : List (Addr × Obj)) (s : Shared) (σ : St) (H : Hp) (D : Ends), Inv X pins σ H s → t D σ H → wpAny (model X.prog X.w) X.A (execs st X.env) (SP X pins D) X.xe s
/-- weaken the end -/
theorem thn {α : Type} {t : Sem α} {Q Q' : α → Shared → Prop} {M : Model} {A : Around} {E : Value → Shared → Prop} {s : Shared} (h : wpAny M A t Q E s) (hQ : ∀ a s, Q a s → Q' a s) : wpAny M A t Q' E s := wpAny_mono h hQ fun _ _ x => x
end L2

namespace L2
open PySem PySem.Spec PyProof.Rows
section
variable {X : Cx}

/-- two expressions in a row -/
theorem bin {a b : Expr} {ta tb : TE} (ha : PE X a ta) (hb : PE X b tb) {pins : List (Addr × Obj)} {s : Shared} {σ : St} {H : Hp} {R : V → V → Hp → Prop} (I : Inv X pins σ H s) (h : ta σ H fun x H1 => tb σ H1 fun y H2 => R x y H2)
    {α : Type} {Q : α → Shared → Prop} {f : Value → Value → Sem α}
    (hf : ∀ v u s2 x y H2, Inv X pins σ H2 s2 → RelV x v → RelV y u → R x y H2 → wpAny (model X.prog X.w) X.A (f v u) Q X.xe s2) :
    wpAny (model X.prog X.w) X.A (eval a X.env) (fun v s₁ => wpAny (model X.prog X.w) X.A (eval b X.env) (fun u s₂ => wpAny (model X.prog X.w) X.A (f v u) Q X.xe s₂) X.xe s₁) X.xe s := by
  refine thn (ha pins s σ H _ I h) fun v s1 ⟨x, H1, I1, r1, q1⟩ => ?_
  refine thn (hb pins s1 σ H1 _ I1 q1) fun u s2 ⟨y, H2, I2, r2, q2⟩ => ?_
  exact hf v u s2 x y H2 I2 r1 r2 q2

/-! ### names and constants -/
def tVar (i : Nat) : TE := fun σ H Q => ∃ v, σ[i]? = some (some v) ∧ Q v H
def tC (v : V) : TE := fun _ H Q => Q v H
theorem pe_var {i : Nat} {x : Str} {pos : Pos} (hN : X.N[i]? = some x) (hv : Vis X.env.scope x) (hd : (x == ("__debug__" : Str)) = false := by decide) (hcd : (x == ("__classdict__" : Str)) = false := by decide) : PE X (.Name x pos) (tVar i) := by
  intro pins s σ H Q I h
  obtain ⟨v, e, h⟩ := h
  obtain ⟨m, hn, hl⟩ := I.loc
  obtain ⟨u, r, l⟩ := hl i x v hN e hv
  have fin : EP X pins σ Q u s := ⟨v, H, I, r, h⟩
  rcases l with ⟨hk, hm⟩ | ⟨hk, c, hc, hcell⟩
  · exact wpAny_Name (wpAny_loadName_local I.ok.kind hk hn hm fin) hd
  · rcases hk with hk | hk
    · exact wpAny_Name (wpAny_loadName_cell I.ok.kind hk hc hcell fin) hd
    · exact wpAny_Name (wpAny_loadName_free I.ok.kind hk hc hcell fin hcd) hd
theorem pe_int {i j pos} : PE X (.Constant (.int i) j pos) (tC (.int i)) := fun _ _ _ H _ I h => wpAny_Constant_int ⟨.int i, H, I.tok _, ⟨_, rfl⟩, h⟩
theorem pe_bl {b j pos} : PE X (.Constant (.bool b) j pos) (tC (.bl b)) := fun _ _ _ H _ I h => Constant_bool ⟨.bl b, H, I, rfl, h⟩
theorem pe_non {j pos} : PE X (.Constant .none j pos) (tC .non) := fun _ _ _ H _ I h => Constant_none ⟨.non, H, I, rfl, h⟩
theorem pe_str {x j pos} : PE X (.Constant (.str x) j pos) (tC (.str x)) := fun _ _ _ H _ I h => Calls.Constant_str ⟨.str x, H, I.tok _, ⟨_, rfl⟩, h⟩

/-- a global name of the def -/
def Gl (X : Cx) (x : Str) : Prop := X.env.kindOf x = some .globalImplicit
theorem ld_glob {E : Value → Shared → Prop} {pins : List (Addr × Obj)} {s : Shared} {σ : St} {H : Hp} {x : Str} {u : Value} {pos : Pos} {Q : Value → Shared → Prop} (I : Inv X pins σ H s) (hg : Gl X x) (hm : X.mg x = some u) (h : Q u s)
    (hd : (x == ("__debug__" : Str)) = false := by decide) : wpAny (model X.prog X.w) X.A (eval (.Name x pos) X.env) Q E s :=
  Calls.Name_function_global I.ok.kind hg (Calls.loadGlobal_global (by rw [I.ok.glob]; exact I.mod.glob.keeps I.bk) hm h) hd
theorem ld_blt {E : Value → Shared → Prop} {pins : List (Addr × Obj)} {s : Shared} {σ : St} {H : Hp} {x : Str} {u : Value} {pos : Pos} {Q : Value → Shared → Prop} (I : Inv X pins σ H s) (hg : Gl X x) (hm : X.mg x = none) (hv : bootBuiltins x = some u) (h : Q u s)
    (hn : x ≠ "__name__" := by decide) (hd : (x == ("__debug__" : Str)) = false := by decide) : wpAny (model X.prog X.w) X.A (eval (.Name x pos) X.env) Q E s := by
  obtain ⟨mb, h1, h2⟩ := I.mod.blt
  exact Calls.Name_function_global I.ok.kind hg (Calls.loadGlobal_builtin (by rw [I.ok.glob]; exact I.mod.glob.keeps I.bk) hm (by rw [I.ok.blt]; exact h1.keeps I.bk) ((h2 x hn).trans hv) h) hd

/-! ### arithmetic -/
variable {a b : Expr} {ta tb : TE} {pos : Pos}

/-! ### comparisons -/
def PC (X : Cx) (op : CmpOp) (a b : Expr) (t : TE) : Prop :=
  ∀ (pins : List (Addr × Obj)) (s : Shared) (σ : St) (H : Hp) (Q : VK), Inv X pins σ H s → t σ H Q →
    wpAny (model X.prog X.w) X.A (eval a X.env) (fun v s₁ => wpAny (model X.prog X.w) X.A (eval b X.env) (fun u s₂ => wpAny (model X.prog X.w) X.A (compareOp op v u) (EP X pins σ Q) X.xe s₂) X.xe s₁) X.xe s
theorem nobehind (b : Expr) {op : CmpOp} (h : op ≠ .In) (h2 : op ≠ .NotIn) : behindInMarks op b = false := by
  have e1 : (op == CmpOp.In) = false := by cases op <;> first | rfl | exact absurd rfl h
  have e2 : (op == CmpOp.NotIn) = false := by cases op <;> first | rfl | exact absurd rfl h2
  cases b <;> simp [behindInMarks, e1, e2]
/-- a comparison as a value, as a test -/
def tB (t : TE) : TT := fun σ H Q => t σ H fun x H1 => ∃ c, x = .bl c ∧ Q c H1
theorem pt_cmp {op : CmpOp} {t : TE} (h : PC X op a b t) (h1 : behindInMarks op b = false := by first | exact nobehind _ (by decide) (by decide) | rfl) : PT X (.Compare a [op] [b] pos) (tB t) := by
  intro pins s σ H Q I hw
  refine wpAny_isTrue_Compare1 (thn (h pins s σ H _ I hw) fun v s1 h1 => thn h1 fun u s2 h2 => thn h2 fun c s3 ⟨x, H1, I1, r1, q1⟩ => ?_) h1
  obtain ⟨d, rfl, q⟩ := q1
  cases r1
  exact wpAny_truthy_bool ⟨H1, I1, q⟩
/-- an expression whose value is a bool, as a test -/
theorem pt_val {e : Expr} {t : TE} (h : PE X e t) (he : ∀ whole, isTrue e X.env whole = (do let v ← whole; standAt e.pos; holding [v] (truthy v)) := by intro _; rfl) : PT X e (tB t) := by
  intro pins s σ H Q I hw
  refine isTrue_plain (thn (h pins s σ H _ I hw) fun v s1 ⟨x, H1, I1, r1, q1⟩ => ?_) (he _)
  obtain ⟨d, rfl, q⟩ := q1
  cases r1
  exact wpAny_truthy_bool ⟨H1, I1, q⟩

/-! ### and, or, not -/
variable {tA tB' : TT} {rest : List Expr}
def tAnd (t u : TT) : TT := fun σ H Q => t σ H fun c H1 => if c = true then u σ H1 Q else Q false H1
def tOr (t u : TT) : TT := fun σ H Q => t σ H fun c H1 => if c = true then Q true H1 else u σ H1 Q
def tNot (t : TT) : TT := fun σ H Q => t σ H fun c H1 => Q (!c) H1
theorem pw_and1 (ha : PT X a tA) : PW X (.BoolOp .And [a] pos) tA := by
  intro wh pins s σ H Q I h
  refine isTrue_and (thn (ha pins s σ H Q I h) fun c s1 e => ?_)
  cases c with
  | true => exact isTrue_and_nil e
  | false => exact e
theorem pw_or1 (ha : PT X a tA) : PW X (.BoolOp .Or [a] pos) tA := by
  intro wh pins s σ H Q I h
  refine isTrue_or (thn (ha pins s σ H Q I h) fun c s1 e => ?_)
  cases c with
  | false => exact isTrue_or_nil e
  | true => exact e
theorem pw_and (ha : PT X a tA) (hb : PW X (.BoolOp .And (b :: rest) pos) tB') : PW X (.BoolOp .And (a :: b :: rest) pos) (tAnd tA tB') := by
  intro wh pins s σ H Q I h
  refine isTrue_and (thn (ha pins s σ H _ I h) fun c s1 ⟨H1, I1, q1⟩ => ?_)
  cases c with
  | true => exact hb wh pins s1 σ H1 Q I1 q1
  | false => exact ⟨H1, I1, q1⟩
theorem pw_or (ha : PT X a tA) (hb : PW X (.BoolOp .Or (b :: rest) pos) tB') : PW X (.BoolOp .Or (a :: b :: rest) pos) (tOr tA tB') := by
  intro wh pins s σ H Q I h
  refine isTrue_or (thn (ha pins s σ H _ I h) fun c s1 ⟨H1, I1, q1⟩ => ?_)
  cases c with
  | true => exact ⟨H1, I1, q1⟩
  | false => exact hb wh pins s1 σ H1 Q I1 q1
theorem pt_not (ha : PT X a tA) : PT X (.UnaryOp .Not a pos) (tNot tA) := by
  intro pins s σ H Q I h
  exact isTrue_not (ha pins s σ H (fun c H1 => Q (!c) H1) I h)
def tNotV (ta : TE) : TE := fun σ H Q => ta σ H fun x H1 => ∃ c, x = .bl c ∧ Q (.bl (!c)) H1
theorem pe_not (ha : PE X a ta) : PE X (.UnaryOp .Not a pos) (tNotV ta) := by
  intro pins s σ H Q I h
  refine UnaryOp_ (thn (ha pins s σ H _ I h) fun v s1 ⟨x, H1, I1, r1, q1⟩ => ?_)
  obtain ⟨c, rfl, q1⟩ := q1
  cases r1
  exact not_of (wpAny_truthy_bool ⟨.bl (!c), H1, I1, rfl, q1⟩)
end
end L2

namespace L2
open PySem PySem.Spec PyProof.Rows

/-! ### a list, a tuple that is read: tracked, frozen, or an object of the module -/
def SqL (K : PySem.W.Frag) (H : Hp) (a : Addr) (xs : List V) : Prop :=
  Rd H a (.lst xs) ∨
    ∃ (o : Obj) (its : Array Value) (n : Nat), K.lookup a = some o ∧ o.cls = .type "list" ∧ o.dict = none ∧ o.data = .seq its n ∧ its.size ≤ sizeLine ∧ Vals xs its.toList
def SqT (K : PySem.W.Frag) (H : Hp) (a : Addr) (xs : List V) : Prop :=
  Rd H a (.tup xs) ∨
    ∃ (o : Obj) (its : Array Value) (n : Nat), K.lookup a = some o ∧ o.cls = .type "tuple" ∧ o.data = .seq its n ∧ its.size ≤ sizeLine ∧ Vals xs its.toList
def absV : Value → Option V
  | .none => some .non
  | .bool b => some (.bl b)
  | .int i _ => some (.int i)
  | .str x _ => some (.str x)
  | .bytes b _ => some (.byt b)
  | .float b _ => some (.flt b)
  | .ref a => some (.ref a)
  | .type n => some (.ty n)
  | _ => none
theorem RelV.abs {x : V} {u : Value} (r : RelV x u) : absV u = some x := by
  cases x with
  | non => cases r; rfl
  | bl _ => cases r; rfl
  | int _ => obtain ⟨t, rfl⟩ := r; rfl
  | str _ => obtain ⟨t, rfl⟩ := r; rfl
  | byt _ => obtain ⟨t, rfl⟩ := r; rfl
  | flt _ => obtain ⟨t, rfl⟩ := r; rfl
  | ref _ => cases r; rfl
  | ty _ => cases r; rfl
theorem RelV.inj {x y : V} {u : Value} (r : RelV x u) (q : RelV y u) : x = y := Option.some.inj (r.abs.symm.trans q.abs)
theorem Vals.inj : ∀ {xs ys : List V} {us : List Value}, Vals xs us → Vals ys us → xs = ys
  | _, _, _, .nil, .nil => rfl
  | _, _, _, .cons r t, .cons r' t' => by rw [r.inj r', Vals.inj t t']
section
variable {X : Cx} {pins : List (Addr × Obj)} {σ : St} {H : Hp} {s : Shared} {a : Addr} {xs ys : List V}
theorem SqL.of {K : PySem.W.Frag} (h : H a = some (.lst xs)) : SqL K H a xs := .inl (.inl h)
theorem SqT.of {K : PySem.W.Frag} (h : H a = some (.tup xs)) : SqT K H a xs := .inl (.inl h)
theorem Inv.list (I : Inv X pins σ H s) (h : SqL X.K H a xs) : ∃ its : List Value, Vals xs its ∧ PlainL s.heap a its.toArray ∧ xs.length ≤ sizeLine := by
  rcases h with h | ⟨o, its, n, hk, hc, hd, hs, hz, r⟩
  · obtain ⟨z, its, n, r, e⟩ := h.ok I.hok
    exact ⟨its, r, ⟨_, n, e, rfl, rfl, rfl⟩, z⟩
  · refine ⟨its.toList, r, ⟨o, n, I.kIn a o hk, hc, hd, by simpa using hs⟩, ?_⟩
    have e := r.length
    simp only [Array.length_toList] at e
    omega
theorem Inv.tuple (I : Inv X pins σ H s) (h : SqT X.K H a xs) : ∃ its : List Value, Vals xs its ∧ IsTup s.heap a its.toArray ∧ xs.length ≤ sizeLine := by
  rcases h with h | ⟨o, its, n, hk, hc, hs, hz, r⟩
  · obtain ⟨z, its, r, p⟩ := h.ok I.hok
    exact ⟨its, r, p, z⟩
  · refine ⟨its.toList, r, ⟨o, I.kIn a o hk, hc, n, by simpa using hs⟩, ?_⟩
    have e := r.length
    simp only [Array.length_toList] at e
    omega
theorem Inv.list_inj (I : Inv X pins σ H s) (h : SqL X.K H a xs) (h' : SqL X.K H a ys) : xs = ys := by
  obtain ⟨its, r, ⟨o, n, e, _, _, d⟩, _⟩ := I.list h
  obtain ⟨its', r', ⟨o', n', e', _, _, d'⟩, _⟩ := I.list h'
  rw [e] at e'; cases e'
  rw [d] at d'
  injection d' with d1 _
  have : its = its' := by simpa using congrArg Array.toList d1
  subst this
  exact r.inj r'
theorem Inv.tuple_inj (I : Inv X pins σ H s) (h : SqT X.K H a xs) (h' : SqT X.K H a ys) : xs = ys := by
  obtain ⟨its, r, ⟨o, e, _, n, d⟩, _⟩ := I.tuple h
  obtain ⟨its', r', ⟨o', e', _, n', d'⟩, _⟩ := I.tuple h'
  rw [e] at e'; cases e'
  rw [d] at d'
  injection d' with d1 _
  have : its = its' := by simpa using congrArg Array.toList d1
  subst this
  exact r.inj r'
end

/-! ### another wish about exceptions -/
abbrev Cx.wish (X : Cx) (E : Value → Shared → Prop) : Cx := { X with xe := E }
/-- no exception leaves -/
abbrev Cx.nox (X : Cx) : Cx := X.wish fun _ _ => False
theorem Cx.Ok.wish {X : Cx} (ok : X.Ok) (E : Value → Shared → Prop) : (X.wish E).Ok :=
  ⟨ok.mod, ok.kind, ok.glob, ok.blt, ok.above, ok.inj, ok.has, ok.cab, ok.hd, ok.frames, ok.stk, ok.exf, ok.bs, ok.bsz, ok.noex, ok.exfs, ok.funs, ok.frf⟩
theorem Cx.Ok.unwish {X : Cx} {E : Value → Shared → Prop} (ok : (X.wish E).Ok) : X.Ok :=
  ⟨ok.mod, ok.kind, ok.glob, ok.blt, ok.above, ok.inj, ok.has, ok.cab, ok.hd, ok.frames, ok.stk, ok.exf, ok.bs, ok.bsz, ok.noex, ok.exfs, ok.funs, ok.frf⟩
section
variable {X : Cx} {pins : List (Addr × Obj)} {σ : St} {H : Hp} {s : Shared} {E : Value → Shared → Prop}
theorem Inv.wish (I : Inv X pins σ H s) (E : Value → Shared → Prop) : Inv (X.wish E) pins σ H s := ⟨I.ok.wish E, I.os, I.bare, I.base, I.loc, I.cell, I.free, I.freeC, I.pin, I.hok, I.len⟩
theorem Inv.unwish (I : Inv (X.wish E) pins σ H s) : Inv X pins σ H s := ⟨I.ok.unwish, I.os, I.bare, I.base, I.loc, I.cell, I.free, I.freeC, I.pin, I.hok, I.len⟩
theorem SP.unwish {D : Ends} {f : Flow} {s' : Shared} (h : SP (X.wish E) pins D f s') : SP X pins D f s' := by
  cases f with
  | next => obtain ⟨σ', H', I, q⟩ := h; exact ⟨σ', H', I.unwish, q⟩
  | brk => obtain ⟨σ', H', I, q⟩ := h; exact ⟨σ', H', I.unwish, q⟩
  | cont => obtain ⟨σ', H', I, q⟩ := h; exact ⟨σ', H', I.unwish, q⟩
  | ret u => obtain ⟨v, σ', H', I, r, q⟩ := h; exact ⟨v, σ', H', I.unwish, r, q⟩
theorem PE.nox {e : Expr} {t : TE} (h : PE X.nox e t) : PE X e t := fun pins s σ H Q I hw =>
  wpAny_mono (h pins s σ H Q (I.wish _) hw) (fun _ _ ⟨v, H', I', r, q⟩ => ⟨v, H', I'.unwish, r, q⟩) fun _ _ z => False.elim z
theorem PSs.nox {st : List Stmt} {t : TS} (h : PSs X.nox st t) : PSs X st t := fun pins s σ H D I hw =>
  wpAny_mono (h pins s σ H D (I.wish _) hw) (fun _ _ q => q.unwish) fun _ _ z => False.elim z
end

/-! ### blocks and small statements -/
section
variable {X : Cx} {st : Stmt} {rest : List Stmt} {t u : TS} {e : Expr} {te : TE} {pos : Pos}
def tNext : TS := fun D σ H => D.nx σ H
def tSeq (t u : TS) : TS := fun D σ H => t { D with nx := u D } σ H
theorem pss_nil : PSs X [] tNext := fun _ _ σ H _ I h => wpAny_execs_nil ⟨σ, H, I, h⟩
theorem pss_cons (h1 : PS X st t) (h2 : PSs X rest u) : PSs X (st :: rest) (tSeq t u) := by
  intro pins s σ H D I h
  refine wpAny_execs_cons (thn (h1 pins s σ H { D with nx := u D } I h) fun f s1 q => ?_)
  cases f with
  | next =>
    obtain ⟨σ', H', I', q⟩ := q
    exact h2 pins s1 σ' H' D I' q
  | ret v => exact q
  | brk => exact q
  | cont => exact q
theorem pss_one (h1 : PS X st t) : PSs X [st] t := by
  intro pins s σ H D I h
  refine wpAny_execs_cons (thn (h1 pins s σ H D I h) fun f s1 q => ?_)
  cases f with
  | next => exact wpAny_execs_nil q
  | ret v => exact q
  | brk => exact q
  | cont => exact q
theorem ps_pass : PS X (.Pass pos) tNext := fun _ _ σ H _ I h => wpAny_Pass ⟨σ, H, I, h⟩
/-- in a def's body nothing is shown -/
theorem Inv.quiet {pins : List (Addr × Obj)} {σ : St} {H : Hp} {s : Shared} (I : Inv X pins σ H s) : interactive X.env = false := by simp [interactive, I.ok.kind]
/-- an expression whose value is dropped -/
def tDrop (te : TE) : TS := fun D σ H => te σ H fun _ H1 => D.nx σ H1
theorem ps_expr (he : PE X e te) (hs : swapsWith e none pos.line X.env = pure false := by rfl) : PS X (.Expr e pos) (tDrop te) := by
  intro pins s σ H D I h
  exact wpAny_Expr_any (thn (he pins s σ H _ I h) fun v s1 ⟨x, H1, I1, r1, q1⟩ => ⟨σ, H1, I1, q1⟩) I.quiet hs
def tRet (te : TE) : TS := fun D σ H => te σ H D.rt
theorem ps_ret (he : PE X e te) : PS X (.Return (some e) pos) (tRet te) := by
  intro pins s σ H D I h
  exact wpAny_Return_some (thn (he pins s σ H _ I h) fun v s1 ⟨x, H1, I1, r1, q1⟩ => ⟨x, σ, H1, I1, r1, q1⟩)
def tIfS (c : TT) (t u : TS) : TS := fun D σ H => c σ H fun b H1 => if b = true then t D σ H1 else u D σ H1
theorem ps_if {c : Expr} {a b : List Stmt} {tc : TT} (hc : PT X c tc) (ha : PSs X a t) (hb : PSs X b u) : PS X (.If c a b pos) (tIfS tc t u) := by
  intro pins s σ H D I h
  refine wpAny_If (thn (hc pins s σ H _ I h) fun d s1 ⟨H1, I1, q1⟩ => ?_)
  cases d with
  | true => exact ha pins s1 σ H1 D I1 q1
  | false => exact hb pins s1 σ H1 D I1 q1
end

/-! ### targets -/
abbrev TG := V → St → Hp → (St → Hp → Prop) → Prop
abbrev TGs := List V → St → Hp → (St → Hp → Prop) → Prop
def PG (X : Cx) (target : Expr) (t : TG) : Prop :=
  ∀ (pins : List (Addr × Obj)) (s : Shared) (σ : St) (H : Hp) (v : V) (u : Value) (Q : St → Hp → Prop), Inv X pins σ H s → RelV v u → t v σ H Q →
    wpAny (model X.prog X.w) X.A (assign target X.env u) (fun _ s' => ∃ σ' H', Inv X pins σ' H' s' ∧ Q σ' H') X.xe s
/-- several targets, one after another -/
def PGs (X : Cx) (ts : List Expr) (t : TGs) : Prop :=
  ∀ (pins : List (Addr × Obj)) (s : Shared) (σ : St) (H : Hp) (vs : List V) (us : List Value) (Q : St → Hp → Prop), Inv X pins σ H s → Vals vs us → t vs σ H Q →
    wpAny (model X.prog X.w) X.A (assignInOrder ((assignEach ts X.env).map (·.2)) us) (fun _ s' => ∃ σ' H', Inv X pins σ' H' s' ∧ Q σ' H') X.xe s
section
variable {X : Cx} {pos : Pos}
def gName (i : Nat) : TG := fun v σ H Q => Q (σ.set i (some v)) H
theorem pg_name {i : Nat} {x : Str} (hN : X.N.Nodup) (hi : X.N[i]? = some x) (hx : Loc X.env.scope x) (hf : X.fn x = true ∨ X.env.scope.names.lookup x = some .local := by first | exact .inl rfl | exact .inr rfl | assumption) : PG X (.Name x pos) (gName i) := by
  intro pins s σ H v u Q I r h
  exact wpAny_assign_Name (store_ok I hN hi hx r (fun s' I' => ⟨_, H, I', h⟩) hf)
def gNil : TGs := fun vs σ H Q => vs = [] ∧ Q σ H
def gCons (t : TG) (u : TGs) : TGs := fun vs σ H Q => ∃ v r, vs = v :: r ∧ t v σ H fun σ' H' => u r σ' H' Q
theorem pgs_nil : PGs X [] gNil := by
  intro pins s σ H vs us Q I r h
  obtain ⟨e, h⟩ := h
  subst e
  cases r
  exact assignInOrder_nil ⟨σ, H, I, h⟩
theorem pgs_cons {e : Expr} {es : List Expr} {t : TG} {u : TGs} (h1 : PG X e t) (h2 : PGs X es u)
    (hs : (assignEach (e :: es) X.env).map (·.2) = assign e X.env :: (assignEach es X.env).map (·.2) := by rfl) : PGs X (e :: es) (gCons t u) := by
  intro pins s σ H vs us Q I r h
  obtain ⟨v, vr, e1, h⟩ := h
  subst e1
  cases r with
  | cons r rr =>
    rw [hs]
    refine assignInOrder_cons (thn (h1 pins s σ H _ _ _ I r h) fun _ s1 ⟨σ1, H1, I1, q1⟩ => ?_)
    exact h2 pins s1 σ1 H1 _ _ Q I1 rr q1
/-- (a, b, ..) = a tuple of that length -/
def gTup (K : PySem.W.Frag) (n : Nat) (t : TGs) : TG := fun v σ H Q => ∃ a xs, v = .ref a ∧ SqT K H a xs ∧ xs.length = n ∧ t xs σ H Q
theorem pg_tup {es : List Expr} {k : Nat} {t : TGs} {n : Nat} (hc : X.calm = true) (h : PGs X es t)
    (hn : (assignEach es X.env).length = n := by rfl) (hst : (assignEach es X.env).findIdx? (·.1) = none := by rfl) : PG X (.Tuple es k pos) (gTup X.K n t) := by
  intro pins s σ H v u Q I r hw
  obtain ⟨a, xs, e1, hq, hl, hw⟩ := hw
  subst e1
  cases r
  obtain ⟨its, rv, ht, hz⟩ := I.tuple hq
  refine assign_Tuple_tuple (I.ok.hd hc) ht (by simp [hn, ← hl, rv.length]) hst fun h' hx => ?_
  have I1 : Inv X pins σ H { s with heap := h' } := I.kept (t' := s.toks) fun b o e => hx b o (Nat.ne_of_lt (Heap.lt_size e)) e
  exact h pins _ σ H xs _ Q I1 (by simpa using rv) hw
/-- target = value -/
def tAsg (te : TE) (g : TG) : TS := fun D σ H => te σ H fun x H1 => g x σ H1 D.nx
theorem ps_asg {tg e : Expr} {te : TE} {g : TG} (he : PE X e te) (hg : PG X tg g) (hs : swapsWithSole [tg] e pos.line X.env = pure false := by rfl) (hw : swappedStores [tg] e X.env = pure none := by rfl)
    (h1 : (assignEach [tg] X.env).map (·.2) = [assign tg X.env] := by rfl) : PS X (.Assign [tg] e pos) (tAsg te g) := by
  intro pins s σ H D I h
  refine wpAny_Assign_stores (thn (he pins s σ H _ I h) fun v s1 ⟨x, H1, I1, r1, q1⟩ => ?_) hs hw
  rw [h1]
  exact thn (hg pins s1 σ H1 x v _ I1 r1 q1) fun _ s2 q => q
/-- name = value -/
theorem ps_set {i : Nat} {x : Str} {e : Expr} {te : TE} {pos' : Pos} (hN : X.N.Nodup) (hi : X.N[i]? = some x) (hx : Loc X.env.scope x) (he : PE X e te) (hs : swapsWith e (some (.Name x pos')) pos.line X.env = pure false := by rfl) (hf : X.fn x = true ∨ X.env.scope.names.lookup x = some .local := by first | exact .inl rfl | exact .inr rfl | assumption) :
    PS X (.Assign [.Name x pos'] e pos) (tAsg te (gName i)) := by
  intro pins s σ H D I h
  refine wpAny_Assign_Name (thn (he pins s σ H _ I h) fun v s1 ⟨y, H1, I1, r1, q1⟩ => ?_) hs
  exact store_ok I1 hN hi hx r1 (fun s2 I2 => ⟨_, H1, I2, q1⟩) hf
end

/-! ### while -/
section
variable {X : Cx} {pos : Pos}
end

/-! ### what a loop or a comprehension walks -/
/-- at turn i: it yields x (the heap may grow), or it stops -/
structure It where
  go : Nat → Hp → Prop
  yld : Nat → Hp → V → Hp → Prop
  stop : Nat → Hp → Prop
/-- the iterator's own objects may turn: they are not the frame's, not pinned, younger than the entry (or a comprehension's own) -/
def FpOk (X : Cx) (pins : List (Addr × Obj)) (H : Hp) (b : Addr) : Prop :=
  H b = none ∧ b ≠ X.env.locals ∧ b ∉ X.fs ∧ (b ∈ X.ex ∨ X.s₀.heap.objs.size ≤ b) ∧ (∀ x c, X.env.cells.lookup x = some c → c ≠ b) ∧ ∀ p ∈ X.pn ++ pins, p.1 ≠ b
theorem Inv.fpOk {X : Cx} {pins : List (Addr × Obj)} {σ : St} {H H' : Hp} {s : Shared} {b : Addr} (I : Inv X pins σ H s) (hb : s.heap.objs.size ≤ b) (hn : H' b = none) : FpOk X pins H' b := by
  refine ⟨hn, Nat.ne_of_gt (Nat.lt_of_lt_of_le I.lt hb), I.nofs hb, .inr (Nat.le_trans I.sz hb), fun x c e z => ?_, fun p hp z => ?_⟩
  · obtain ⟨v, q⟩ := I.cell x c e
    exact absurd (Nat.lt_of_lt_of_le q.lt (by rw [z]; exact hb)) (Nat.lt_irrefl _)
  · exact absurd (Nat.lt_of_lt_of_le (Heap.lt_size (I.pin p hp).1) (by rw [z]; exact hb)) (Nat.lt_irrefl _)
structure Turn (P : Program) (w : World) (K : PySem.W.Frag) (tg : Expr) (J : It) (fp : List Addr) (it : Addr) (tn : Nat → Heap → Prop) : Prop where
  mem : it ∈ fp
  obj : ∀ i h, tn i h → ∀ b ∈ fp, ∃ o, h.get? b = some o ∧ ∀ v, o.data ≠ .cell v
  keep : ∀ i h h', tn i h → (∀ b ∈ fp, ∀ o, h.get? b = some o → h'.get? b = some o) → tn i h'
  item : ∀ (X : Cx), X.prog = P → X.w = w → X.K = K → X.calm = true → ∀ (i : Nat) (pins : List (Addr × Obj)) (s : Shared) (σ : St) (H : Hp) (E : Value → Shared → Prop), Inv X pins σ H s → (∀ b ∈ fp, FpOk X pins H b) → tn i s.heap → J.go i H →
    wpAny (model P w) X.A (pyNext (.ref it)) (fun r s1 => ∃ u, r = some u ∧
      wpAny (model P w) X.A (letOwnedTupleGo tg (.ref it) u) (fun _ s2 => ∃ x H', Inv X pins σ H' s2 ∧ RelV x u ∧ J.yld i H x H' ∧ tn (i + 1) s2.heap ∧ ∀ b ∈ fp, H' b = none) E s1) E s
  done : ∀ (X : Cx), X.prog = P → X.w = w → X.K = K → X.calm = true → ∀ (i : Nat) (pins : List (Addr × Obj)) (s : Shared) (σ : St) (H : Hp) (E : Value → Shared → Prop), Inv X pins σ H s → (∀ b ∈ fp, FpOk X pins H b) → tn i s.heap → J.stop i H →
    wpAny (model P w) X.A (pyNext (.ref it)) (fun r s1 => r = none ∧ Inv X pins σ H s1) E s
  self : ∀ (A : Around) (i : Nat) (s : Shared) (Q : Value → Shared → Prop) (E : Value → Shared → Prop), tn i s.heap → Q (.ref it) s → wpAny (model P w) A (pyIter (.ref it)) Q E s
abbrev TI := St → Hp → (It → Hp → Prop) → Prop
/-- an iterator has come -/
def PIE (X : Cx) (pins : List (Addr × Obj)) (σ : St) (tg : Expr) (R : It → Hp → Prop) (itv : Value) (s2 : Shared) : Prop :=
  ∃ (it : Addr) (fp : List Addr) (tn : Nat → Heap → Prop) (J : It) (H' : Hp), itv = .ref it ∧ Inv X pins σ H' s2 ∧ Turn X.prog X.w X.K tg J fp it tn ∧ tn 0 s2.heap ∧ (∀ b ∈ fp, FpOk X pins H' b) ∧ R J H'
def PI (X : Cx) (tg iter : Expr) (wi : TI) : Prop :=
  ∀ (pins : List (Addr × Obj)) (s : Shared) (σ : St) (H : Hp) (R : It → Hp → Prop), Inv X pins σ H s → wi σ H R →
    wpAny (model X.prog X.w) X.A (eval iter X.env) (fun v s1 => wpAny (model X.prog X.w) X.A (pyIter v) (PIE X pins σ tg R) X.xe s1) X.xe s

/-- the step ahead of the store is nothing for an iterator that keeps no tuple -/
theorem go_of {M : Model} {A : Around} {E : Value → Shared → Prop} {s : Shared} {tg : Expr} {it : Addr} {u : Value} {o : Obj} {n : String} {vs : Array Value} {Q : Unit → Shared → Prop} (ho : s.heap.get? it = some o) (hc : o.cls = .type n) (hd : o.data = .fields vs)
    (hn : ["enumerate", "zip", "dict_itemiterator", "dict_reverseitemiterator", "odict_iterator", "itertools.zip_longest", "itertools.pairwise"].contains n = false) (hQ : Q () s) : wpAny M A (letOwnedTupleGo tg (.ref it) u) Q E s := by
  unfold letOwnedTupleGo
  cases tg <;> first
    | exact wpAny_pure hQ
    | (cases u <;> first
        | exact wpAny_pure hQ
        | (refine wpAny_bind (wpAny_load ho ?_)
           rw [hc, hd]
           show wpAny M A (if (["enumerate", "zip", "dict_itemiterator", "dict_reverseitemiterator", "odict_iterator", "itertools.zip_longest", "itertools.pairwise"].contains n && vs[0]? == some (rawInt _)) = true then _ else _) Q E s
           rw [if_neg (by intro h; rw [hn, Bool.false_and] at h; cases h)]
           exact wpAny_pure hQ))

/-- the list at a, as it stands at each turn (a loop may append to it) -/
def Itl (K : PySem.W.Frag) (a : Addr) : It :=
  ⟨fun i H => ∃ xs x, SqL K H a xs ∧ xs[i]? = some x, fun i H x H' => H' = H ∧ ∀ xs, SqL K H a xs → xs[i]? = some x, fun i H => ∃ xs, SqL K H a xs ∧ xs.length ≤ i⟩
def Itt (K : PySem.W.Frag) (a : Addr) : It :=
  ⟨fun i H => ∃ xs x, SqT K H a xs ∧ xs[i]? = some x, fun i H x H' => H' = H ∧ ∀ xs, SqT K H a xs → xs[i]? = some x, fun i H => ∃ xs, SqT K H a xs ∧ xs.length ≤ i⟩
theorem turn_list {P : Program} {w : World} {K : PySem.W.Frag} {tg : Expr} (a it : Addr) : Turn P w K tg (Itl K a) [it] it (fun i h => h.IsListIter it a i) where
  mem := by simp
  obj := fun i h st b hb => by
    have e : b = it := by simpa using hb
    subst e
    obtain ⟨o, e, c, d⟩ := st
    exact ⟨o, e, fun v z => by rw [d] at z; cases z⟩
  keep := fun i h h' st k => st.at fun o e => k it (by simp) o e
  item := by
    intro X hP hw hK hc i pins s σ H E I hf st hg
    subst hP hw hK
    obtain ⟨xs, x, hq, hx⟩ := hg
    obtain ⟨its, rv, p, hz⟩ := I.list hq
    obtain ⟨u, hu, ru⟩ := rv.get hx
    obtain ⟨f0, f1, f2, f3, f4, f5⟩ := hf it (by simp)
    refine wpAny_pyNext_list_item st p.isList (x := u) (by simpa using hu) fun h' st' sb => ?_
    have I1 : Inv X pins σ H { s with heap := h' } := I.turned (t' := s.toks) (fun b o hb e => (sb.2 b hb).trans e) f0 f1 f3 f4 f5
    obtain ⟨o, e, c, d⟩ := id st'
    exact ⟨u, rfl, go_of (s := { s with heap := h' }) e c d (by decide) ⟨x, H, I1, ru, ⟨rfl, fun ys hy => by rw [I.list_inj hy hq]; exact hx⟩, st', fun b hb => (hf b hb).1⟩⟩
  done := by
    intro X hP hw hK hc i pins s σ H E I hf st hg
    subst hP hw hK
    obtain ⟨xs, hq, hx⟩ := hg
    obtain ⟨its, rv, p, hz⟩ := I.list hq
    obtain ⟨f0, f1, f2, f3, f4, f5⟩ := hf it (by simp)
    have hl := rv.length
    exact wpAny_pyNext_list_end (I.ok.hd hc) st p.isList (by simp; omega) fun h' eb => ⟨rfl, I.turned (t' := s.toks) (fun b o hb e => eb b o hb e) f0 f1 f3 f4 f5⟩
  self := fun _ _ _ _ _ st h => wpAny_pyIter_listiter st h
theorem turn_tuple {P : Program} {w : World} {K : PySem.W.Frag} {tg : Expr} (a it : Addr) : Turn P w K tg (Itt K a) [it] it (fun i h => h.IsTupleIter it a i) where
  mem := by simp
  obj := fun i h st b hb => by
    have e : b = it := by simpa using hb
    subst e
    obtain ⟨o, e, c, d⟩ := st
    exact ⟨o, e, fun v z => by rw [d] at z; cases z⟩
  keep := fun i h h' st k => st.at fun o e => k it (by simp) o e
  item := by
    intro X hP hw hK hc i pins s σ H E I hf st hg
    subst hP hw hK
    obtain ⟨xs, x, hq, hx⟩ := hg
    obtain ⟨its, rv, p, hz⟩ := I.tuple hq
    obtain ⟨u, hu, ru⟩ := rv.get hx
    obtain ⟨f0, f1, f2, f3, f4, f5⟩ := hf it (by simp)
    refine wpAny_pyNext_tuple_item st (show s.heap.IsTuple a its.toArray from p) (x := u) (by simpa using hu) fun h' st' sb => ?_
    have I1 : Inv X pins σ H { s with heap := h' } := I.turned (t' := s.toks) (fun b o hb e => (sb.2 b hb).trans e) f0 f1 f3 f4 f5
    obtain ⟨o, e, c, d⟩ := id st'
    exact ⟨u, rfl, go_of (s := { s with heap := h' }) e c d (by decide) ⟨x, H, I1, ru, ⟨rfl, fun ys hy => by rw [I.tuple_inj hy hq]; exact hx⟩, st', fun b hb => (hf b hb).1⟩⟩
  done := by
    intro X hP hw hK hc i pins s σ H E I hf st hg
    subst hP hw hK
    obtain ⟨xs, hq, hx⟩ := hg
    obtain ⟨its, rv, p, hz⟩ := I.tuple hq
    obtain ⟨f0, f1, f2, f3, f4, f5⟩ := hf it (by simp)
    have hl := rv.length
    exact wpAny_pyNext_tuple_end (I.ok.hd hc) st (show s.heap.IsTuple a its.toArray from p) (by simp; omega) fun h' eb => ⟨rfl, I.turned (t' := s.toks) (fun b o hb e => eb b o hb e) f0 f1 f3 f4 f5⟩
  self := fun _ _ _ _ _ st h => wpAny_pyIter_tupleiter st h
end L2

namespace L2
open PySem PySem.Spec PyProof.Rows
section
variable {X : Cx} {tg : Expr}
def iList (K : PySem.W.Frag) (tl : TE) : TI := fun σ H R => tl σ H fun x H1 => ∃ a, x = .ref a ∧ (∃ xs, SqL K H1 a xs) ∧ R (Itl K a) H1
def iTup (K : PySem.W.Frag) (tl : TE) : TI := fun σ H R => tl σ H fun x H1 => ∃ a, x = .ref a ∧ (∃ xs, SqT K H1 a xs) ∧ R (Itt K a) H1
theorem pi_list {l : Expr} {tl : TE} (hl : PE X l tl) : PI X tg l (iList X.K tl) := by
  intro pins s σ H R I h
  refine thn (hl pins s σ H _ I h) fun v s1 ⟨x, H1, I1, r1, q1⟩ => ?_
  obtain ⟨a, e, ⟨xs, hq⟩, q⟩ := q1
  subst e
  cases r1
  obtain ⟨its, rv, p, hz⟩ := I1.list hq
  refine wpAny_pyIter_list p.isList ?_
  refine ⟨s1.heap.objs.size, [s1.heap.objs.size], _, _, H1, rfl, I1.kept (t' := s1.toks) fun b o e => Heap.get?_push_of_some _ e, turn_list a _, ⟨_, Heap.get?_push_size _ rfl, rfl, rfl⟩, fun b hb => ?_, q⟩
  have e : b = s1.heap.objs.size := by simpa using hb
  subst e
  exact I1.fpOk (Nat.le_refl _) (I1.hok.fresh (Nat.le_refl _))
theorem pi_tup {l : Expr} {tl : TE} (hl : PE X l tl) : PI X tg l (iTup X.K tl) := by
  intro pins s σ H R I h
  refine thn (hl pins s σ H _ I h) fun v s1 ⟨x, H1, I1, r1, q1⟩ => ?_
  obtain ⟨a, e, ⟨xs, hq⟩, q⟩ := q1
  subst e
  cases r1
  obtain ⟨its, rv, p, hz⟩ := I1.tuple hq
  refine wpAny_pyIter_tuple (show s1.heap.IsTuple a its.toArray from p) ?_
  refine ⟨s1.heap.objs.size, [s1.heap.objs.size], _, _, H1, rfl, I1.kept (t' := s1.toks) fun b o e => Heap.get?_push_of_some _ e, turn_tuple a _, ⟨_, Heap.get?_push_size _ rfl, rfl, rfl⟩, fun b hb => ?_, q⟩
  have e : b = s1.heap.objs.size := by simpa using hb
  subst e
  exact I1.fpOk (Nat.le_refl _) (I1.hok.fresh (Nat.le_refl _))

/-! ### for -/
/-- W: the invariant by the turn and a measure; N: what the body is to reach -/
def tFor (wi : TI) (g : TG) (tb : TS) : TS := fun D σ H => wi σ H fun J H1 => ∃ W : Nat → Nat → St → Hp → Prop, (∃ m, W 0 m σ H1) ∧ ∀ i m σ H, W i m σ H →
  (J.stop i H ∧ D.nx σ H) ∨ (J.go i H ∧ ∃ N : St → Hp → Prop, (∀ σ' H', N σ' H' → ∃ m', m' < m ∧ W (i + 1) m' σ' H') ∧ ∀ x H', J.yld i H x H' → g x σ H' fun σ2 H2 => tb { D with nx := N, ct := N, bk := D.nx } σ2 H2)
/-- the records at fp as they stand -/
def pinsAt (fp : List Addr) (h : Heap) : List (Addr × Obj) := fp.filterMap fun b => (h.get? b).map fun o => (b, o)
theorem mem_pinsAt {fp : List Addr} {h : Heap} {b : Addr} {o : Obj} (hb : b ∈ fp) (e : h.get? b = some o) : (b, o) ∈ pinsAt fp h := List.mem_filterMap.mpr ⟨b, hb, by rw [e]; rfl⟩
theorem of_pinsAt {fp : List Addr} {h : Heap} {p : Addr × Obj} (hp : p ∈ pinsAt fp h) : p.1 ∈ fp ∧ h.get? p.1 = some p.2 := by
  obtain ⟨b, hb, e⟩ := List.mem_filterMap.mp hp
  cases q : h.get? b with
  | none => rw [q] at e; cases e
  | some o =>
    rw [q] at e
    have e' : (b, o) = p := Option.some.inj e
    subst e'
    exact ⟨hb, q⟩
theorem Inv.pinned {pins : List (Addr × Obj)} {σ : St} {H : Hp} {s : Shared} {fp : List Addr} (I : Inv X pins σ H s) (hf : ∀ b ∈ fp, FpOk X pins H b) (ho : ∀ b ∈ fp, ∃ o, s.heap.get? b = some o ∧ ∀ v, o.data ≠ .cell v) : Inv X (pins ++ pinsAt fp s.heap) σ H s :=
  I.pins_of fun p hp => (List.mem_append.mp hp).elim (fun z => I.pin p (List.mem_append_right _ z)) fun z => by
    obtain ⟨hb, e⟩ := of_pinsAt z
    obtain ⟨f0, f1, f2, _⟩ := hf p.1 hb
    obtain ⟨o, e', d⟩ := ho p.1 hb
    rw [e] at e'; cases e'
    exact ⟨e, f0, f1, f2, d⟩
theorem Inv.unpinned {pins pl : List (Addr × Obj)} {σ : St} {H : Hp} {s : Shared} (I : Inv X (pins ++ pl) σ H s) : Inv X pins σ H s := I.pins_of fun p hp => I.pin p (List.mem_append_right _ (List.mem_append_left _ hp))
theorem ps_for {iter : Expr} {body : List Stmt} {wi : TI} {g : TG} {tb : TS} {pos : Pos} (hp : PassesOwn (model X.prog X.w) X.A X.env X.xe) (hc : X.calm = true) (hi : PI X tg iter wi) (hg : PG X tg g) (hb : PSs X body tb)
    (hs : ∀ x, foldedSetIterable iter X.env x = pure x := by intro _; rfl) : PS X (.For tg iter body [] pos) (tFor wi g tb) := by
  intro pins s σ H D I h
  refine wpAny_For (thn (hi pins s σ H _ I h) fun v s1 h1 => thn h1 fun itv s2 h2 => ?_) hs
  obtain ⟨it, fp, tn, J, H2, e, I2, T, st2, f2, W, ⟨m0, w0⟩, turn⟩ := h2
  subst e
  -- what stays true of the iterator's objects through the loop
  have stat : ∀ {H' : Hp}, (∀ b ∈ fp, H' b = none) → ∀ b ∈ fp, FpOk X pins H' b := fun hn b hb => ⟨hn b hb, (f2 b hb).2⟩
  refine codeAny_forLoop_any (fun n s' => ∃ i σ' H', Inv X pins σ' H' s' ∧ tn i s'.heap ∧ (∀ b ∈ fp, H' b = none) ∧ W i n σ' H') ?_ m0 ⟨0, σ, H2, I2, st2, fun b hb => (f2 b hb).1, w0⟩
  rintro n s3 ⟨i, σ3, H3, I3, st3, fr3, w3⟩
  rcases turn i n σ3 H3 w3 with ⟨stop, qn⟩ | ⟨go, N, hN, step⟩
  · refine wpAny_passesOwn hp (thn (T.done X rfl rfl rfl hc i pins s3 σ3 H3 X.xe I3 (stat fr3) st3 stop) fun r s4 ⟨hr, I4⟩ => ?_)
    subst hr
    exact wpAny_execs_nil ⟨σ3, H3, I4, qn⟩
  · refine wpAny_passesOwn hp (thn (T.item X rfl rfl rfl hc i pins s3 σ3 H3 X.xe I3 (stat fr3) st3 go) fun r s4 ⟨u, hr, h4⟩ => ?_)
    subst hr
    refine wpAny_passesOwn hp (thn h4 fun _ s5 ⟨x, H5, I5, r5, y5, st5, fr5⟩ => ?_)
    have I5' := I5.pinned (stat fr5) (T.obj _ _ st5)
    refine wpAny_passesOwn hp (thn (hg _ s5 σ3 H5 x u _ I5' r5 (step x H5 y5)) fun _ s6 ⟨σ6, H6, I6, q6⟩ => ?_)
    refine wpAny_passesOwn hp (thn (hb _ s6 σ6 H6 _ I6 q6) fun f s7 q7 => ?_)
    have again : ∀ {σ7 : St} {H7 : Hp}, Inv X (pins ++ pinsAt fp s5.heap) σ7 H7 s7 → N σ7 H7 → ∃ m, m < n ∧ ∃ i σ' H', Inv X pins σ' H' s7 ∧ tn i s7.heap ∧ (∀ b ∈ fp, H' b = none) ∧ W i m σ' H' := fun {σ7 H7} I7 n7 => by
      obtain ⟨m', hm, w7⟩ := hN σ7 H7 n7
      refine ⟨m', hm, i + 1, σ7, H7, I7.unpinned, T.keep _ _ _ st5 fun b hb o e => (I7.pin (b, o) (List.mem_append_right _ (List.mem_append_right _ (mem_pinsAt hb e)))).1, fun b hb => ?_, w7⟩
      obtain ⟨o, e, d⟩ := T.obj _ _ st5 b hb
      exact (I7.pin (b, o) (List.mem_append_right _ (List.mem_append_right _ (mem_pinsAt hb e)))).2.1
    cases f with
    | next => obtain ⟨σ7, H7, I7, n7⟩ := q7; exact again I7 n7
    | cont => obtain ⟨σ7, H7, I7, n7⟩ := q7; exact again I7 n7
    | brk => obtain ⟨σ7, H7, I7, q7⟩ := q7; exact ⟨σ7, H7, I7.unpinned, q7⟩
    | ret v => obtain ⟨x7, σ7, H7, I7, r7, q7⟩ := q7; exact ⟨x7, σ7, H7, I7.unpinned, r7, q7⟩
end

/-! ### the forms one uses -/
end L2

namespace L2
open PySem PySem.Spec PyProof.Rows

abbrev R2 := V → V → Hp → VK → Prop
/-- a two-place operation on values: f is binaryOp op, inplaceOp op or compareOp op -/
def OpR (X : Cx) (f : Value → Value → Sem Value) (r : R2) : Prop :=
  ∀ (pins : List (Addr × Obj)) (s : Shared) (σ : St) (H : Hp) (x y : V) (v u : Value) (Q : VK), Inv X pins σ H s → RelV x v → RelV y u → r x y H Q →
    wpAny (model X.prog X.w) X.A (f v u) (EP X pins σ Q) X.xe s
/-- a call of a value that is known (a builtin, a type) with values -/
def CallR (X : Cx) (f : Value) (r : List V → Hp → VK → Prop) : Prop :=
  ∀ (pins : List (Addr × Obj)) (s : Shared) (σ : St) (H : Hp) (xs : List V) (us : List Value) (Q : VK), Inv X pins σ H s → Vals xs us → r xs H Q →
    wpAny (model X.prog X.w) X.A (call f us) (EP X pins σ Q) X.xe s

def tOp (r : R2) (ta tb : TE) : TE := fun σ H Q => ta σ H fun x H1 => tb σ H1 fun y H2 => r x y H2 Q
/-- ints in, under C, and a value out -/
def rI (C : Int → Int → Prop) (g : Int → Int → V) : R2 := fun x y H Q => ∃ i j, x = .int i ∧ y = .int j ∧ C i j ∧ Q (g i j) H
def rI0 (g : Int → Int → V) : R2 := fun x y H Q => ∃ i j, x = .int i ∧ y = .int j ∧ Q (g i j) H

section
variable {X : Cx} {a b c : Expr} {ta tb tc : TE} {pos : Pos}

theorem binT (ha : PE X a ta) (hb : PE X b tb) {pins : List (Addr × Obj)} {s : Shared} {σ : St} {H : Hp} {R : V → V → Hp → Prop} (I : Inv X pins σ H s)
    (h : ta σ H fun x H1 => tb σ H1 fun y H2 => R x y H2) {Q : Value → Shared → Prop} {f : Value → Value → Sem Value}
    (hf : ∀ v u s2 x y H2, Inv X pins σ H2 s2 → RelV x v → RelV y u → R x y H2 → wpAny (model X.prog X.w) X.A (f v u) Q X.xe s2) :
    wpAny (model X.prog X.w) X.A (eval a X.env) (fun v s₁ => wpAny (model X.prog X.w) X.A (eval b X.env) (fun u s₂ => wpAny (model X.prog X.w) X.A (f v u) Q X.xe s₂) X.xe s₁) X.xe s := by
  refine thn (ha pins s σ H _ I h) fun v s1 ⟨x, H1, I1, r1, q1⟩ => ?_
  refine thn (hb pins s1 σ H1 _ I1 q1) fun u s2 ⟨y, H2, I2, r2, q2⟩ => ?_
  exact hf v u s2 x y H2 I2 r1 r2 q2

theorem pe_op {op : Operator} {r : R2} (ho : OpR X (binaryOp op) r) (ha : PE X a ta) (hb : PE X b tb) : PE X (.BinOp a op b pos) (tOp r ta tb) := by
  intro pins s σ H Q I h
  exact wpAny_BinOp (binT ha hb I h fun v u s2 x y H2 I2 rx ry q => ho pins s2 σ H2 x y v u Q I2 rx ry q)

/-! ### ints -/
theorem opI {f : Value → Value → Sem Value} {C : Int → Int → Prop} {g : Int → Int → Int}
    (rule : ∀ (i j : Int) (t u : Tok) (s : Shared) (Q : Value → Shared → Prop) (E : Value → Shared → Prop), C i j → Q (.int (g i j) s.toks) { s with toks := s.toks + 1 } → wpAny (model X.prog X.w) X.A (f (.int i t) (.int j u)) Q E s) :
    OpR X f (rI C fun i j => .int (g i j)) := by
  intro pins s σ H x y v u Q I rx ry h
  obtain ⟨i, j, rfl, rfl, hc, q⟩ := h
  obtain ⟨t, rfl⟩ := rx
  obtain ⟨t', rfl⟩ := ry
  exact rule i j t t' s _ _ hc ⟨.int (g i j), H, I.tok _, ⟨_, rfl⟩, q⟩
theorem opI0 {f : Value → Value → Sem Value} {g : Int → Int → Int}
    (rule : ∀ (i j : Int) (t u : Tok) (s : Shared) (Q : Value → Shared → Prop) (E : Value → Shared → Prop), Q (.int (g i j) s.toks) { s with toks := s.toks + 1 } → wpAny (model X.prog X.w) X.A (f (.int i t) (.int j u)) Q E s) :
    OpR X f (rI0 fun i j => .int (g i j)) := by
  intro pins s σ H x y v u Q I rx ry h
  obtain ⟨i, j, rfl, rfl, q⟩ := h
  obtain ⟨t, rfl⟩ := rx
  obtain ⟨t', rfl⟩ := ry
  exact rule i j t t' s _ _ ⟨.int (g i j), H, I.tok _, ⟨_, rfl⟩, q⟩
theorem opB0 {f : Value → Value → Sem Value} {g : Int → Int → Bool}
    (rule : ∀ (i j : Int) (t u : Tok) (s : Shared) (Q : Value → Shared → Prop) (E : Value → Shared → Prop), Q (.bool (g i j)) s → wpAny (model X.prog X.w) X.A (f (.int i t) (.int j u)) Q E s) :
    OpR X f (rI0 fun i j => .bl (g i j)) := by
  intro pins s σ H x y v u Q I rx ry h
  obtain ⟨i, j, rfl, rfl, q⟩ := h
  obtain ⟨t, rfl⟩ := rx
  obtain ⟨t', rfl⟩ := ry
  exact rule i j t t' s _ _ ⟨.bl (g i j), H, I, rfl, q⟩

def CPow (i j : Int) : Prop := 0 ≤ j ∧ j ≤ 1000000 ∧ i.natAbs < 2 ^ 64
def CMul (i j : Int) : Prop := (-(2 ^ 64) < i ∧ i < 2 ^ 64) ∨ (-(2 ^ 64) < j ∧ j < 2 ^ 64)
theorem CMul.ok {i j : Int} (h : CMul i j) : IntMulOk i j := by
  rcases h with ⟨h1, h2⟩ | ⟨h1, h2⟩
  · exact .of_left (intBits_le_64 h1 h2)
  · exact .of_right (intBits_le_64 h1 h2)

theorem op_add : OpR X (binaryOp .Add) (rI0 fun i j => .int (i + j)) := opI0 fun _ _ _ _ _ _ _ q => add_int q
/-- % by a positive divisor of any size -/
theorem op_mod : OpR X (binaryOp .Mod) (rI (fun _ j => 0 < j) fun i j => .int (i % j)) := opI fun i j _ _ _ _ _ hc q => by
  have h1 : (0 : Int) < j := hc
  exact mod_int' (by omega) (by rw [Int.fmod_eq_emod_of_nonneg i (by omega)]; exact q)
theorem op_pow : OpR X (binaryOp .Pow) (rI CPow fun i j => .int (i ^ j.toNat)) := opI fun _ _ _ _ _ _ _ hc q => pow_int_small hc.1 hc.2.1 hc.2.2 q



/-! ### bools among ints: n += (a < b) -/
end

/-! ### comparisons -/


section
variable {X : Cx} {a b c : Expr} {ta tb tc : TE} {pos : Pos}

theorem op_lt : OpR X (compareOp .Lt) (rI0 fun i j => .bl (decide (i < j))) := opB0 fun _ _ _ _ _ _ _ q => lt_int q
theorem op_gt : OpR X (compareOp .Gt) (rI0 fun i j => .bl (decide (j < i))) := opB0 fun _ _ _ _ _ _ _ q => gt_int q




theorem nomark (b : Expr) {op : CmpOp} (h : op ≠ .In := by decide) (h2 : op ≠ .NotIn := by decide) : behindInMarks op b = false := by
  have e1 : (op == CmpOp.In) = false := by cases op <;> first | rfl | exact absurd rfl h
  have e2 : (op == CmpOp.NotIn) = false := by cases op <;> first | rfl | exact absurd rfl h2
  cases b <;> simp [behindInMarks, e1, e2]
/-- a comparison as a value; hm: nomark b, or (for in, not in) by with_unfolding_all rfl -/
theorem pe_cmpR {op : CmpOp} {r : R2} (ho : OpR X (compareOp op) r) (ha : PE X a ta) (hb : PE X b tb) (hm : behindInMarks op b = false) : PE X (.Compare a [op] [b] pos) (tOp r ta tb) := by
  intro pins s σ H Q I h
  exact wpAny_Compare1 (binT ha hb I h fun v u s2 x y H2 I2 rx ry q => ho pins s2 σ H2 x y v u Q I2 rx ry q) hm
/-- a reading of a value as a test -/
def tTest (t : TE) : TT := fun σ H Q => t σ H fun x H' => ∃ k, x = .bl k ∧ Q k H'
theorem pt_cmpR {op : CmpOp} {r : R2} (ho : OpR X (compareOp op) r) (ha : PE X a ta) (hb : PE X b tb) (hm : behindInMarks op b = false) : PT X (.Compare a [op] [b] pos) (tTest (tOp r ta tb)) := by
  intro pins s σ H Q I h
  refine wpAny_isTrue_Compare1 (thn (ha pins s σ H _ I h) fun v s1 ⟨x, H1, I1, r1, q1⟩ => thn (hb pins s1 σ H1 _ I1 q1) fun u s2 ⟨y, H2, I2, r2, q2⟩ =>
    thn (ho pins s2 σ H2 x y v u _ I2 r1 r2 q2) fun c s3 ⟨z, H3, I3, r3, k, e, q3⟩ => ?_) hm
  subst e
  cases r3
  exact wpAny_truthy_bool ⟨H3, I3, q3⟩

/-! ### truth -/
theorem line63 : (sizeLine : Nat) < 2 ^ 63 := by rw [sizeLine_eq]; decide

/-! ### strs and bytes -/


/-! ### scalar builtins, by CallR -/
theorem vals1 {x : V} {us : List Value} (r : Vals [x] us) : ∃ u, us = [u] ∧ RelV x u := by
  cases r with
  | cons r1 r2 => cases r2; exact ⟨_, rfl, r1⟩
theorem vals2 {x y : V} {us : List Value} (r : Vals [x, y] us) : ∃ u w', us = [u, w'] ∧ RelV x u ∧ RelV y w' := by
  cases r with
  | cons r1 r2 =>
    cases r2 with
    | cons r3 r4 => cases r4; exact ⟨_, _, rfl, r1, r3⟩
end
end L2

namespace L2
open PySem PySem.Spec PyProof.Rows

/-! ### an instance, its attributes a map -/
structure ObjM (h : Heap) (x dx C : Addr) (mA : Str → Option Value) : Prop where
  obj : h.get? x = some (PySem.W.instObj C dx)
  ns : h.Ns1 dx mA
  ne : dx ≠ x



section
variable {prog : Program} {w : World} {A : Around} {E : Value → Shared → Prop} {s : Shared} {K : PySem.W.Frag} {x dx C f : Addr} {mA : Str → Option Value} {name : Str} {v : Value}





end

/-! ### the attributes as a list of pairs -/

theorem RelO.some_of {v : V} {o : Option Value} (r : RelO (some v) o) : ∃ u, o = some u ∧ RelV v u := by
  cases o with
  | none => exact (show False from r).elim
  | some u => exact ⟨u, rfl, r⟩

section
variable {P : Program} {w : World} {H H' : Hp} {h h' : Heap} {a C dx : Addr} {fs fs' : List (Str × V)}
end

/-! ### what of the text a class must have -/
structure Cls (K : PySem.W.Frag) (C : Addr) : Prop where
  pg : PySem.W.plainGet K C Str.empty = true
  hd : PySem.W.hasDictIn K C = true
  po : PySem.W.plainOver K C = true
  sa : PySem.W.findIn K (.ref C) "__setattr__" = some (some (.builtin "object.__setattr__"))
/-- no class of it has the name -/
def NoAttr (K : PySem.W.Frag) (C : Addr) (f : Str) : Prop := PySem.W.findIn K (.ref C) f = some none
/-- a constant of the class -/
structure Con (K : PySem.W.Frag) (C : Addr) (f : Str) (v : V) (u : Value) : Prop where
  at_ : PySem.W.findIn K (.ref C) f = some (some u)
  rel : RelV v u
  get : PySem.W.specialIn K u "__get__" = some none
  cp : PySem.W.copiedNames.contains f = false
/-- a method: a plain def of the class or of one above it -/
structure Meth (K : PySem.W.Frag) (C : Addr) (m : Str) (f : Addr) : Prop where
  at_ : PySem.W.findIn K (.ref C) m = some (some (.ref f))
  fn : PySem.W.isFn K (.ref f) = true
  kp : PySem.W.keepIn K (.ref f) = true

section
variable {X : Cx} {pins : List (Addr × Obj)} {σ : St} {H : Hp} {s : Shared} {a C dx : Addr} {fs : List (Str × V)} {f : Str} {v : V} {A : Around} {E : Value → Shared → Prop}






end

/-! ### readings and rules -/

section
variable {X : Cx} {o e value : Expr} {f : Str} {pos pos' tpos : Pos} {ta tv : TE}

end

/-! ### isinstance -/
section
variable {X : Cx} {pins : List (Addr × Obj)} {σ : St} {H : Hp} {s : Shared} {A : Around} {E : Value → Shared → Prop} {Q : Value → Shared → Prop} {c : Value} {b : Bool}
/-- the type of a value, as the fragment's deciders take it; for an instance its class -/
inductive TyOf (K : PySem.W.Frag) (H : Hp) : V → Value → Prop where
  | non : TyOf K H .non (.type "NoneType")
  | bl (x : Bool) : TyOf K H (.bl x) (.type "bool")
  | int (i : Int) : TyOf K H (.int i) (.type "int")
  | str (x : Str) : TyOf K H (.str x) (.type "str")
  | flt (x : UInt64) : TyOf K H (.flt x) (.type "float")
  | lst {a : Addr} {xs : List V} (e : H a = some (.lst xs)) : TyOf K H (.ref a) (.type "list")
  | frz {a : Addr} {o : Obj} {xs : List V} (e : H a = some (.frz o (.lst xs))) : TyOf K H (.ref a) (.type "list")
  | tup {a : Addr} {xs : List V} (e : H a = some (.tup xs)) : TyOf K H (.ref a) (.type "tuple")
  | dK {a : Addr} {kvs : List (Key × V)} (e : H a = some (.dK kvs)) : TyOf K H (.ref a) (.type "dict")
  | dT {a : Addr} {kvs : List (List Key × V)} (e : H a = some (.dT kvs)) : TyOf K H (.ref a) (.type "dict")
  | ins {a C dx : Addr} {fs : List (Str × V)} (e : H a = some (.ins C dx fs)) (cl : Cls K C) (ha : PySem.W.findIn K (.ref C) "__class__" = some (some (.builtin "object.__class__")))
      (hn : PySem.W.specialIn K (.builtin "object.__class__") "__get__" = some (some (.builtin "getset_descriptor.__get__"))) (htk : PySem.W.takesIn K (.builtin "object.__class__") = some true)
      (hm : PySem.W.mroIn K C (.type "object") = some true) : TyOf K H (.ref a) (.ref C)
end
end L2

namespace L2
open PySem PySem.Spec PyProof.Rows

/-! ### room -/
structure Room (k : Nat) (A : Around) : Prop where
  hd : A.handled = none
  dp : A.depth + 3 * k + 5 < recursionLimit
  un : A.units + 16 * k + 200 < cLine
theorem Room.mono {j k : Nat} {A : Around} (r : Room k A) (h : j ≤ k) : Room j A := ⟨r.hd, by have := r.dp; omega, by have := r.un; omega⟩
theorem Room.deeper {k : Nat} {A : Around} (r : Room (k + 1) A) (env : Env) : Room k (A.deeper env) :=
  ⟨r.hd, by have := r.dp; show A.depth + 1 + 3 * k + 5 < _; omega, by have := r.un; show A.units + 3 + 16 * k + 200 < _; omega⟩
theorem Room.in1 {k : Nat} {A : Around} (r : Room (k + 1) A) : Room k A.in1 :=
  ⟨r.hd, by have := r.dp; show A.depth + 3 * k + 5 < _; omega, by have := r.un; show A.units + 1 + 16 * k + 200 < _; omega⟩
theorem Room.depth {k : Nat} {A : Around} (r : Room k A) : A.depth < recursionLimit := by have := r.dp; omega
theorem Room.units {k : Nat} {A : Around} (r : Room k A) : A.units + 64 < cLine := by have := r.un; omega

/-! ### argument lists and displays -/
def tNil : TA := fun _ H Q => Q [] H
def tCons (ta : TE) (tr : TA) : TA := fun σ H Q => ta σ H fun x H1 => tr σ H1 fun xs H2 => Q (x :: xs) H2
section
variable {X : Cx} {e : Expr} {es : List Expr} {te : TE} {t : TA} {pos : Pos}
theorem pa_nil : PA X [] tNil := fun _ _ _ _ H Q I h => Calls.spliced_nil ⟨[], H, I, .nil, h⟩
theorem pa_cons (ha : PE X e te) (hr : PA X es t) (hs : starEach (e :: es) X.env = (false, eval e X.env) :: starEach es X.env := by rfl) : PA X (e :: es) (tCons te t) := by
  intro pos pins s σ H Q I h
  rw [hs]
  show wpAny _ _ (spliced ((false, eval e X.env) :: backTo pos (starEach es X.env))) _ _ s
  refine Calls.spliced_cons (thn (ha pins s σ H _ I h) fun u s1 ⟨x, H1, I1, r1, q1⟩ => ?_)
  exact thn (hr pos pins s1 σ H1 _ I1 q1) fun us s2 ⟨xs, H2, I2, r2, q2⟩ => ⟨x :: xs, H2, I2, .cons r1 r2, q2⟩

/-- a tuple, a list of written items -/
def tTup (t : TA) : TE := fun σ H Q => t σ H fun xs H1 => xs.length ≤ sizeLine ∧ ∀ p, H1 p = none → Q (.ref p) (upd H1 p (.tup xs))
def tLst (t : TA) : TE := fun σ H Q => t σ H fun xs H1 => xs.length ≤ sizeLine ∧ ∀ p, H1 p = none → Q (.ref p) (upd H1 p (.lst xs))
theorem pe_tup {x1} (h : PA X es t) : PE X (.Tuple es x1 pos) (tTup t) := by
  intro pins s σ H Q I hq
  refine wpAny_Tuple_spliced (thn (h pos pins s σ H _ I hq) fun us s1 ⟨xs, H1, I1, r, z, q⟩ => ⟨by rw [← r.length]; exact z, ?_⟩)
  have hf : H1 s1.heap.objs.size = none := I1.hok.fresh (Nat.le_refl _)
  refine ⟨.ref s1.heap.objs.size, upd H1 s1.heap.objs.size (.tup xs), I1.laid (t' := s1.toks) (fun b u e => Heap.get?_push_of_some _ e) (Nat.le_refl _) ?_, rfl, q _ hf⟩
  exact ⟨z, us, r, ⟨_, Heap.get?_push_size _ rfl, rfl, _, rfl⟩⟩
theorem pe_lst (h : PA X es t) : PE X (.List es pos) (tLst t) := by
  intro pins s σ H Q I hq
  refine wpAny_List_spliced (thn (h pos pins s σ H _ I hq) fun us s1 ⟨xs, H1, I1, r, z, q⟩ => ⟨by rw [← r.length]; exact z, ?_⟩)
  have hf : H1 s1.heap.objs.size = none := I1.hok.fresh (Nat.le_refl _)
  refine ⟨.ref s1.heap.objs.size, upd H1 s1.heap.objs.size (.lst xs), I1.laid (t' := s1.toks) (fun b u e => Heap.get?_push_of_some _ e) (Nat.le_refl _) ?_, rfl, q _ hf⟩
  exact ⟨z, us, 0, r, Heap.get?_push_size _ rfl⟩
end

/-! ### what a def promises -/
/-- a def's promise: the bound arguments in the parameters' order, the heap, the wanted end, the wanted exception -/
abbrev Sp := List V → Hp → VK → XK → Prop
/-- how an exception lies behind a call (file 08 gives it): the callers' frames, abstract heap and state ahead of the call, the wish, the exception, the state -/
abbrev CXT := List Env → Hp → Shared → XK → Value → Shared → Prop

/-- the state at a call -/
structure Env0 (P : Program) (w : World) (K : PySem.W.Frag) (mg : Str → Option Value) (base : Heap) (A : Around) (outer : List Env) (s : Shared) (H : Hp) : Prop where
  frames : A.frames = some outer
  mod : Mod K mg base
  bs : ∀ b o, base.get? b = some o → s.heap.get? b = some o ∧ H b = none
  bsz : base.objs.size ≤ s.heap.objs.size
  funs : s.heap.FunFrames base outer
  frf : ∀ b ∈ frs outer, H b = none
  hok : HOk P w H s.heap
  bare : AllBare s.gens
/-- a call's end -/
def CE (outer : List Env) (P : Program) (w : World) (H : Hp) (s : Shared) (Q : VK) (u : Value) (s' : Shared) : Prop :=
  ∃ v H', s'.os = s.os ∧ AllBare s'.gens ∧ Un (frs outer) [] H H' s.heap s'.heap ∧ HOk P w H' s'.heap ∧ RelV v u ∧ Q v H'
def CR (CX : CXT) (outer : List Env) (P : Program) (w : World) (H : Hp) (s : Shared) (Q : VK) (E : XK) (r : Result) (s' : Shared) : Prop :=
  match r with
  | .ok (.ret u) => CE outer P w H s Q u s'
  | .ok _ => False
  | .error e => CX outer H s E e s'
structure FnOk (P : Program) (w : World) (K : PySem.W.Frag) (mg : Str → Option Value) (base : Heap) (CX : CXT) (k : Nat) (f : Addr) (fd : FuncData) (ps : List Str) (sp : Sp) : Prop where
  len : ∀ vs H Q E, sp vs H Q E → vs.length = ps.length
  run : ∀ (A : Around) (outer : List Env) (s : Shared) (H : Hp) (args : Args) (us : List Value) (vs : List V) (Q : VK) (E : XK), Room k A → Env0 P w K mg base A outer s H → BindsTo s fd args (ps.zip us) → Vals vs us → sp vs H Q E →
    codeAny (model P w) A (.call (.ref f) args) (CR CX outer P w H s Q E) s
/-- a weaker promise -/
theorem FnOk.imp {P : Program} {w : World} {K : PySem.W.Frag} {mg : Str → Option Value} {base : Heap} {CX : CXT} {k : Nat} {f : Addr} {fd : FuncData} {ps : List Str} {sp sp' : Sp} (F : FnOk P w K mg base CX k f fd ps sp)
    (h : ∀ vs H Q E, sp' vs H Q E → sp vs H Q E) : FnOk P w K mg base CX k f fd ps sp' :=
  ⟨fun vs H Q E q => F.len vs H Q E (h _ _ _ _ q), fun A outer s H args us vs Q E hr he hb hv hs => F.run A outer s H args us vs Q E hr he hb hv (h _ _ _ _ hs)⟩

theorem Env0.in1 {P : Program} {w : World} {K : PySem.W.Frag} {mg : Str → Option Value} {base : Heap} {A : Around} {outer : List Env} {s : Shared} {H : Hp} (e : Env0 P w K mg base A outer s H) :
    Env0 P w K mg base A.in1 outer s H := ⟨e.frames, e.mod, e.bs, e.bsz, e.funs, e.frf, e.hok, e.bare⟩

section
variable {X : Cx} {pins : List (Addr × Obj)} {σ : St} {H : Hp} {s s' : Shared}
/-- from a body: what a callee wants -/
theorem Inv.env0 (I : Inv X pins σ H s) : Env0 X.prog X.w X.K X.mg X.base X.A X.stack s H :=
  ⟨I.ok.frames, I.ok.mod, I.bs, Nat.le_trans I.ok.bsz I.sz, I.stack, I.stkFree, I.hok, I.bare⟩
/-- behind a call -/
theorem Inv.after {Q : VK} {u : Value} (I : Inv X pins σ H s) (h : CE X.stack X.prog X.w H s Q u s') : EP X pins σ Q u s' := by
  obtain ⟨v, H', os, bare, un, hok, r, q⟩ := h
  obtain ⟨hh, g, d, t, os'⟩ := s'
  obtain rfl : os' = s.os := os
  exact ⟨v, H', I.call (h' := hh) (g' := g) (d' := d) (t' := t) (ch := []) un hok bare (fun b z => absurd z (by simp)), r, q⟩
end

/-! ### calls -/
/-- f(..): the written arguments, then the defaults dvs; E: what is wanted of an exception -/
def tCall (sp : Sp) (dvs : List V) (E : XK) (t : TA) : TE := fun σ H Q => t σ H fun vs H1 => sp (vs ++ dvs) H1 Q E

/-- how the parameters are bound: us the positional arguments, kw the keywords' values by name, ds the defaults that fill up -/
def Binds (K : PySem.W.Frag) (fd : FuncData) (ps : List Str) (ds : List Value) : Prop :=
  ∀ (s : Shared) (us : List Value), K.In s.heap → (us ++ ds).length = ps.length → BindsTo s fd ⟨us, []⟩ (ps.zip (us ++ ds))
/-- every parameter is given -/
theorem Binds.all {K : PySem.W.Frag} {fd : FuncData} {ps : List Str} (h : ∀ us : List Value, us.length = ps.length → bindArgs fd ⟨us, []⟩ = pure (ps.zip us)) : Binds K fd ps [] := fun s us _ hl => by
  rw [List.append_nil] at hl ⊢
  exact .of_eq (h us hl)

/-- an exception of a callee reaches what this body wants of exceptions -/
def Passes (CX : CXT) (X : Cx) (E : XK) : Prop := ∀ (pins : List (Addr × Obj)) (σ : St) (H : Hp) (s : Shared) (e : Value) (s' : Shared), Inv X pins σ H s → CX X.stack H s E e s' → X.xe e s'

section
variable {X : Cx} {CX : CXT} {k : Nat} {f C : Addr} {fd : FuncData} {ps : List Str} {sp : Sp} {dvs : List V} {ds : List Value} {E : XK} {x m : Str} {p pos apos : Pos} {e o : Expr} {es : List Expr} {ta : TE} {t : TA}

/-- the callee runs -/
theorem run_fn {pins : List (Addr × Obj)} {σ : St} {H : Hp} {s : Shared} {Q : VK} {us : List Value} {vs : List V} (F : FnOk X.prog X.w X.K X.mg X.base CX k f fd ps sp) (hr : Room k X.A) (hb : Binds X.K fd ps ds) (hd : Vals dvs ds) (hx : Passes CX X E)
    (I : Inv X pins σ H s) (r : Vals vs us) (h : sp (vs ++ dvs) H Q E) : wpAny (model X.prog X.w) X.A (call (.ref f) us) (EP X pins σ Q) X.xe s := by
  have r2 : Vals (vs ++ dvs) (us ++ ds) := r.append hd
  have hl : (us ++ ds).length = ps.length := by rw [← r2.length]; exact F.len _ _ _ _ h
  refine wpAny_call (codeAny_mono (F.run X.A X.stack s H ⟨us, []⟩ (us ++ ds) (vs ++ dvs) Q E hr I.env0 (hb s us I.kIn hl) r2 h) fun r s' hq => ?_)
  cases r with
  | error e => exact hx pins σ H s e s' I hq
  | ok fl =>
    cases fl with
    | ret u => exact I.after hq
    | next => exact False.elim hq
    | brk => exact False.elim hq
    | cont => exact False.elim hq

theorem pe_call (F : FnOk X.prog X.w X.K X.mg X.base CX k f fd ps sp) (hr : Room k X.A) (hg : Gl X x) (hm : X.mg x = some (.ref f)) (hk : PySem.W.keepIn X.K (.ref f) = true) (hb : Binds X.K fd ps ds) (hd : Vals dvs ds) (hx : Passes CX X E)
    (ha : PA X (e :: es) t) (hdb : (x == ("__debug__" : Str)) = false := by decide) (he : starEach (e :: es) X.env = (false, eval e X.env) :: starEach es X.env := by rfl) (hpl : (backTo pos (starEach es X.env)).any (·.1) = false := by rfl) :
    PE X (.Call (.Name x p) (e :: es) [] pos) (tCall sp dvs E t) := by
  intro pins s σ H Q I h
  refine wpAny_Call_Name_kw (ld_glob I hg hm ?_ hdb)
  refine PySem.W.callWith_K (h₀ := X.base) I.ok.mod.kin hk (thn (ha pos pins s σ H _ I h) fun us s1 ⟨vs, H1, I1, r, q⟩ => ⟨I1.kIn, ?_⟩) he hpl
  exact run_fn F hr hb hd hx I1 r q


/-- what a class must have to be made -/
structure Mk (K : PySem.W.Frag) (C f : Addr) : Prop where
  makes : PySem.W.makesIn K C = true
  init : PySem.W.findIn K (.ref C) "__init__" = some (some (.ref f))
  fn : PySem.W.isFn K (.ref f) = true
  kp : PySem.W.keepIn K (.ref C) = true

end

/-! ### keywords -/
section
variable {X : Cx} {CX : CXT} {k : Nat} {f C : Addr} {fd : FuncData} {ps ks : List Str} {sp : Sp} {E : XK} {x m : Str} {p pos apos kpos : Pos} {e o : Expr} {es : List Expr} {kws : List Keyword} {te ta : TE} {t tk : TA} {nm : Option Str}

/-- how a call with keywords binds: g puts the positional values us and the keywords' values ws (names ks) in the parameters' order, defaults among them -/
structure KBinds (K : PySem.W.Frag) (fd : FuncData) (ps ks : List Str) (g : List Value → List Value → List Value) (gV : List V → List V → List V) : Prop where
  to : ∀ (s : Shared) (us ws : List Value), K.In s.heap → (g us ws).length = ps.length → BindsTo s fd ⟨us, ks.zip ws⟩ (ps.zip (g us ws))
  rel : ∀ {vs : List V} {us : List Value} {zs : List V} {ws : List Value}, Vals vs us → Vals zs ws → Vals (gV vs zs) (g us ws)
variable {g : List Value → List Value → List Value} {gV : List V → List V → List V}
end

/-! ### a def's body keeps its promise -/
/-- names: the parameters first -/
structure FnScope (N P : List Str) (sc : Scope) : Prop where
  kind : sc.kind = .function
  co : sc.isCoroutine = false
  gen : sc.isGenerator = false
  nd : N.Nodup
  pre : N.take P.length = P
  par : ∀ x ∈ P, sc.names.lookup x = some .local ∨ sc.names.lookup x = some .cell
  nofree : ∀ y ∈ sc.names, y.2 ≠ .free

theorem bindL_out {kindOf : Str → Option NameKind} {x : Str} : ∀ {binds : List (Str × Value)} {m : Str → Option Value}, (∀ v, (x, v) ∉ binds) → bindL kindOf binds m x = m x
  | [], _, _ => rfl
  | (n, v) :: r, m, h => by
    unfold bindL
    rw [bindL_out fun w hw => h w (List.mem_cons_of_mem _ hw)]
    split
    · have : x ≠ n := by rintro rfl; exact h v List.mem_cons_self
      simp [this]
    · rfl
theorem bindC_out {kindOf : Str → Option NameKind} {x : Str} : ∀ {binds : List (Str × Value)} {m : Str → Option Value}, (∀ v, (x, v) ∉ binds) → bindC kindOf binds m x = m x
  | [], _, _ => rfl
  | (n, v) :: r, m, h => by
    unfold bindC
    rw [bindC_out fun w hw => h w (List.mem_cons_of_mem _ hw)]
    split
    · rfl
    · have : x ≠ n := by rintro rfl; exact h v List.mem_cons_self
      simp [this]
theorem bindL_get {kindOf : Str → Option NameKind} {x : Str} {v : Value} : ∀ {P : List Str} {vs : List Value} {i : Nat} {m : Str → Option Value}, P.Nodup → P[i]? = some x → vs[i]? = some v → kindOf x = some .local →
    bindL kindOf (P.zip vs) m x = some v
  | [], _, _, _, _, h, _, _ => by simp at h
  | _ :: _, [], _, _, _, _, h, _ => by simp at h
  | p :: P, w :: vs, 0, m, nd, h1, h2, hk => by
    simp at h1 h2; subst h1; subst h2
    show bindL kindOf ((p, w) :: P.zip vs) m p = _
    unfold bindL
    rw [bindL_out fun v hv => (List.nodup_cons.mp nd).1 (List.of_mem_zip hv).1, if_pos hk]
    simp
  | p :: P, w :: vs, i + 1, m, nd, h1, h2, hk => by
    show bindL kindOf ((p, w) :: P.zip vs) m x = _
    unfold bindL
    exact bindL_get (i := i) (List.nodup_cons.mp nd).2 (by simpa using h1) (by simpa using h2) hk
theorem bindC_get {kindOf : Str → Option NameKind} {x : Str} {v : Value} : ∀ {P : List Str} {vs : List Value} {i : Nat} {m : Str → Option Value}, P.Nodup → P[i]? = some x → vs[i]? = some v → kindOf x ≠ some .local →
    bindC kindOf (P.zip vs) m x = some v
  | [], _, _, _, _, h, _, _ => by simp at h
  | _ :: _, [], _, _, _, _, h, _ => by simp at h
  | p :: P, w :: vs, 0, m, nd, h1, h2, hk => by
    simp at h1 h2; subst h1; subst h2
    show bindC kindOf ((p, w) :: P.zip vs) m p = _
    unfold bindC
    rw [bindC_out fun v hv => (List.nodup_cons.mp nd).1 (List.of_mem_zip hv).1, if_neg hk]
    simp
  | p :: P, w :: vs, i + 1, m, nd, h1, h2, hk => by
    show bindC kindOf ((p, w) :: P.zip vs) m x = _
    unfold bindC
    exact bindC_get (i := i) (List.nodup_cons.mp nd).2 (by simpa using h1) (by simpa using h2) hk

/-- the names' values at the entry -/
def start (N : List Str) (vs : List V) : St := vs.map some ++ List.replicate (N.length - vs.length) none

/-- the context of a def's body, at its entry; an exception leaves the frame, then lies as CX says -/
def cxOf (CX : CXT) (P : Program) (w : World) (K : PySem.W.Frag) (mg : Str → Option Value) (base : Heap) (N : List Str) (qual : Str) (scope : Scope) (f : Addr) (cd : Value) (A : Around) (outer : List Env) (s : Shared) (H : Hp) (E : XK) : Cx where
  prog := P
  w := w
  K := K
  mg := mg
  base := base
  A := A.deeper (envOfC qual scope s.heap.objs.size f cd)
  N := N
  s₀ := s
  H₀ := H
  env := envOfC qual scope s.heap.objs.size f cd
  outer := outer
  stack := envOfC qual scope s.heap.objs.size f cd :: outer
  ex := []
  calm := true
  fn := fun _ => true
  pn := []
  xe := fun e s' => wpAny (model P w) (A.deeper (envOfC qual scope s.heap.objs.size f cd)) (leaving (envOfC qual scope s.heap.objs.size f cd) e) (fun _ s'' => CX outer H s E e s'') (fun e' s'' => CX outer H s E e' s'') s'

theorem cell_has {sc : Scope} {n : Nat} {x : Str} (h : sc.names.lookup x = some .cell) : ∃ c, (cellsFrom n sc.names []).lookup x = some c := by
  have q := PySem.W.cellsFrom_some sc.names n [] (.inl h)
  exact Option.isSome_iff_exists.mp q

theorem inv_start {CX : CXT} {P : Program} {w : World} {K : PySem.W.Frag} {mg : Str → Option Value} {base : Heap} {N ps : List Str} {qual : Str} {scope : Scope} {f : Addr} {cd : Value} {A : Around} {outer : List Env} {s s1 : Shared} {H : Hp} {E : XK} {us : List Value} {vs : List V}
    (S : FnScope N ps scope) (hd : A.handled = none) (e0 : Env0 P w K mg base A outer s H) (hl : vs.length = ps.length) (r : Vals vs us)
    (x : InCallC s s.heap.objs.size (bindL (envOfC qual scope s.heap.objs.size f cd).kindOf (ps.zip us) fun _ => none) (cellsFrom (s.heap.objs.size + 1) scope.names []) (bindC (envOfC qual scope s.heap.objs.size f cd).kindOf (ps.zip us) fun _ => none) s1) :
    Inv (cxOf CX P w K mg base N qual scope f cd A outer s H E) [] (start N vs) H s1 := by
  have hpl : ps.length ≤ N.length := by have := congrArg List.length S.pre; rw [List.length_take] at this; omega
  obtain ⟨h1, tk, rfl, hk⟩ := x.done
  have noA : ∀ b : Addr, b ∉ (cxOf CX P w K mg base N qual scope f cd A outer s H E).ex := fun b z => absurd (show b ∈ ([] : List Addr) from z) (by simp)
  refine ⟨⟨e0.mod, S.kind, rfl, rfl, Nat.le_refl _, fun y z c h1 h2 => ?_, fun y hy => ?_, fun y c _ h => ?_, fun _ => hd, Around.frames_deeper e0.frames, .inr ⟨rfl, rfl⟩, fun b z => absurd z (noA b), e0.bs, e0.bsz, fun b _ _ => noA b, fun b z => absurd z (noA b), e0.funs, e0.frf⟩,
    rfl, e0.bare, Un.kept hk, ⟨_, x.toInCall.ns, fun i y v h1 h2 h3 => ?_⟩, fun y c h => ⟨_, x.cell y c h⟩, e0.hok.fresh (Nat.le_refl _), fun y c h => ?_, fun p hp => absurd (show p ∈ ([] : List (Addr × Obj)) from hp) (by simp), e0.hok.kept hk, ?_⟩
  · exact name_of_addr x.apart (PySem.mem_of_lookup h1) (PySem.mem_of_lookup h2)
  · have hy : scope.names.lookup y = some .cell ∨ scope.names.lookup y = some .free := hy
    rcases hy with hy | hy
    · exact cell_has hy
    · exact absurd rfl (S.nofree _ (PySem.mem_of_lookup hy))
  · exact Nat.le_of_lt (x.above y c (PySem.mem_of_lookup h))
  · have hi : i < vs.length := by
      unfold start at h2
      by_cases hi : i < vs.length
      · exact hi
      · rw [List.getElem?_append_right (by simpa using hi)] at h2
        rw [List.getElem?_replicate] at h2
        split at h2 <;> cases h2
    have ha : vs[i]? = some v := by
      unfold start at h2
      rw [List.getElem?_append_left (by simpa using hi), List.getElem?_map] at h2
      cases e : vs[i]? with
      | none => rw [e] at h2; cases h2
      | some a => rw [e] at h2; cases h2; rfl
    obtain ⟨u, hu, rv⟩ := r.get ha
    have hp : ps[i]? = some y := by
      rw [← S.pre, List.getElem?_take_of_lt (by omega)]; exact h1
    have ndP : ps.Nodup := by rw [← S.pre]; exact S.nd.sublist (List.take_sublist _ _)
    refine ⟨u, rv, ?_⟩
    rcases S.par y (List.mem_of_getElem? hp) with k | k
    · exact .inl ⟨k, bindL_get ndP hp hu k⟩
    · obtain ⟨c, e⟩ := cell_has (n := s.heap.objs.size + 1) k
      refine .inr ⟨.inl k, c, e, ?_⟩
      have q := x.cell y c e
      rw [bindC_get ndP hp hu (by show scope.names.lookup y ≠ _; rw [k]; decide)] at q
      exact q
  · exact e0.hok.fresh (Nat.le_of_lt (x.above y c (PySem.mem_of_lookup h)))
  · unfold start
    show _ = N.length
    rw [List.length_append, List.length_map, List.length_replicate]
    omega

/-- THE RULE: a def (or a method) of the text, by its body. The body's reading t is chosen for each entry; it is run at the parameters' values -/
theorem fn_of {CX : CXT} {P : Program} {w : World} {K : PySem.W.Frag} {mg : Str → Option Value} {base : Heap} {k : Nat} {f : Addr} {name qual : Str} {params : Arguments} {body : List Stmt} {scope : Scope} {dV kV doc pm cdv ct oc : Value} {an od : Option Addr}
    {osl : Array (Option Value)} {N ps : List Str} {sp : Sp} (lk : K.lookup f = some ⟨oc, od, .func (PySem.W.fnOf name qual params body scope dV kV doc pm an cdv ct), osl⟩) (hcd : PySem.W.codeIn K cdv qual = true) (S : FnScope N ps scope)
    (len : ∀ vs H Q E, sp vs H Q E → vs.length = ps.length)
    (hbody : ∀ (A : Around) (outer : List Env) (s : Shared) (H : Hp) (vs : List V) (Q : VK) (E : XK), Room k (A.deeper (envOfC qual scope s.heap.objs.size f cdv)) → sp vs H Q E →
      ∃ t, PSs (cxOf CX P w K mg base N qual scope f cdv A outer s H E) body t ∧ t { nx := fun _ H' => Q .non H', rt := Q } (start N vs) H) :
    FnOk P w K mg base CX (k + 1) f (PySem.W.fnOf name qual params body scope dV kV doc pm an cdv ct) ps sp := by
  refine ⟨len, fun A outer s H args us vs Q E hr e0 hb r hsp => ?_⟩
  have hl := len _ _ _ _ hsp
  have KX : K.In s.heap := e0.mod.kin.keeps fun b o e => (e0.bs b o e).1
  have lim : s.heap.NoLimit := e0.mod.nolimit.keeps fun b o e => (e0.bs b o e).1
  have hkind : ∀ y ∈ ps.zip us, scope.names.lookup y.1 = some .local ∨ (scope.names.lookup y.1 = some .cell ∧ ((cellsFrom (s.heap.objs.size + 1) scope.names []).lookup y.1).isSome = true) := fun ⟨n, v⟩ hy => by
    rcases S.par n (List.of_mem_zip hy).1 with q | q
    · exact .inl q
    · exact .inr ⟨q, PySem.W.cellsFrom_some _ _ _ (.inl q)⟩
  refine codeAny_call_function hr.depth (KX _ _ lk) rfl S.co S.gen rfl (PySem.W.codeRec_of KX hcd) (hb _ _ _ _ ?_)
  refine wpAny_newFunctionEnv_cells S.kind hkind fun env he s1 x => ?_
  subst he
  refine ⟨lim.keeps x.toInCall.keep, codeAny_func ?_⟩
  obtain ⟨t, ht, hq⟩ := hbody A outer s H vs Q E (hr.deeper _) hsp
  have I : Inv (cxOf CX P w K mg base N qual scope f cdv A outer s H E) [] (start N vs) H s1 := inv_start S hr.hd e0 hl r x
  refine wpAny_mono (ht [] s1 (start N vs) H _ I hq) (fun fl s' hs => ?_) fun e s' hs => hs
  have fin : ∀ {σ' : St} {H' : Hp} {v : V} {u : Value}, Inv (cxOf CX P w K mg base N qual scope f cdv A outer s H E) [] σ' H' s' → RelV v u → Q v H' → CE outer P w H s Q u s' :=
    fun {σ' H' v u} J rv q => ⟨v, H', J.os, J.bare, J.base, J.hok, rv, q⟩
  cases fl with
  | ret u =>
    obtain ⟨v, σ', H', J, rv, q⟩ := hs
    exact fin J rv q
  | next =>
    obtain ⟨σ', H', J, q⟩ := hs
    exact fin (v := V.non) (u := Value.none) J rfl q
  | brk =>
    obtain ⟨_, _, _, q⟩ := hs
    exact False.elim q
  | cont =>
    obtain ⟨_, _, _, q⟩ := hs
    exact False.elim q
end L2

namespace L2
open PySem PySem.Spec PyProof.Rows
section
variable {X : Cx} {x : Str} {p pos : Pos} {e : Expr} {es : List Expr} {t : TA} {id T : String} {r : List V → Hp → VK → Prop}

def tCB (r : List V → Hp → VK → Prop) (t : TA) : TE := fun σ H Q => t σ H fun vs H1 => r vs H1 Q
/-- f(e, ..), f a built-in function -/
theorem pe_callB (hc : CallR X (.builtin id) r) (hg : Gl X x) (hm : X.mg x = none) (hv : bootBuiltins x = some (.builtin id)) (ha : PA X (e :: es) t) (hn : x ≠ "__name__" := by decide) (hdb : (x == ("__debug__" : Str)) = false := by decide)
    (he : starEach (e :: es) X.env = (false, eval e X.env) :: starEach es X.env := by rfl) (hpl : (backTo pos (starEach es X.env)).any (·.1) = false := by rfl) : PE X (.Call (.Name x p) (e :: es) [] pos) (tCB r t) := by
  intro pins s σ H Q I h
  refine wpAny_Call_Name_kw (ld_blt I hg hm hv ?_ hn hdb)
  exact PyProof.Rows.callWith_builtin1 (thn (ha pos pins s σ H _ I h) fun us s1 ⟨vs, H1, I1, r1, q1⟩ => hc pins s1 σ H1 vs us Q I1 r1 q1) he hpl
/-- T(e, ..), T a built-in type -/
theorem pe_callTy (hc : CallR X (.type T) r) (hg : Gl X x) (hm : X.mg x = none) (hv : bootBuiltins x = some (.type T)) (ha : PA X (e :: es) t) (hn : x ≠ "__name__" := by decide) (hdb : (x == ("__debug__" : Str)) = false := by decide)
    (he : starEach (e :: es) X.env = (false, eval e X.env) :: starEach es X.env := by rfl) (hpl : (backTo pos (starEach es X.env)).any (·.1) = false := by rfl) : PE X (.Call (.Name x p) (e :: es) [] pos) (tCB r t) := by
  intro pins s σ H Q I h
  refine wpAny_Call_Name_kw (ld_blt I hg hm hv ?_ hn hdb)
  exact PyProof.Rows.callWith_type1 (thn (ha pos pins s σ H _ I h) fun us s1 ⟨vs, H1, I1, r1, q1⟩ => hc pins s1 σ H1 vs us Q I1 r1 q1) he hpl
end
end L2

namespace HT
open PySem PyProof.Rows

/-- t < u of tuples of ints -/
def lexLt : List Int → List Int → Bool
  | [], [] => false
  | [], _ :: _ => true
  | _ :: _, [] => false
  | x :: xs, y :: ys => if x = y then lexLt xs ys else decide (x < y)
theorem lexLt_cons (x y : Int) (xs ys : List Int) : lexLt (x :: xs) (y :: ys) = if x = y then lexLt xs ys else decide (x < y) := rfl
theorem lexLt_nil_nil : lexLt [] [] = false := rfl
theorem lexLt_nil_cons (y : Int) (ys : List Int) : lexLt [] (y :: ys) = true := rfl
theorem lexLt_cons_nil (x : Int) (xs : List Int) : lexLt (x :: xs) [] = false := rfl

theorem eqAt_int (A : Around) (s : Shared) (a : Int) (t : Tok) (c : Int) (u : Tok) : ∃ e, SeqAt.EqAt A s (.int a t) (.int c u) e ∧ (e = true ↔ a = c) :=
  ⟨(a == c), SeqAt.EqAt.int_int a t c u, by simp⟩
theorem rcLt_int (A : Around) (s : Shared) (a : Int) (t : Tok) (c : Int) (u : Tok) (prog : Program) (w : World) (E : Value → Shared → Prop) (Q : Value → Shared → Prop) (h : Q (.bool (decide (a < c))) s) :
    wpAny (model prog w) A (richCompare .Lt (.int a t) (.int c u)) Q E s :=
  (PyProof.Rows.lt_int h : wpAny (model prog w) A (compareOp .Lt (.int a t) (.int c u)) Q E s)

section
open PySem.SeqAt
open PySem.AutoSeq1 (wpAny_loadPart')
open PySem.MeetsSeq PySem.MeetsSeq2 PySem.MeetsSeq3

theorem tuple_lt_ints (l b : Addr) (items items2 : Array Value) (n n2 : Nat) (dd dd2 : Option Addr) (sl sl2 : Array (Option Value)) (ns ms : List Int) (hi : IntsAre items.toList ns) (hj : IntsAre items2.toList ms) :
    Meets (Builtin.«tuple.__lt__» ⟨[.ref l, .ref b], []⟩)
      (fun _ R s => s.heap.get? l = some { cls := .type "tuple", dict := dd, data := .seq items n, slots := sl } ∧ s.heap.get? b = some { cls := .type "tuple", dict := dd2, data := .seq items2 n2, slots := sl2 } ∧
        R (.ok (.ret (.bool (lexLt ns ms)))) s) :=
  .of_wp fun prog w A R s h => by
    obtain ⟨hp, g, d, tk, os⟩ := s; obtain ⟨hl, hb, h⟩ := h
    have f2 := AutoSeq1.sub_tuple_tuple
    have z1 : items.size = ns.length := by rw [← hi.length]; simp
    have z2 : items2.size = ms.length := by rw [← hj.length]; simp
    wp_walk using wpAny_loadPart' hl, wpAny_loadPart' hb, wpAny_forIn_list _ (fun rest b s' => b.1 = none ∧ s' = ⟨hp, g, d, tk, os⟩ ∧ ∃ (vs ws : List Value) (ns' ms' : List Int), rest = vs.zip ws ∧
      IntsAre vs ns' ∧ IntsAre ws ms' ∧ ns'.length + items2.size = ms'.length + items.size ∧ R (.ok (.ret (.bool (lexLt ns' ms')))) ⟨hp, g, d, tk, os⟩) _
    case turn =>
      rintro ⟨y, x⟩ rest b s' ⟨hb', rfl, vs, ws, ns', ms', hz, hvi, hwi, hlen, hR⟩
      cases hvi with
      | nil => rw [List.zip_nil_left] at hz; cases hz
      | cons a t hvi' =>
        cases hwi with
        | nil => rw [List.zip_nil_right] at hz; cases hz
        | cons c u hwi' =>
          rw [List.zip_cons_cons] at hz
          injection hz with hyx hrest
          injection hyx with hy hx
          subst hy hx
          rw [lexLt_cons] at hR
          simp only [List.length_cons] at hlen
          obtain ⟨e, he, hiff⟩ := eqAt_int A.in1 ⟨hp, g, d, tk, os⟩ a t c u
          refine wpAny_bind (he prog w _ _ ?_)
          cases e with
          | true =>
            rw [if_pos (hiff.mp rfl)] at hR
            wp_walk
            exact ⟨rfl, rfl, _, _, _, _, hrest, hvi', hwi', by omega, hR⟩
          | false =>
            rw [if_neg (fun q => absurd (hiff.mpr q) Bool.false_ne_true)] at hR
            have hri := rcLt_int A.in1 ⟨hp, g, d, tk, os⟩ a t c u prog w
            wp_walk using hri
            exact ⟨_, rfl, by simpa using hR⟩
    case fin =>
      rintro ⟨b1, b2⟩ s' ⟨hb', rfl, vs, ws, ns', ms', hz, hvi, hwi, hlen, hR⟩
      simp only at hb'
      subst hb'
      have hv : lexLt ns' ms' = decide (items.size < items2.size) := by
        cases hvi with
        | nil =>
          cases hwi with
          | nil =>
            simp only [List.length_nil] at hlen
            rw [lexLt_nil_nil]
            exact (decide_eq_false (by omega)).symm
          | cons c u hw =>
            simp only [List.length_nil, List.length_cons] at hlen
            rw [lexLt_nil_cons]
            exact (decide_eq_true (by omega)).symm
        | cons a t hv =>
          cases hwi with
          | nil =>
            simp only [List.length_nil, List.length_cons] at hlen
            rw [lexLt_cons_nil]
            exact (decide_eq_false (by omega)).symm
          | cons c u hw =>
            rw [List.zip_cons_cons] at hz
            cases hz
      rw [hv] at hR
      wp_walk
      exact ⟨_, rfl, by simpa [Builtin.Tuple.tupleCompareSizes] using hR⟩
    case h =>
      exact ⟨rfl, rfl, items.toList, items2.toList, ns, ms, rfl, hi, hj, by omega, h⟩
end

section
variable {prog : Program} {w : World} {A : Around} {E : Value → Shared → Prop} {s : Shared}

theorem lt_tupInts {l b : Addr} {items items2 : Array Value} {ns ms : List Int} {Q : Value → Shared → Prop} (hl : IsTup s.heap l items) (hb : IsTup s.heap b items2) (hi : IntsAre items.toList ns) (hj : IntsAre items2.toList ms)
    (hu : A.units < cLine) (h : Q (.bool (lexLt ns ms)) s) : wpAny (model prog w) A (compareOp .Lt (.ref l) (.ref b)) Q E s := by
  obtain ⟨⟨cls, dd, data, sl⟩, ho, hc, n, hd⟩ := id hl
  obtain ⟨⟨cls2, dd2, data2, sl2⟩, ho2, hc2, n2, hd2⟩ := id hb
  simp only at hc hd hc2 hd2
  subst hc hd hc2 hd2
  exact richCompare_meets_room (op := .Lt) ⟨_, ho, rfl⟩ ⟨_, ho2, rfl⟩ PySem.F.slot_tuple_lt PySem.F.entry_tuple_lt (PySem.F.args_tuple_lt_2 _ _) (tuple_lt_ints l b items items2 n n2 dd dd2 sl sl2 ns ms hi hj)
    ⟨ho, ho2, show Value.bool (lexLt ns ms) ≠ Value.notImplemented ∧ Q (.bool (lexLt ns ms)) s from ⟨(fun x => nomatch x), h⟩⟩ hu


/-! ### t[a:b], not the whole -/
/-- a slice's bound as a place among n (d where it is left out) -/
def sIx (n d : Nat) : Option Int → Nat
  | none => d
  | some v => if v < 0 then (v + (n : Int)).toNat else min v.toNat n
theorem sIx_none (n d : Nat) : sIx n d none = d := rfl
theorem sIx_nat (n d k : Nat) : sIx n d (some (k : Int)) = min k n := by
  show (if (k : Int) < 0 then ((k : Int) + (n : Int)).toNat else min (k : Int).toNat n) = min k n
  rw [if_neg (by omega), Int.toNat_natCast]
theorem sIx_le (n d : Nat) (hd : d ≤ n) (o : Option Int) : sIx n d o ≤ n := by
  cases o with
  | none => exact hd
  | some v =>
    show (if v < 0 then (v + (n : Int)).toNat else min v.toNat n) ≤ n
    by_cases hv : v < 0
    · rw [if_pos hv]; omega
    · rw [if_neg hv]; exact Nat.min_le_right _ _
theorem clip_eq (v : Int) (n d : Nat) : (if v < 0 then max (v + (n : Int)) 0 else min v (n : Int)) = ((sIx n d (some v) : Nat) : Int) := by
  show (if v < 0 then max (v + (n : Int)) 0 else min v (n : Int)) = (((if v < 0 then (v + (n : Int)).toNat else min v.toNat n) : Nat) : Int)
  by_cases hv : v < 0
  · simp only [if_pos hv]; omega
  · simp only [if_neg hv]; omega
theorem adjust_gen (lo hi : Option Int) (n : Nat) : Builtin.Slice.sliceAdjust lo hi 1 (n : Int) = (((sIx n 0 lo : Nat) : Int), ((sIx n n hi : Nat) : Int)) := by
  have h1 : ¬ ((1 : Int) < 0) := by omega
  unfold Builtin.Slice.sliceAdjust
  simp only [h1, if_false]
  refine Prod.ext ?_ ?_
  · cases lo with
    | none => rfl
    | some v => exact clip_eq v n 0
  · cases hi with
    | none => rfl
    | some v => exact clip_eq v n n
theorem places_gen (i j : Nat) : Builtin.Slice.slicePlaces (i : Int) (j : Int) 1 = j - i := by
  unfold Builtin.Slice.slicePlaces
  have h1 : (1 : Int) > 0 := by omega
  simp only [h1, if_true, Int.ediv_one]
  split <;> omega
theorem slicePart_ {v : Value} {o : Option Int} {Q : Option Int → Shared → Prop} (p : IsPart v o) (h : Q o s) : wpAny (model prog w) A (Builtin.Slice.slicePartIndex v) Q E s := by
  cases p with
  | none => exact slicePart_none h
  | int i t => exact slicePart_int h
theorem sliceApplied_gen {sl : Addr} {vl vu : Value} {lo hi : Option Int} {n : Nat} {Q : Int × Int × Nat → Shared → Prop} (hs : s.heap.IsSliceOf sl vl vu .none) (pl : IsPart vl lo) (pu : IsPart vu hi)
    (h : Q (((sIx n 0 lo : Nat) : Int), 1, sIx n n hi - sIx n 0 lo) s) : wpAny (model prog w) A (Builtin.Slice.sliceApplied (.ref sl) (pure (n : Int))) Q E s := by
  obtain ⟨os, hos, hcs, hds⟩ := id hs
  unfold Builtin.Slice.sliceApplied Builtin.Slice.sliceFields
  refine wpAny_bind (wpAny_bind (wpAny_field hos hds (x := vl) rfl (wpAny_bind (wpAny_field hos hds (x := vu) rfl (wpAny_bind (wpAny_field hos hds (x := .none) rfl (wpAny_pure ?_)))))))
  refine wpAny_bind (slicePart_none ?_)
  show wpAny _ _ (if ((1 : Int) == 0) = true then _ else _) _ _ s
  rw [if_neg (by decide)]
  refine wpAny_bind (slicePart_ pl (wpAny_bind (slicePart_ pu (wpAny_bind (wpAny_pure ?_)))))
  show wpAny _ _ (match Builtin.Slice.sliceAdjust lo hi 1 (n : Int) with | (lo, hi) => pure (lo, (1 : Int), Builtin.Slice.slicePlaces lo hi 1)) _ _ s
  rw [adjust_gen lo hi n]
  show wpAny _ _ (pure (((sIx n 0 lo : Nat) : Int), (1 : Int), Builtin.Slice.slicePlaces ((sIx n 0 lo : Nat) : Int) ((sIx n n hi : Nat) : Int) 1)) _ _ s
  rw [places_gen]
  exact wpAny_pure h
theorem pick_gen (xs : Array Value) (i k : Nat) : ((List.range k).filterMap fun (m : Nat) => xs[((i : Int) + (m : Int) * 1).toNat]?).toArray = ((xs.toList.drop i).take k).toArray := by
  have e : (fun (m : Nat) => xs[((i : Int) + (m : Int) * 1).toNat]?) = fun m => xs[i + m]? := by
    funext m
    have : ((i : Int) + (m : Int) * 1).toNat = i + m := by omega
    rw [this]
  rw [e]
  have := pick_run xs i k
  rw [List.filterMap_map] at this
  have e2 : ((fun x => xs[x]?) ∘ fun x => i + x) = fun m => xs[i + m]? := rfl
  rw [e2] at this
  rw [this]

theorem getItem_tuple_cut {t sl : Addr} {items : Array Value} {vl vu : Value} {lo hi : Option Int} {Q : Value → Shared → Prop} (ht : IsTup s.heap t items) (hs : s.heap.IsSliceOf sl vl vu .none) (pl : IsPart vl lo) (pu : IsPart vu hi)
    (hw : ¬ (sIx items.size 0 lo = 0 ∧ sIx items.size items.size hi = items.size))
    (h : Q (.ref s.heap.objs.size) { s with heap := s.heap.push { cls := .type "tuple", data := .seq ((items.toList.drop (sIx items.size 0 lo)).take (sIx items.size items.size hi - sIx items.size 0 lo)).toArray } })
    (hsz : items.size ≤ sizeLine) : wpAny (model prog w) A (getItem (.ref t) (.ref sl)) Q E s := by
  have htake : sizeOk (.seq ((items.toList.drop (sIx items.size 0 lo)).take (sIx items.size items.size hi - sIx items.size 0 lo)).toArray) := by
    show ((items.toList.drop (sIx items.size 0 lo)).take (sIx items.size items.size hi - sIx items.size 0 lo)).toArray.size ≤ sizeLine
    rw [List.size_toArray, List.length_take, List.length_drop, Array.length_toList]
    omega
  have hj : sIx items.size items.size hi ≤ items.size := sIx_le _ _ (Nat.le_refl _) hi
  obtain ⟨os, hos, hcs, hds⟩ := id hs
  have hTs : s.TypeIs (.ref sl) "slice" := ⟨os, hos, hcs⟩
  unfold getItem
  try with_reducible refine wpAny_holding ?_
  first | refine wpAny_bind (wpAny_pure ?_) | skip
  refine wpAny_bind (wpAny_sequenceKey ht.typeIs (by decide) ?_)
  refine wpAny_bind (wpAny_callSpecial?_slot (name := Str.ofString "__getitem__") ht.typeIs PyProof.Rows.slot_tuple_getitem
    (wpAny_call_entry PyProof.Rows.slot_tuple_getitem ht.typeIs entry_tuple_getitem ?_ (args_tuple_getitem _ _)))
  show wpAny _ _ (Builtin.Tuple.tupleItemsOf (.ref t) >>= _) _ _ s
  refine wpAny_bind (tupleItemsOf_ ht ?_)
  refine wpAny_bind (wpAny_typeOf hTs ?_)
  rw [if_pos (by decide)]
  refine wpAny_bind (sliceApplied_gen hs pl pu ?_)
  have hno : ¬ ((((sIx items.size 0 lo : Nat) : Int) == 0 && (1 : Int) == 1 && (sIx items.size items.size hi - sIx items.size 0 lo) == items.size) = true) := by
    intro q
    rw [Bool.and_eq_true, Bool.and_eq_true] at q
    have q1 : ((sIx items.size 0 lo : Nat) : Int) = 0 := eq_of_beq q.1.1
    have q2 : sIx items.size items.size hi - sIx items.size 0 lo = items.size := eq_of_beq q.2
    exact hw ⟨by omega, by omega⟩
  show wpAny _ _ (if (((sIx items.size 0 lo : Nat) : Int) == 0 && (1 : Int) == 1 && (sIx items.size items.size hi - sIx items.size 0 lo) == items.size) = true then _ else _) _ _ s
  rw [if_neg hno, pick_gen]
  first
    | exact wpAny_bind (m := Builtin.Tuple.tupleExact _) (wpAny_newObj_type (wpAny_pure ⟨_, rfl, wpAny_pure h⟩) htake)
    | exact wpAny_bind (m := Builtin.Tuple.tupleExact _) (wpAny_newObj_type (wpAny_bind (wpAny_pure (wpAny_pure ⟨_, rfl, wpAny_pure h⟩))) htake)
    | exact wpAny_bind (wpAny_bind (m := Builtin.Tuple.tupleExact _) (wpAny_newObj_type (wpAny_pure (wpAny_pure ⟨_, rfl, wpAny_pure h⟩)) htake))
    | exact wpAny_bind (wpAny_bind (m := Builtin.Tuple.tupleExact _) (wpAny_newObj_type (wpAny_pure ⟨_, rfl, wpAny_pure h⟩) htake))
end
end HT

namespace L2
open PySem PySem.Spec PyProof.Rows

/-! ### the parts of a slice -/
abbrev TO := St → Hp → (Option Int → Hp → Prop) → Prop
/-- a slice's part (left out, or an int) -/
def PO (X : Cx) (e : Option Expr) (t : TO) : Prop :=
  ∀ (pins : List (Addr × Obj)) (s : Shared) (σ : St) (H : Hp) (Q : Option Int → Hp → Prop), Inv X pins σ H s → t σ H Q →
    wpAny (model X.prog X.w) X.A (evalPart e X.env) (fun u s' => ∃ o H', Inv X pins σ H' s' ∧ IsPart u o ∧ Q o H') X.xe s
def tNoPart : TO := fun _ H Q => Q none H
def tPart (t : TE) : TO := fun σ H Q => t σ H fun x H1 => ∃ i, x = .int i ∧ Q (some i) H1

theorem intsAre_of {ns : List Int} : ∀ {us : List Value}, Vals (ns.map V.int) us → IntsAre us ns := by
  induction ns with
  | nil => intro us r; rw [List.map_nil] at r; cases r; exact .nil
  | cons n ns ih =>
    intro us r
    rw [List.map_cons] at r
    cases r with
    | cons r1 r2 =>
      obtain ⟨t, e⟩ := r1
      subst e
      exact .cons n t (ih r2)

section
variable {X : Cx} {e : Expr} {te : TE} {lo hi : Option Expr} {tl th : TO} {pos p2 : Pos}

theorem po_none : PO X none tNoPart := by
  intro pins s σ H Q I h
  rw [evalPart_none]
  exact wpAny_pure ⟨none, H, I, .none, h⟩
theorem po_some (h : PE X e te) : PO X (some e) (tPart te) := by
  intro pins s σ H Q I hw
  rw [evalPart_some]
  refine thn (h pins s σ H _ I hw) fun u s1 ⟨x, H1, I1, r1, q1⟩ => ?_
  obtain ⟨i, rfl, q⟩ := q1
  obtain ⟨t, rfl⟩ := r1
  exact ⟨some i, H1, I1, .int i t, q⟩

/-- what a slice of a value is, by values: the slice object stands at sl -/
def SlR (X : Cx) (r : V → Option Int → Option Int → Hp → VK → Prop) : Prop :=
  ∀ (pins : List (Addr × Obj)) (s : Shared) (σ : St) (H : Hp) (x : V) (v vl vu : Value) (lo hi : Option Int) (sl : Addr) (Q : VK), Inv X pins σ H s → RelV x v → s.heap.IsSliceOf sl vl vu .none → IsPart vl lo → IsPart vu hi → r x lo hi H Q →
    ∃ T id, typeLookup (.type T) "__getitem__" = pure (some (.builtin id)) ∧ s.TypeIs v T ∧ wpAny (model X.prog X.w) X.A (getItem v (.ref sl)) (EP X pins σ Q) X.xe s
theorem SlR.or {r r' : V → Option Int → Option Int → Hp → VK → Prop} (h : SlR X r) (h' : SlR X r') : SlR X (fun x lo hi H Q => r x lo hi H Q ∨ r' x lo hi H Q) := by
  intro pins s σ H x v vl vu lo hi sl Q I rx hs pl pu q
  rcases q with q | q
  · exact h pins s σ H x v vl vu lo hi sl Q I rx hs pl pu q
  · exact h' pins s σ H x v vl vu lo hi sl Q I rx hs pl pu q
def tSl (r : V → Option Int → Option Int → Hp → VK → Prop) (te : TE) (tl th : TO) : TE := fun σ H Q => te σ H fun x H1 => tl σ H1 fun l H2 => th σ H2 fun u H3 => r x l u H3 Q
/-- a[lo:hi], any a -/
theorem pe_slice {r : V → Option Int → Option Int → Hp → VK → Prop} (hr : SlR X r) (he : PE X e te) (hl : PO X lo tl) (hu : PO X hi th) : PE X (.Subscript e (.Slice lo hi none p2) pos) (tSl r te tl th) := by
  intro pins s σ H Q I h
  refine Subscript_ (thn (he pins s σ H _ I h) fun v s1 ⟨x, H1, I1, r1, q1⟩ => ?_)
  refine wpAny_Slice (thn (hl pins s1 σ H1 _ I1 q1) fun vl s2 ⟨l, H2, I2, pl, q2⟩ => thn (hu pins s2 σ H2 _ I2 q2) fun vu s3 ⟨u, H3, I3, pu, q3⟩ => ?_)
  rw [evalPart_none]
  refine wpAny_pure ?_
  have I4 : Inv X pins σ H3 { s3 with heap := s3.heap.push { cls := .type "slice", data := .fields #[vl, vu, .none] } } := I3.kept (t' := s3.toks) fun b ob q => Heap.get?_push_of_some _ q
  obtain ⟨T, id, hT, ht, hg⟩ := hr pins { s3 with heap := s3.heap.push { cls := .type "slice", data := .fields #[vl, vu, .none] } } σ H3 x v vl vu l u s3.heap.objs.size Q I4 r1 (Heap.IsSliceOf.new ..) pl pu q3
  show wpAny (model X.prog X.w) X.A (subscriptTail e (.Slice lo hi none p2) v (.ref s3.heap.objs.size)) (EP X pins σ Q) X.xe { s3 with heap := s3.heap.push { cls := .type "slice", data := .fields #[vl, vu, .none] } }
  exact tail_any (ops := [.ref s3.heap.objs.size, v]) ht hT hg (by with_unfolding_all rfl)

/-- the items of xs[lo:hi] -/
def cutV (xs : List V) (lo hi : Option Int) : List V := (xs.drop (HT.sIx xs.length 0 lo)).take (HT.sIx xs.length xs.length hi - HT.sIx xs.length 0 lo)
theorem cutV_length (xs : List V) (lo hi : Option Int) : (cutV xs lo hi).length ≤ xs.length := by
  unfold cutV
  rw [List.length_take, List.length_drop]
  omega
/-- t[lo:hi], not the whole of it (the whole would be t itself) -/
def rSlT (K : PySem.W.Frag) : V → Option Int → Option Int → Hp → VK → Prop := fun x lo hi H Q => ∃ a xs, x = .ref a ∧ SqT K H a xs ∧
  ¬ (HT.sIx xs.length 0 lo = 0 ∧ HT.sIx xs.length xs.length hi = xs.length) ∧ ∀ p, H p = none → Q (.ref p) (upd H p (.tup (cutV xs lo hi)))
theorem sl_tup : SlR X (rSlT X.K) := by
  intro pins s σ H x v vl vu lo hi sl Q I rx hs pl pu h
  obtain ⟨a, xs, rfl, hx, hw, q⟩ := h
  cases rx
  obtain ⟨its, r, ht, hz⟩ := I.tuple hx
  have hlen : its.toArray.size = xs.length := by rw [List.size_toArray]; exact r.length.symm
  refine ⟨"tuple", _, PyProof.Rows.slot_tuple_getitem.lookup, ht.typeIs, ?_⟩
  refine HT.getItem_tuple_cut ht hs pl pu (by rw [hlen]; exact hw) ?_ (by rw [hlen]; exact hz)
  rw [hlen]
  refine ⟨.ref s.heap.objs.size, _, I.laid (t' := s.toks) (o := .tup (cutV xs lo hi)) (fun b ob q => Heap.get?_push_of_some _ q) (Nat.le_refl _) ?_, rfl, q _ (I.hok.fresh (Nat.le_refl _))⟩
  exact ⟨Nat.le_trans (cutV_length xs lo hi) hz, _, (r.drop (HT.sIx xs.length 0 lo)).take (HT.sIx xs.length xs.length hi - HT.sIx xs.length 0 lo), IsTup.new _ _⟩

/-! ### t < u, t + u -/
end
end L2

namespace L2
open PySem PySem.Spec PyProof.Rows

/-! ### places -/
/-- the place that an index of any sign means -/
def ixN (n : Nat) (i : Int) : Option Nat := if 0 ≤ i then (if i < n then some i.toNat else none) else if -(n : Int) ≤ i then some (i + n).toNat else none
def atI {α : Type} (xs : List α) (i : Int) : Option α := (ixN xs.length i).bind fun j => xs[j]?
theorem ixN_seq {n : Nat} {i : Int} {j : Nat} (h : ixN n i = some j) : seqIndex? i n = some j ∧ j < n ∧ -(n : Int) ≤ i ∧ i < n := by
  unfold ixN at h
  by_cases h0 : 0 ≤ i
  · rw [if_pos h0] at h
    by_cases h1 : i < n
    · rw [if_pos h1] at h
      have e : i.toNat = j := Option.some.inj h
      exact ⟨by rw [seqIndex_of h0 h1, e], by omega, by omega, h1⟩
    · rw [if_neg h1] at h; cases h
  · rw [if_neg h0] at h
    by_cases h1 : -(n : Int) ≤ i
    · rw [if_pos h1] at h
      have e : (i + n).toNat = j := Option.some.inj h
      exact ⟨by rw [seqIndex_neg (by omega) h1, e], by omega, h1, by omega⟩
    · rw [if_neg h1] at h; cases h
theorem atI_get {α : Type} {xs : List α} {i : Int} {v : α} (h : atI xs i = some v) : ∃ j, seqIndex? i xs.length = some j ∧ xs[j]? = some v ∧ j < xs.length ∧ -(xs.length : Int) ≤ i ∧ i < xs.length := by
  unfold atI at h
  cases e : ixN xs.length i with
  | none => rw [e] at h; cases h
  | some j =>
    rw [e] at h
    obtain ⟨h1, h2, h3, h4⟩ := ixN_seq e
    exact ⟨j, h1, h, h2, h3, h4⟩
theorem atI_nat {α : Type} {xs : List α} {j : Nat} {v : α} (h : xs[j]? = some v) : atI xs (j : Int) = some v := by
  have hj : j < xs.length := (List.getElem?_eq_some_iff.mp h).1
  have e : ixN xs.length (j : Int) = some j := by
    unfold ixN
    rw [if_pos (by omega), if_pos (by omega)]; simp
  unfold atI; rw [e]; exact h

/-! ### what may be subscripted -/
/-- what stands as an index of a plain subscript -/
def PlainIx (b : Expr) : Prop := ∀ o i, subscripted b false o i = operate [o, i] (getItem o i)
/-- a subscript by values -/
def IxR (X : Cx) (r : R2) : Prop :=
  ∀ (value slice : Expr) (pins : List (Addr × Obj)) (s : Shared) (σ : St) (H : Hp) (x y : V) (v u : Value) (Q : VK), Inv X pins σ H s → RelV x v → RelV y u → r x y H Q →
    subscripted slice false v u = operate [v, u] (getItem v u) → wpAny (model X.prog X.w) X.A (subscriptTail value slice v u) (EP X pins σ Q) X.xe s
/-- a call of a builtin's method by values: the receiver, the arguments -/
def MtR (X : Cx) (id : String) (r : V → List V → Hp → VK → Prop) : Prop :=
  ∀ (pins : List (Addr × Obj)) (s : Shared) (σ : St) (H : Hp) (x : V) (xs : List V) (v : Value) (us : List Value) (Q : VK), Inv X pins σ H s → RelV x v → Vals xs us → r x xs H Q →
    wpAny (model X.prog X.w) X.A (call (.builtin id) (v :: us)) (EP X pins σ Q) X.xe s
section
variable {X : Cx} {a b : Expr} {ta tb : TE} {pos : Pos}
theorem IxR.or {r r' : R2} (h : IxR X r) (h' : IxR X r') : IxR X (fun x y H Q => r x y H Q ∨ r' x y H Q) := by
  intro value slice pins s σ H x y v u Q I rx ry q hs
  rcases q with q | q
  · exact h value slice pins s σ H x y v u Q I rx ry q hs
  · exact h' value slice pins s σ H x y v u Q I rx ry q hs
/-- a[b] -/
theorem pe_ix {r : R2} (hr : IxR X r) (ha : PE X a ta) (hb : PE X b tb) (hs : PlainIx b) : PE X (.Subscript a b pos) (tOp r ta tb) := by
  intro pins s σ H Q I h
  exact Subscript_ (binT ha hb I h fun v u s2 x y H2 I2 rx ry q => hr a b pins s2 σ H2 x y v u Q I2 rx ry q (hs _ _))

def rIxL (K : PySem.W.Frag) : R2 := fun x y H Q => ∃ p xs i v, x = .ref p ∧ y = .int i ∧ SqL K H p xs ∧ atI xs i = some v ∧ Q v H
def rIxT (K : PySem.W.Frag) : R2 := fun x y H Q => ∃ p xs i v, x = .ref p ∧ y = .int i ∧ SqT K H p xs ∧ atI xs i = some v ∧ Q v H
def rIxS : R2 := fun x y H Q => ∃ z i c, x = .str z ∧ y = .int i ∧ z.length ≤ sizeLine ∧ atI z.cps.toList i = some c ∧ Q (.str ⟨#[c]⟩) H
theorem ix_list : IxR X (rIxL X.K) := by
  intro value slice pins s σ H x y v u Q I rx ry h hs
  obtain ⟨p, xs, i, z, rfl, rfl, hq, he, q⟩ := h
  cases rx
  obtain ⟨t, rfl⟩ := ry
  obtain ⟨its, r, pl, hz⟩ := I.list hq
  obtain ⟨j, h1, h2, h3, h4, h5⟩ := atI_get he
  obtain ⟨w, ew, rw'⟩ := r.get h2
  have hl := r.length
  have hn := line63
  have fin : EP X pins σ Q w s := ⟨z, H, I, rw', q⟩
  by_cases h0 : 0 ≤ i
  · have hj : i.toNat = j := by
      rw [seqIndex_of h0 h5] at h1
      exact Option.some.inj h1
    exact item_listR pl.isList h0 (by omega) (by rw [hj]; simpa using ew) fin hs
  · have hj : (i + (its.toArray.size : Int)).toNat = j := by
      rw [seqIndex_neg (by omega) h4] at h1
      rw [List.size_toArray, ← hl]
      exact Option.some.inj h1
    exact subscriptTail_builtinR (x := w) pl.isList.typeIs slot_list_getitem.lookup
      (wpAny_getItem_list_neg (Q := fun r s' => r = w ∧ EP X pins σ Q r s') pl.isList (by omega) (by rw [List.size_toArray] <;> omega) (by omega) (by rw [hj]; simpa using ew) ⟨rfl, fin⟩) hs
theorem ix_tup : IxR X (rIxT X.K) := by
  intro value slice pins s σ H x y v u Q I rx ry h hs
  obtain ⟨p, xs, i, z, rfl, rfl, hq, he, q⟩ := h
  cases rx
  obtain ⟨t, rfl⟩ := ry
  obtain ⟨its, r, pl, hz⟩ := I.tuple hq
  obtain ⟨j, h1, h2, h3, h4, h5⟩ := atI_get he
  obtain ⟨w, ew, rw'⟩ := r.get h2
  have hl := r.length
  have hn := line63
  have fin : EP X pins σ Q w s := ⟨z, H, I, rw', q⟩
  exact subscriptTail_builtinR (x := w) pl.typeIs slot_tuple_getitem.lookup
    (getItem_tuple (j := j) (Q := fun r s' => r = w ∧ EP X pins σ Q r s') pl (by omega) (by omega) (by rw [List.size_toArray, ← hl]; exact h1) (by simpa using ew) ⟨rfl, fin⟩) hs
theorem ix_str : IxR X rIxS := by
  intro value slice pins s σ H x y v u Q I rx ry h hs
  obtain ⟨z, i, c, rfl, rfl, hz, he, q⟩ := h
  obtain ⟨t, rfl⟩ := rx
  obtain ⟨t', rfl⟩ := ry
  obtain ⟨j, h1, h2, h3, h4, h5⟩ := atI_get he
  have hl : z.cps.toList.length = z.length := by simp [Str.length]
  rw [hl] at h1 h4 h5
  have hn := line63
  exact tail_any (typeIs_str s z t) slot_str_getitem.lookup (getItem_str (c := c) (by
    have e1 : decide (i < -(2 ^ 63 : Int)) = false := decide_eq_false (by omega)
    have e2 : decide (i ≥ 2 ^ 63) = false := decide_eq_false (by omega)
    rw [e1, e2, Bool.or_false]) (by rw [h1]; simpa using h2) ⟨.str ⟨#[c]⟩, H, I.tok _, ⟨_, rfl⟩, q⟩) hs
/-- list, tuple or str -/
def rIx (K : PySem.W.Frag) : R2 := fun x y H Q => rIxL K x y H Q ∨ rIxT K x y H Q ∨ rIxS x y H Q
theorem ix_seq : IxR X (rIx X.K) := ix_list.or (ix_tup.or ix_str)

/-! ### xs[i] = v, any sign -/

/-! ### slices -/
theorem slice_bounds (lo hi : Option Int) (n : Nat) : (sliceBounds lo hi none n).1 = ((HT.sIx n 0 lo : Nat) : Int) ∧ (sliceBounds lo hi none n).2.1 = ((HT.sIx n n hi : Nat) : Int) ∧ (sliceBounds lo hi none n).2.2 = 1 := by
  refine ⟨?_, ?_, rfl⟩
  · cases lo with
    | none => simp [sliceBounds, HT.sIx]
    | some i =>
      simp only [sliceBounds, HT.sIx, Option.getD_none, show (1 : Int) > 0 by decide, if_true]
      by_cases h : i < 0
      · simp only [h, if_true] <;> omega
      · simp only [h, if_false] <;> omega
  · cases hi with
    | none => simp [sliceBounds, HT.sIx]
    | some i =>
      simp only [sliceBounds, HT.sIx, Option.getD_none, show (1 : Int) > 0 by decide, if_true]
      by_cases h : i < 0
      · simp only [h, if_true] <;> omega
      · simp only [h, if_false] <;> omega
theorem slicePick_cut (its : List Value) (lo hi : Option Int) : slicePick its.toArray lo hi none = ((its.drop (HT.sIx its.length 0 lo)).take (HT.sIx its.length its.length hi - HT.sIx its.length 0 lo)).toArray := by
  obtain ⟨h1, h2, h3⟩ := slice_bounds lo hi its.toArray.size
  unfold slicePick
  rw [h1, h2, h3]
  simp only [sliceRange_one, pick_run, List.size_toArray] <;> rfl
/-- xs[lo:hi] of a list: a new list -/
def rSlL (K : PySem.W.Frag) : V → Option Int → Option Int → Hp → VK → Prop := fun x lo hi H Q => ∃ a xs, x = .ref a ∧ SqL K H a xs ∧ ∀ p, H p = none → Q (.ref p) (upd H p (.lst (cutV xs lo hi)))
theorem sl_list : SlR X (rSlL X.K) := by
  intro pins s σ H x v vl vu lo hi sl Q I rx hs pl pu h
  obtain ⟨a, xs, rfl, hx, q⟩ := h
  cases rx
  obtain ⟨its, r, ht, hz⟩ := I.list hx
  have hlen := r.length
  refine ⟨"list", _, slot_list_getitem.lookup, ht.isList.typeIs, ?_⟩
  refine wpAny_getItem_list_slice ht.isList hs pl pu .none (by simp) ?_ (by rw [List.size_toArray] <;> omega)
  rw [slicePick_cut, ← hlen]
  refine ⟨.ref s.heap.objs.size, _, I.laid (t' := s.toks) (o := .lst (cutV xs lo hi)) (fun b ob q => Heap.get?_push_of_some _ q) (Nat.le_refl _) ?_, rfl, q _ (I.hok.fresh (Nat.le_refl _))⟩
  exact ⟨Nat.le_trans (cutV_length xs lo hi) hz, _, 0, (r.drop (HT.sIx xs.length 0 lo)).take (HT.sIx xs.length xs.length hi - HT.sIx xs.length 0 lo), Heap.get?_push_size _ rfl⟩

/-! ### in, not in: flat items -/

/-! ### len, list(x), tuple(x) of any list or tuple that is read -/
theorem call_len_seq : CallR X (.builtin "len") (fun xs H Q => ∃ p ys, xs = [.ref p] ∧ (SqL X.K H p ys ∨ SqT X.K H p ys) ∧ Q (.int ys.length) H) := by
  intro pins s σ H xs us Q I r h
  obtain ⟨p, ys, rfl, hq, q⟩ := h
  obtain ⟨u, rfl, rx⟩ := vals1 r
  cases rx
  have hn := line63
  rcases hq with hq | hq
  · obtain ⟨its, r', pl, hz⟩ := I.list hq
    have hlen := r'.length
    exact Calls.call_len_list pl.isList (by simp only [List.size_toArray] <;> omega) ⟨.int ys.length, H, I.tok _, ⟨s.toks + 1, by rw [List.size_toArray, hlen]⟩, q⟩
  · obtain ⟨its, r', pl, hz⟩ := I.tuple hq
    have hlen := r'.length
    exact len_tuple pl (by simp only [List.size_toArray] <;> omega) ⟨.int ys.length, H, I.tok _, ⟨s.toks + 1, by rw [List.size_toArray, hlen]⟩, q⟩
theorem call_tuple_of : CallR X (.type "tuple") (fun xs H Q => ∃ p ys, xs = [.ref p] ∧ ((SqL X.K H p ys ∧ ∀ l, H l = none → Q (.ref l) (upd H l (.tup ys))) ∨ (SqT X.K H p ys ∧ Q (.ref p) H))) := by
  intro pins s σ H xs us Q I r h
  obtain ⟨p, ys, rfl, h⟩ := h
  obtain ⟨u, rfl, rx⟩ := vals1 r
  cases rx
  rcases h with ⟨hq, q⟩ | ⟨hq, q⟩
  · obtain ⟨its, r', pl, hz⟩ := I.list hq
    have hlen := r'.length
    refine call_tuple_list pl.isList (fun h' kp => ?_) (by simp only [List.size_toArray] <;> omega)
    have I1 : Inv X pins σ H { s with heap := h' } := I.kept (t' := s.toks) kp
    have I2 : Inv X pins σ (upd H h'.objs.size (.tup ys)) { s with heap := h'.push { cls := .type "tuple", data := .seq its.toArray } } :=
      I1.laid (t' := s.toks) (fun b o e => Heap.get?_push_of_some _ e) (Nat.le_refl _) (show ObjOk X.prog X.w _ _ _ (.tup ys) from ⟨hz, its, r', IsTup.new _ _⟩)
    exact ⟨.ref h'.objs.size, _, I2, rfl, q _ (I1.hok.fresh (Nat.le_refl _))⟩
  · obtain ⟨its, r', pl, hz⟩ := I.tuple hq
    exact call_tuple_same pl ⟨.ref p, H, I, rfl, q⟩

/-! ### the call of a builtin's method: o.m(..) -/
/-- the value is of that builtin type -/
def tyV (K : PySem.W.Frag) (T : String) (x : V) (H : Hp) : Prop := match x with
  | .str _ => T = "str"
  | .int _ => T = "int"
  | .ref p => (T = "list" ∧ ∃ xs, SqL K H p xs) ∨ (T = "tuple" ∧ ∃ o, K.lookup p = some o ∧ o.cls = .type "tuple" ∧ o.dict = none) ∨
      (T = "dict" ∧ ((∃ kvs, H p = some (.dK kvs)) ∨ ∃ kvs, H p = some (.dT kvs))) ∨ (T = "set" ∧ ∃ S n, H p = some (.set S n))
  | _ => False
theorem tyV_is {pins : List (Addr × Obj)} {σ : St} {H : Hp} {s : Shared} {T : String} {x : V} {v : Value} (I : Inv X pins σ H s) (r : RelV x v) (ty : tyV X.K T x H) :
    s.TypeIs v T ∧ ∀ a, v = .ref a → ∃ ob, s.heap.get? a = some ob ∧ ob.dict = none := by
  cases x with
  | str z =>
    obtain ⟨t, rfl⟩ := r
    cases (show T = "str" from ty)
    exact ⟨typeIs_str s z t, fun _ e => nomatch e⟩
  | int i =>
    obtain ⟨t, rfl⟩ := r
    cases (show T = "int" from ty)
    exact ⟨typeIs_int s i t, fun _ e => nomatch e⟩
  | ref p =>
    cases r
    rcases ty with ⟨rfl, xs, hq⟩ | ⟨rfl, o, hk, hc, hd⟩ | ⟨rfl, hk⟩ | ⟨rfl, S, n, hk⟩
    · obtain ⟨its, _, pl, _⟩ := I.list hq
      refine ⟨pl.isList.typeIs, fun a e => ?_⟩
      cases e
      obtain ⟨o, n, e, c, hd, _⟩ := pl
      exact ⟨o, e, hd⟩
    · refine ⟨⟨o, I.kIn p o hk, hc⟩, fun a e => ?_⟩
      cases e
      exact ⟨o, I.kIn _ o hk, hd⟩
    · have z : ∃ o, s.heap.get? p = some o ∧ o.ExactDict := by
        rcases hk with ⟨kvs, hk⟩ | ⟨kvs, hk⟩
        · obtain ⟨_, _, _, _, o, _, _, e, ex, _⟩ := I.hok p _ hk
          exact ⟨o, e, ex⟩
        · obtain ⟨_, _, _, _, o, _, _, e, ex, _⟩ := I.hok p _ hk
          exact ⟨o, e, ex⟩
      obtain ⟨o, e, ex⟩ := z
      refine ⟨⟨o, e, ex.1⟩, fun a e2 => ?_⟩
      cases e2
      exact ⟨o, e, ex.2.1⟩
    · obtain ⟨o, _, _, _, e, ex, _⟩ := I.hok p _ hk
      refine ⟨⟨o, e, ex.1⟩, fun a e2 => ?_⟩
      cases e2
      exact ⟨o, e, ex.2.1⟩
  | _ => exact False.elim ty
def tBM (K : PySem.W.Frag) (T : String) (r : V → List V → Hp → VK → Prop) (to : TE) (t : TA) : TE := fun σ H Q => to σ H fun x H1 => tyV K T x H1 ∧ t σ H1 fun xs H2 => r x xs H2 Q
variable {o e : Expr} {es : List Expr} {to : TE} {t : TA} {name : Str} {apos cpos : Pos} {T id : String} {r : V → List V → Hp → VK → Prop}
theorem pe_bm (pa : PlainAttrs T) (slot : Slot T name id) (hty : typeOf (.builtin id) = pure (.type "method_descriptor")) (hm : MtR X id r) (ho : PE X o to) (ha : PA X (e :: es) t)
    (hbase : attributeBase o name X.env (eval o X.env) = eval o X.env := by rfl)
    (hfew : ((backTo cpos (starEach (e :: es) X.env)).all (fun x => !x.1) && (backToKw cpos (keywordEach [] X.env)).all (fun x => x.1.isSome)
      && decide ((e :: es).length + ([] : List Keyword).length + (if ([] : List Keyword).isEmpty then 0 else 1) < 30)) = true := by rfl)
    (hline : (apos.endLine == cpos.line) = true := by rfl) (hs : starEach (e :: es) X.env = (false, eval e X.env) :: starEach es X.env := by rfl) (hplain : (backTo cpos (starEach es X.env)).any (·.1) = false := by rfl) :
    PE X (.Call (.Attribute o name apos) (e :: es) [] cpos) (tBM X.K T r to t) := by
  intro pins s σ H Q I h
  refine wpAny_Call_method_late hbase hfew hline rfl (thn (ho pins s σ H _ I h) fun v s1 ⟨x, H1, I1, r1, ty, q1⟩ => ?_)
  obtain ⟨h1, h2⟩ := tyV_is I1 r1 ty
  refine ⟨T, id, pa, slot, hty, h1, h2, ?_⟩
  have hA := ha cpos pins s1 σ H1 _ I1 q1
  rw [hs] at hA ⊢
  refine Calls.callWith_builtin (by show (false || (backTo cpos (starEach es X.env)).any (·.1)) = false; rw [hplain] <;> rfl) (Calls.evalArgs_plain ?_)
  exact thn hA fun us s2 ⟨vs, H2, I2, r2, q2⟩ => hm pins s2 σ H2 x vs v us Q I2 r1 r2 q2
/- xs.append(e), list.index on a module's tuple .. are MtR facts of 06m -/
end
end L2

namespace L2
open PySem PySem.Spec PyProof.Rows

def MtM (X : Cx) (id : String) (r : V → List V → Hp → VK → Prop) : Prop :=
  ∀ (pins : List (Addr × Obj)) (s : Shared) (σ : St) (H : Hp) (x : V) (xs : List V) (v : Value) (us : List Value) (Q : VK), Inv X pins σ H s → RelV x v → Vals xs us → r x xs H Q →
    wpAny (model X.prog X.w) X.A (call (.builtin id) (v :: us)) (EP X pins σ Q) X.xe s

/-! ### lists of values -/
theorem Vals.one : ∀ {x : V} {us : List Value}, Vals [x] us → ∃ u, us = [u] ∧ RelV x u
  | _, _, .cons r .nil => ⟨_, rfl, r⟩

section
variable {X : Cx} {pins : List (Addr × Obj)} {σ : St} {H : Hp} {s : Shared} {l b : Addr} {xs ys zs : List V}

/-! ### the two steps: a tracked list is rewritten, a new list is laid -/
theorem Inv.lset {its its' : List Value} {n : Nat} {f : Array Value → Array Value} {t' : Nat} (I : Inv X pins σ H s) (hH : H l = some (.lst xs))
    (e : s.heap.get? l = some { cls := .type "list", data := .seq its.toArray n }) (hf : f its.toArray = its'.toArray) (hv : Vals ys its') (hz : ys.length ≤ sizeLine) :
    Inv X pins σ (upd H l (.lst ys)) { s with heap := s.heap.update l (Obj.mapSeq f), toks := t' } := by
  have q := PySem.IsL.update e f
  rw [hf] at q
  refine I.write (x := l) (e := l) (by rw [hH]; exact trivial) (.inl rfl) (fun b' u hb hu => (Heap.get?_update_other s.heap (Obj.mapSeq f) (Ne.symm hb)).trans hu) ⟨_, q⟩ ?_
  exact ⟨hz, its', _, hv, q⟩
theorem Inv.lnew {its : List Value} {t' : Nat} (I : Inv X pins σ H s) (hv : Vals ys its) (hz : ys.length ≤ sizeLine) :
    Inv X pins σ (upd H s.heap.objs.size (.lst ys)) { s with heap := s.heap.push { cls := .type "list", data := .seq its.toArray }, toks := t' } :=
  I.laid (fun _ _ q => Heap.get?_push_of_some _ q) (Nat.le_refl _) ⟨hz, its, 0, hv, Heap.get?_push_size _ rfl⟩
theorem Inv.fresh (I : Inv X pins σ H s) : H s.heap.objs.size = none := I.hok.fresh (Nat.le_refl _)
theorem Inv.lstM (I : Inv X pins σ H s) (hH : H l = some (.lst xs)) : xs.length ≤ sizeLine ∧ ∃ (its : List Value) (n : Nat), Vals xs its ∧ xs.length = its.length ∧ s.heap.get? l = some { cls := .type "list", data := .seq its.toArray n } := by
  obtain ⟨z, its, n, r, e⟩ := I.hok l _ hH
  exact ⟨z, its, n, r, r.length, e⟩

end

section
variable {X : Cx}

/-! ### methods -/
def rAppend : V → List V → Hp → VK → Prop := fun x vs H Q => ∃ l xs y, x = .ref l ∧ vs = [y] ∧ H l = some (.lst xs) ∧ xs.length < sizeLine ∧ Q .non (upd H l (.lst (xs ++ [y])))
theorem mt_append : MtM X "list.append" rAppend := by
  intro pins s σ H x vs v us Q I rx rv h
  obtain ⟨l, xs, y, rfl, rfl, hH, hz, q⟩ := h
  cases rx
  obtain ⟨u, rfl, ru⟩ := rv.one
  obtain ⟨z, its, n, r, hl, e⟩ := I.lstM hH
  refine call_meets F.slot_list_append ⟨_, e, rfl⟩ F.entry_list_append (F.args_list_append_2 _ _) (PySem.list_append l its.toArray n u (by rw [List.size_toArray]; omega)) ⟨e, ?_⟩
  refine ⟨.non, _, I.lset (its' := its ++ [u]) hH e (by simp) (r.append (.cons ru .nil)) ?_, rfl, q⟩
  rw [List.length_append, List.length_singleton]
  omega






/-! ### list + list, list += list, list * int -/

/-! ### del xs[i] -/
end

/-! ### xs[a:b] = ys -/
section
variable {prog : Program} {w : World} {A : Around} {E : Value → Shared → Prop} {s : Shared}
end

section
variable {X : Cx}
end
end L2

namespace Att
open PySem PySem.W PySem.Calls PyProof.Rows

/-! ### the script -/
theorem ints_of_wellAll {P : Params} {h : Heap} : ∀ (ns : List Int) (vs : List Value), WellAll P h vs (ns.map WData.int) → IntsAre vs ns := by
  intro ns
  induction ns with
  | nil =>
    intro vs w
    rw [List.map_nil] at w
    cases w
    exact .nil
  | cons n ns ih =>
    intro vs w
    rw [List.map_cons] at w
    cases w with
    | cons a b =>
      cases a
      exact .cons _ _ (ih _ b)

theorem script_of {l : OpenLaw} {n : Nat} (hn : l.most = some n) {P : Params} {h : Heap} {args : List WData} {vals : List Value}
    (hpre : l.row.toRowW.claim.pre args = true) (hwl : WellAll P h vals args) :
    ∃ a vs ns, vals = [Value.ref a] ∧ args = [WData.list (ns.map WData.int)] ∧ h.get? a = some { cls := .type "list", data := .seq vs.toArray } ∧ IntsAre vs ns ∧ ns.length ≤ n := by
  have hsh : WShape.hasAll [] args [.list .int] = true := (pre_splitW hpre).1
  have hc : l.pre.holds [] { args := args } = true := (pre_splitW hpre).2
  obtain ⟨d, r, rfl, h1, h2⟩ := hasAllW_cons hsh
  obtain rfl := hasAllW_nil h2
  obtain ⟨xs, rfl, h3⟩ := hasW_list h1
  obtain ⟨ns, rfl⟩ := items_int h3
  have hlen : ns.length ≤ n := by
    unfold OpenLaw.pre at hc
    have h4 : (WTm.not (.lt (.lit (.int (n : Int))) (.len (.arg 0)))).holds [] { args := [.list (ns.map .int)] } = true := by
      have h4 := (holds_andW hc).1
      rw [hn] at h4
      exact h4
    have h5 := condW_of h4 (w_not (w_lt w_lit (w_len_list (w_arg rfl))))
    rw [List.length_map] at h5
    refine Nat.le_of_not_lt fun q => ?_
    have q' : (n : Int) < ((ns.length : Nat) : Int) := by omega
    first
      | (rw [decide_eq_true q'] at h5; exact absurd h5 (by decide))
      | (simp at h5; omega)
  cases hwl with
  | cons w1 w2 =>
    cases w2
    cases w1 with
    | list ho hall => exact ⟨_, _, ns, rfl, rfl, ho, ints_of_wellAll ns _ hall, hlen⟩

theorem post_true (l : OpenLaw) (args : List WData) : l.row.toRowW.claim.post args (.bool true) args = true :=
  postW_of (r := l.row.toRowW) (X := (true == true))
    (show WShape.has [] (.bool true) .bool = true by first | rfl | decide | simp [WShape.has, WShape.arms, WShape.armsAll])
    (show (WTm.eq .res (.lit (.bool true))).value [] { args := args, res := some (.bool true), after := args } = some (.bool (true == true)) from w_eq_bool (w_res rfl) w_lit) rfl

/-! ### the attachment: holds_open's last premise (the goal 'hc' behind k_head) from a wpAny of the law's body -/

/-- the same from a codeAny of the CALL (for a layer whose function contracts speak of calls) -/
theorem attach_call {l : OpenLaw} {n : Nat} {q : Program} {loose : List Str} {XP : (Str → Option Value) → Heap → Prop} {YP : World → Heap → Prop} {d : DefRec}
    (hn : l.most = some n) (hdf : d.params.defaults = [])
    (call : ∀ (w : World) (s₀ s₁ : Shared) (mg mb : Str → Option Value) (fa : Addr) (o : Obj) (pm cd doc : Value) (a : Addr) (vs : List Value) (ns : List Int),
      Ground q loose [] XP w s₀ mg mb s₁.heap → YP w s₁.heap →
      s₁.heap.get? fa = some o → o.data = .func (docDef d.name d.params d.body d.scope pm cd doc) → s₁.heap.CodeRec cd d.name → mg d.name = some (.ref fa) →
      s₁.heap.get? a = some { cls := .type "list", data := .seq vs.toArray } → IntsAre vs ns → ns.length ≤ n → s₁.gens = #[] →
      codeAny (model l.prog w) callerA (.call (.ref fa) ⟨[.ref a], []⟩) (fun r s' => r = .ok (.ret (.bool true)) ∧ OldK s₁.heap s'.heap ∧ s'.os = s₁.os ∧ AllBare s'.gens) s₁) :
    WalkO q loose XP YP l.row.toRowW d [] (fun f vs => PySem.call f vs) := by
  intro w s₀ s₁ mg mb G Y fa o pm cd doc dV kV ho hd hcd hD hmg hg args vals as hpre hlay hrd hwl hlo
  obtain rfl : dV = .none := Dflts.none hD hdf
  obtain rfl : kV = .none := Dflts.noKw hD
  obtain ⟨a, vs, ns, rfl, rfl, hobj, hints, hlen⟩ := script_of hn hpre hwl
  refine enter_call (codeAny_mono (call w s₀ s₁ mg mb fa o pm cd doc a vs ns G Y ho (fd_plain hd) hcd hmg hobj hints hlen hg) fun r s' hq => ?_)
  obtain ⟨rfl, h2, h3, h4⟩ := hq
  exact ⟨.inl ⟨.bool true, .bool true, [], rfl, fun _ => rfl, .bool true, post_true l _, fun _ => ⟨List.Pairwise.nil, fun _ hm => (nomatch hm)⟩⟩, h2, h3, h4⟩


/-! ### rules over ANY heap (no ledger) from facts about the written part K: the library's own take a ledger (News) for what they write -/
section
variable {prog : Program} {w : World} {A : Around} {E : Value → Shared → Prop} {s : Shared} {K : Frag}





/-! the whole heap as the ledger: makes every rule that writes through a ledger a rule over any heap -/

end
end Att

namespace L2
open PySem PySem.Spec PyProof.Rows

theorem vals_ints : ∀ {vs : List Value} {ns : List Int}, IntsAre vs ns → Vals (ns.map V.int) vs
  | _, _, .nil => .nil
  | _, _, .cons n t h => .cons ⟨t, rfl⟩ (vals_ints h)


end L2

namespace L2
open PySem PySem.Spec PyProof.Rows

abbrev KOf {K : PySem.W.Frag} {h : Heap} (_ : K.In h) : PySem.W.Frag := K

end L2

/- THE LAST THEOREM (shape; LID, My.* are yours):
   My.Adr: a structure of the addresses that your layer names (classes, functions); My.Txt K t: a structure (Prop) of the equations over K;
   My.txt_mk : {K} {implicit addresses ..} (e1 : nsIn K mainGlobals "law" = some (some (.ref f))) (e2 : K.lookup f = some ⟨oc, od, .func (fnOf "law" "law" params body scope dV kV doc pm an cdv ct), sl⟩) (e3 : codeIn K cdv "law" = true) .. : ∃ t, My.Txt K t

set_option maxRecDepth 100000 in
set_option maxHeartbeats 0 in
theorem PySem.Challenge.cw_LID_holds : PySem.Challenge.rw_LID.Holds := by
  w_on; o_law; k_head; (case hw => w_witness2)
  k_fill
  refine L2.walk_of (l := PySem.Challenge.rw_LID) (n := 63) (k := 40) (x := "script") (CX := fun w => ..) (sp := fun _ => My.sp_law) rfl (by decide) rfl ⟨rfl, by decide, by decide⟩ (fun w h Y => PySem.W.kIn_of Y) ?F ?S ?C
  case F =>
    intro w mg fa h KX G hmg
    have T : ∃ t, My.Txt (L2.KOf KX) t := by
      dsimp only [L2.KOf]                          -- K must stand as «<heap const> w.params» for k_is
      refine' My.txt_mk ?e1 ?e2 ?e3 ..
      (case e1 => PySem.W.k_is)                    -- in the order: a name -> its address -> its object -> its parts
      (case e2 => PySem.W.k_is)
      ..
    obtain ⟨t, T⟩ := T
    have e0 := hmg.symm.trans (PySem.W.mg_of KX G T.law)
    cases e0                                       -- fa is the law's own address
    exact ⟨_, fun s u => .of_eq rfl, fun base kb nb => My.law_fn T kb nb⟩     -- if «.of_eq rfl» comes too early: refine' ⟨_, ?b, fun base kb nb => My.law_fn T kb nb⟩; exact fun s u => .of_eq rfl
  case S => exact fun w H a ns hl hO hS => ..
  case C => exact ..
(the tactic k_is has no namespace: write k_is) -/

/-! SHORT WORDS over the layer: a def of the text, its body, what a loop and a test want. -/
namespace L2
open PySem PySem.Spec PyProof.Rows

/-! ### the text by places -/
def defArgs (s : Stmt) : Arguments := match s with
  | .FunctionDef _ a _ _ _ _ _ _ _ _ => a
  | _ => { posonlyargs := [], args := [], vararg := none, kwonlyargs := [], kw_defaults := [], kwarg := none, defaults := [] }
def defBody (s : Stmt) : List Stmt := match s with
  | .FunctionDef _ _ b _ _ _ _ _ _ _ => b
  | _ => []
def defScope (s : Stmt) : Scope := match s with
  | .FunctionDef _ _ _ _ _ _ sc _ _ _ => sc
  | _ => { kind := .function, names := [], isGenerator := false, isCoroutine := false }

/-! ### no exception leaves a def -/
abbrev CX0 : CXT := fun _ _ _ _ _ _ => False
abbrev E0 : XK := fun _ _ _ => False
theorem pass0 {X : Cx} : Passes CX0 X E0 := fun _ _ _ _ _ _ _ h => h.elim

/-! ### a def (or method) of the text as it stands behind the top -/
structure Fun (K : PySem.W.Frag) (x qual : Str) (st : Stmt) (f : Addr) (fd : FuncData) : Prop where
  ex : ∃ (oc : Value) (od : Option Addr) (kV doc pm : Value) (an : Option Addr) (cdv ct : Value) (osl : Array (Option Value)),
    fd = PySem.W.fnOf x qual (defArgs st) (defBody st) (defScope st) .none kV doc pm an cdv ct ∧ K.lookup f = some ⟨oc, od, .func fd, osl⟩ ∧ PySem.W.codeIn K cdv qual = true
  kp : PySem.W.keepIn K (.ref f) = true
section
variable {P : Program} {w : World} {K : PySem.W.Frag} {mg : Str → Option Value} {base : Heap}
/-- THE RULE for a def: its body as a term of rules, and the reading of that term -/
theorem Fun.ok {x qual : Str} {st : Stmt} {f : Addr} {fd : FuncData} {N ps : List Str} {k : Nat} {sp : Sp} (F : Fun K x qual st f fd) (S : FnScope N ps (defScope st)) (len : ∀ vs H Q E, sp vs H Q E → vs.length = ps.length)
    (hbody : ∀ (cdv : Value) (A : Around) (outer : List Env) (s : Shared) (H : Hp) (vs : List V) (Q : VK) (E : XK), Room k (A.deeper (envOfC qual (defScope st) s.heap.objs.size f cdv)) → sp vs H Q E →
      ∃ t, PSs (cxOf CX0 P w K mg base N qual (defScope st) f cdv A outer s H E).nox (defBody st) t ∧ t { nx := fun _ H' => Q .non H', rt := Q } (start N vs) H) : FnOk P w K mg base CX0 (k + 1) f fd ps sp := by
  obtain ⟨oc, od, kV, doc, pm, an, cdv, ct, osl, rfl, lk, hcd⟩ := F.ex
  refine fn_of lk hcd S len fun A outer s H vs Q E hr hsp => ?_
  obtain ⟨t, h, q⟩ := hbody cdv A outer s H vs Q E hr hsp
  exact ⟨t, h.nox, q⟩
/-- how its arguments bind (no defaults): h is «fun _ _ _ _ _ _ us hl => match us, hl with | [_, _], _ => rfl», one _ a parameter -/
theorem Fun.binds {x qual : Str} {st : Stmt} {f : Addr} {fd : FuncData} {ps : List Str} (F : Fun K x qual st f fd)
    (h : ∀ (kV doc pm : Value) (an : Option Addr) (cdv ct : Value) (us : List Value), us.length = ps.length → bindArgs (PySem.W.fnOf x qual (defArgs st) (defBody st) (defScope st) .none kV doc pm an cdv ct) ⟨us, []⟩ = pure (ps.zip us)) : Binds K fd ps [] := by
  obtain ⟨oc, od, kV, doc, pm, an, cdv, ct, osl, rfl, lk, hcd⟩ := F.ex
  exact .all (h kV doc pm an cdv ct)
theorem fun_mk {x qual : Str} {st : Stmt} {f : Addr} {oc : Value} {od an : Option Addr} {osl : Array (Option Value)} {kV doc pm cdv ct : Value} (l : K.lookup f = some ⟨oc, od, .func (PySem.W.fnOf x qual (defArgs st) (defBody st) (defScope st) .none kV doc pm an cdv ct), osl⟩)
    (c : PySem.W.codeIn K cdv qual = true) (k : PySem.W.keepIn K (.ref f) = true) : Fun K x qual st f (PySem.W.fnOf x qual (defArgs st) (defBody st) (defScope st) .none kV doc pm an cdv ct) := ⟨⟨oc, od, kV, doc, pm, an, cdv, ct, osl, rfl, l, c⟩, k⟩
end
theorem small1000 {n : Nat} (h : n ≤ 1000) : n < sizeLine := Nat.lt_of_le_of_lt h (by decide)

/-! ### expressions in short: the name that stands in the i-th slot -/
section
variable {X : Cx}
theorem pv (i : Nat) {x : Str} {pos : Pos} (hN : X.N[i]? = some x := by rfl) (hv : Vis X.env.scope x := by first | exact Or.inl rfl | exact Or.inr (Or.inl rfl) | exact Or.inr (Or.inr rfl)) (hd : (x == ("__debug__" : Str)) = false := by decide)
    (hcd : (x == ("__classdict__" : Str)) = false := by decide) : PE X (.Name x pos) (tVar i) := pe_var hN hv hd hcd
end

/-! ### tests -/
theorem iteF {A B : Prop} (h : B) : if false = true then A else B := by
  rw [if_neg Bool.false_ne_true]
  exact h
theorem iteT {A B : Prop} (h : A) : if true = true then A else B := by
  rw [if_pos rfl]
  exact h

/-! ### heaps -/
end L2


set_option Elab.async false
set_option linter.all false
set_option maxRecDepth 100000
set_option maxHeartbeats 4000000
namespace L2
open PySem PySem.Spec PyProof.Rows

/-! ### lists of pairs as tables -/
section
variable {κ : Type} [DecidableEq κ]
def valV (kvs : List (κ × V)) (k : κ) : Option V := (kvs.find? fun kv => decide (kv.1 = k)).map (·.2)
/-- in its place, or at the end -/
def putK (kvs : List (κ × V)) (k : κ) (v : V) : List (κ × V) :=
  if (kvs.any fun kv => decide (kv.1 = k)) = true then kvs.map (fun kv => if kv.1 = k then (kv.1, v) else kv) else kvs ++ [(k, v)]

theorem valV_pos {p : κ × V} {r : List (κ × V)} {k : κ} (e : p.1 = k) : valV (p :: r) k = some p.2 := by simp [valV, List.find?_cons, e]
theorem valV_neg {p : κ × V} {r : List (κ × V)} {k : κ} (e : ¬ p.1 = k) : valV (p :: r) k = valV r k := by simp [valV, List.find?_cons, e]
theorem valV_any (k : κ) : ∀ kvs : List (κ × V), (kvs.any fun kv => decide (kv.1 = k)) = (valV kvs k).isSome
  | [] => rfl
  | p :: r => by
    rw [List.any_cons]
    by_cases e : p.1 = k
    · simp only [valV_pos e, decide_eq_true e, Bool.true_or, Option.isSome_some]
    · rw [valV_neg e, decide_eq_false e, Bool.false_or]; exact valV_any k r
theorem length_putK (kvs : List (κ × V)) (k : κ) (v : V) : (putK kvs k v).length ≤ kvs.length + 1 := by
  unfold putK
  split
  · rw [List.length_map]; omega
  · rw [List.length_append, List.length_cons, List.length_nil]; omega

theorem RelO.isSome_eq {o : Option V} {u : Option Value} (r : RelO o u) : o.isSome = u.isSome := by
  cases o with
  | none => cases u with
    | none => rfl
    | some _ => exact (show False from r).elim
  | some _ => cases u with
    | none => exact (show False from r).elim
    | some _ => rfl

/-- raw tables of the same keys -/
theorem KV.val {kvs : List (κ × V)} {vs : List (κ × Value)} (r : KV kvs vs) (k : κ) : RelO (valV kvs k) (valueAt vs k) := by
  unfold KV at r
  induction r with
  | nil => exact True.intro
  | @cons p q ps qs h t ih =>
    obtain ⟨h1, h2⟩ := h
    by_cases e : p.1 = k
    · have e' : q.1 = k := h1.symm.trans e
      have b : valueAt (q :: qs) k = some q.2 := by simp [valueAt, List.find?_cons, e']
      rw [valV_pos e, b]; exact h2
    · have e' : ¬ q.1 = k := fun z => e (h1.trans z)
      have b : valueAt (q :: qs) k = valueAt qs k := by simp [valueAt, List.find?_cons, e']
      rw [valV_neg e, b]; exact ih
theorem KV.any {kvs : List (κ × V)} {vs : List (κ × Value)} (r : KV kvs vs) (k : κ) : (kvs.any fun kv => decide (kv.1 = k)) = vs.any fun kv => decide (kv.1 = k) := by
  unfold KV at r
  induction r with
  | nil => rfl
  | cons h t ih => rw [List.any_cons, List.any_cons, ih, h.1]
theorem KV.repl {kvs : List (κ × V)} {vs : List (κ × Value)} (r : KV kvs vs) (k : κ) {y : V} {u : Value} (ry : RelV y u) :
    KV (kvs.map fun kv => if kv.1 = k then (kv.1, y) else kv) (vs.map fun kv => if kv.1 = k then (kv.1, u) else kv) := by
  unfold KV at r ⊢
  induction r with
  | nil => exact .nil
  | @cons p q ps qs h t ih =>
    rw [List.map_cons, List.map_cons]
    refine .cons ?_ ih
    obtain ⟨h1, h2⟩ := h
    by_cases e : p.1 = k
    · rw [if_pos e, if_pos (h1.symm.trans e)]; exact ⟨h1, ry⟩
    · rw [if_neg e, if_neg (fun z => e (h1.trans z))]; exact ⟨h1, h2⟩
theorem KV.put {kvs : List (κ × V)} {vs : List (κ × Value)} (r : KV kvs vs) (k : κ) {y : V} {u : Value} (ry : RelV y u) : KV (putK kvs k y) (stored vs k u) := by
  unfold putK stored
  rw [r.any k]
  by_cases e : (vs.any fun kv => decide (kv.1 = k)) = true
  · rw [if_pos e, if_pos e]; exact r.repl k ry
  · rw [if_neg e, if_neg e]; exact Paired.snoc r ⟨rfl, ry⟩
theorem KV.length {kvs : List (κ × V)} {vs : List (κ × Value)} (r : KV kvs vs) : kvs.length = vs.length := Paired.length r
end


/-! ### a tracked dict, its keys ints and texts or tuples of these -/
theorem kV_is {P : Program} {w : World} {k : Key} {u : Value} (r : RelV (kV k) u) : (mixKind P w).is k u = true := by
  cases k with
  | inl i => obtain ⟨t, e⟩ := (show ∃ t, u = Value.int i t from r); subst e; exact mixKind_int P w i t
  | inr x => obtain ⟨t, e⟩ := (show ∃ t, u = Value.str x t from r); subst e; exact mixKind_str P w x t
theorem items_are {P : Program} {w : World} : ∀ {ks : List Key} {us : List Value}, Vals (ks.map kV) us → ItemsAre (mixKind P w) ks us
  | [], _, r => by rw [List.map_nil] at r; cases r; exact .nil
  | k :: ks, _, r => by
    rw [List.map_cons] at r
    cases r with
    | cons h t => exact .cons (kV_is h) (items_are t)

/-- raw entries of a dict with tuple keys -/
abbrev KT (H : Hp) : List (List Key × V) → List (List Key × Addr × Value) → Prop := Paired fun p q => p.1 = q.1 ∧ H q.2.1 = some (.tup (p.1.map kV)) ∧ RelV p.2 q.2.2
theorem KT.val {H : Hp} {kvs : List (List Key × V)} {xs : List (List Key × Addr × Value)} (r : KT H kvs xs) (k : List Key) : RelO (valV kvs k) ((atKey xs k).map (·.2)) := by
  induction r with
  | nil => exact True.intro
  | @cons p q ps qs h t ih =>
    obtain ⟨h1, _, h2⟩ := h
    by_cases e : p.1 = k
    · have e' : q.1 = k := h1.symm.trans e
      have b : atKey (q :: qs) k = some q.2 := by simp [atKey, List.find?_cons, e']
      rw [valV_pos e, b]; exact h2
    · have e' : ¬ q.1 = k := fun z => e (h1.trans z)
      have b : atKey (q :: qs) k = atKey qs k := by simp [atKey, List.find?_cons, e']
      rw [valV_neg e, b]; exact ih
theorem KT.repl {H : Hp} {kvs : List (List Key × V)} {xs : List (List Key × Addr × Value)} (r : KT H kvs xs) (k : List Key) {y : V} {u : Value} (ry : RelV y u) :
    KT H (kvs.map fun kv => if kv.1 = k then (kv.1, y) else kv) (xs.map (putAt k u)) := by
  induction r with
  | nil => exact .nil
  | @cons p q ps qs h t ih =>
    rw [List.map_cons, List.map_cons]
    refine .cons ?_ ih
    obtain ⟨h1, h2, h3⟩ := h
    unfold putAt
    by_cases e : p.1 = k
    · rw [if_pos e, if_pos (h1.symm.trans e)]; exact ⟨h1, h2, ry⟩
    · rw [if_neg e, if_neg (fun z => e (h1.trans z))]; exact ⟨h1, h2, h3⟩
theorem KT.put {H : Hp} {kvs : List (List Key × V)} {xs : List (List Key × Addr × Value)} (r : KT H kvs xs) (k : List Key) {b : Addr} {y : V} {u : Value} (hb : H b = some (.tup (k.map kV))) (ry : RelV y u) :
    KT H (putK kvs k y) (storedH xs k b u) := by
  have e : (kvs.any fun kv => decide (kv.1 = k)) = (atKey xs k).isSome := by
    rw [valV_any, (r.val k).isSome_eq, Option.isSome_map]
  unfold putK storedH
  rw [e]
  by_cases q : (atKey xs k).isSome = true
  · rw [if_pos q, if_pos q]; exact r.repl k ry
  · rw [if_neg q, if_neg q]; exact Paired.snoc r ⟨rfl, hb, ry⟩
theorem KT.keeps {H H' : Hp} {kvs : List (List Key × V)} {xs : List (List Key × Addr × Value)} (r : KT H kvs xs) (ht : ∀ b ys, H b = some (.tup ys) → H' b = some (.tup ys)) : KT H' kvs xs :=
  Paired.mapP r fun _ _ z => ⟨z.1, ht _ _ z.2.1, z.2.2⟩

section
variable {P : Program} {w : World} {H : Hp} {h : Heap} {a : Addr}
theorem rd_of {u : HO} (ok : HOk P w H h) (e : Rd H a u) : ObjOk P w H h a u := e.ok ok
theorem dk_rd {kvs : List (Key × V)} (ok : HOk P w H h) (e : Rd H a (.dK kvs)) : kvs.length ≤ sizeLine ∧ (a == sysModules) = false ∧ ∃ vs, KV kvs vs ∧ h.DictOf (mixKind P w) a vs :=
  show ObjOk P w H h a (.dK kvs) from rd_of ok e
theorem dk_of {kvs : List (Key × V)} (ok : HOk P w H h) (e : H a = some (.dK kvs)) : kvs.length ≤ sizeLine ∧ (a == sysModules) = false ∧ ∃ vs, KV kvs vs ∧ h.DictOf (mixKind P w) a vs := dk_rd ok (.inl e)
/-- a tracked tuple of ints and texts is a key -/
theorem key_of {ks : List Key} (ok : HOk P w H h) (e : H a = some (.tup (ks.map kV))) : (tupleKind (mixKind P w)).is h ks a := by
  obtain ⟨_, its, r, o, h1, h2, n, h3⟩ := (show ObjOk P w H h a (.tup (ks.map kV)) from ok a _ e)
  exact ⟨o, its.toArray, n, h1, h2, h3, by simpa using items_are r⟩
theorem dt_rd {kvs : List (List Key × V)} (ok : HOk P w H h) (e : Rd H a (.dT kvs)) : kvs.length ≤ sizeLine ∧ (a == sysModules) = false ∧
    ∃ xs, KT H kvs xs ∧ h.DictOfH (tupleKind (mixKind P w)) a xs := by
  obtain ⟨z, y, xs, r, o, es, ep, h1, h2, h3, h4, h5⟩ := (show ObjOk P w H h a (.dT kvs) from rd_of ok e)
  refine ⟨z, y, xs, r, o, es, ep, h1, h2, h3, h4, fun x hx => ?_, h5⟩
  have all : ∀ {l : List (List Key × V)} {m : List (List Key × Addr × Value)}, KT H l m → ∀ x ∈ m, (tupleKind (mixKind P w)).is h x.1 x.2.1 := by
    intro l m q
    induction q with
    | nil => intro x hx; exact nomatch hx
    | @cons p q ps qs hq t ih =>
      intro x hx
      rcases List.mem_cons.mp hx with e | hx
      · subst e
        exact key_of ok (by rw [← hq.1]; exact hq.2.1)
      · exact ih x hx
  exact all r x hx
theorem dt_of {kvs : List (List Key × V)} (ok : HOk P w H h) (e : H a = some (.dT kvs)) : kvs.length ≤ sizeLine ∧ (a == sysModules) = false ∧
    ∃ xs, KT H kvs xs ∧ h.DictOfH (tupleKind (mixKind P w)) a xs := dt_rd ok (.inl e)
end

/-- what the dict at a holds at the key y -/
def DGet (H : Hp) (a : Addr) (y : V) (r : Option V) : Prop :=
  (∃ kvs k, Rd H a (.dK kvs) ∧ y = kV k ∧ r = valV kvs k) ∨ ∃ kvs k b, Rd H a (.dT kvs) ∧ y = .ref b ∧ H b = some (.tup (k.map kV)) ∧ r = valV kvs k
/-- the heap behind a[y] = v -/
def DPut (H : Hp) (a : Addr) (y v : V) (H' : Hp) : Prop :=
  (∃ kvs k, H a = some (.dK kvs) ∧ y = kV k ∧ kvs.length < sizeLine ∧ H' = upd H a (.dK (putK kvs k v))) ∨
  ∃ kvs k b, H a = some (.dT kvs) ∧ y = .ref b ∧ H b = some (.tup (k.map kV)) ∧ kvs.length < sizeLine ∧ H' = upd H a (.dT (putK kvs k v))
theorem DGet.k {H : Hp} {a : Addr} {kvs : List (Key × V)} {k : Key} (e : H a = some (.dK kvs)) : DGet H a (kV k) (valV kvs k) := .inl ⟨kvs, k, .inl e, rfl, rfl⟩
theorem DPut.k {H : Hp} {a : Addr} {kvs : List (Key × V)} {k : Key} {v : V} (e : H a = some (.dK kvs)) (hl : kvs.length < sizeLine) : DPut H a (kV k) v (upd H a (.dK (putK kvs k v))) := .inl ⟨kvs, k, e, rfl, hl, rfl⟩


section
variable {X : Cx} {pins : List (Addr × Obj)} {σ : St} {H : Hp} {s : Shared} {a : Addr} {y v : V} {u r : Value} {o : Option V} {A : Around} {E : Value → Shared → Prop}

theorem Inv.big (I : Inv X pins σ H s) : sysModules < s.heap.objs.size := by
  have h : mainGlobals < s.heap.objs.size := (I.mod.glob.keeps I.bk).lt
  exact Nat.lt_trans (by decide) h

/-- d[y], there -/
theorem d_getItem {Q : Value → Shared → Prop} (hu : A.units + 1 < cLine) (I : Inv X pins σ H s) (g : DGet H a y (some v)) (ry : RelV y u) (h : ∀ w' s', Inv X pins σ H s' → RelV v w' → Q w' s') :
    wpAny (model X.prog X.w) A (getItem (.ref a) u) Q E s := by
  rcases g with ⟨kvs, k, e, ey, l⟩ | ⟨kvs, k, b, e, ey, eb, l⟩
  · subst ey
    obtain ⟨z, hd, vs, rel, dd⟩ := dk_rd I.hok e
    obtain ⟨w', hw, rw'⟩ := RelO.some_of (v := v) (o := valueAt vs k) (by rw [l]; exact rel.val k)
    exact wpAny_getItem_of (kV_is ry) dd.mapOf hw (h w' _ (I.tok _) rw')
  · subst ey
    cases (show u = Value.ref b from ry)
    obtain ⟨z, hd, xs, rel, dd⟩ := dt_rd I.hok e
    obtain ⟨w', hw, rw'⟩ := RelO.some_of (v := v) (o := (atKey xs k).map (·.2)) (by rw [l]; exact rel.val k)
    obtain ⟨p, hp, hp2⟩ := Option.map_eq_some_iff.mp hw
    refine wpAny_getItem_heap (tupleKind_room_in1 hu) (key_of I.hok eb) dd hp ?_
    rw [hp2]
    exact h w' _ (I.tok _) rw'
/-- a dict's object is replaced -/
theorem d_write {h' : Heap} {t' : Nat} {ob : HO} (I : Inv X pins σ H s) (mu : Mut (H a)) (hs : Heap.SameBut a s.heap h') (he : ∃ q, h'.get? a = some q) (new : ObjOk X.prog X.w (upd H a ob) h' a ob) :
    Inv X pins σ (upd H a ob) { s with heap := h', toks := t' } :=
  I.write (x := a) (e := a) mu (.inl rfl) (fun b q hb z => (hs.2 b hb).trans z) he new
theorem dk_new {P : Program} {w : World} {H' : Hp} {h' : Heap} {kvs : List (Key × V)} {vs : List (Key × Value)} (z : kvs.length ≤ sizeLine) (hd : (a == sysModules) = false) (rel : KV kvs vs) (dd : h'.DictOf (mixKind P w) a vs) :
    ObjOk P w H' h' a (.dK kvs) := ⟨z, hd, vs, rel, dd⟩
/-- d[y] = v -/
theorem d_setItem {H' : Hp} {Q : Unit → Shared → Prop} (hu : A.units + 1 < cLine) (I : Inv X pins σ H s) (g : DPut H a y v H') (ry : RelV y u) (rv : RelV v r) (h : ∀ s', Inv X pins σ H' s' → Q () s') :
    wpAny (model X.prog X.w) A (setItem (.ref a) u r) Q E s := by
  rcases g with ⟨kvs, k, e, ey, l, eH⟩ | ⟨kvs, k, b, e, ey, eb, l, eH⟩
  · subst ey eH
    obtain ⟨z, hd, vs, rel, dd⟩ := dk_of I.hok e
    have hz : vs.length ≤ sizeLine := by rw [← rel.length]; exact z
    have hl : (putK kvs k v).length ≤ sizeLine := by have := length_putK kvs k v; omega
    refine wpAny_setItem_pairs (hsz := hz) (kV_is ry) dd fun h' dd' hs => h _ ?_
    have he : ∃ q, h'.get? a = some q := let ⟨q, _, _, hq, _⟩ := dd'; ⟨q, hq⟩
    exact d_write I (by rw [e]; exact True.intro) hs he (dk_new hl hd (rel.put k rv) dd')
  · subst ey eH
    cases (show u = Value.ref b from ry)
    obtain ⟨z, hd, xs, rel, dd⟩ := dt_of I.hok e
    have hz : xs.length ≤ sizeLine := by rw [← Paired.length rel]; exact z
    have hl : (putK kvs k v).length ≤ sizeLine := by have := length_putK kvs k v; omega
    refine wpAny_setItem_heap (hsz := hz) (tupleKind_room_in1 hu) (key_of I.hok eb) dd fun h' dd' hs => h _ ?_
    obtain ⟨q, es, ep, hq, h2, h3, h4, _, h5⟩ := dd'
    refine d_write I (by rw [e]; exact True.intro) hs ⟨q, hq⟩ ⟨hl, hd, _, (rel.put k eb rv).keeps fun c ys ec => ?_, q, es, ep, hq, h2, h3, h4, h5⟩
    rw [upd_ne (ne_of ec e (fun z => nomatch z))]
    exact ec
end

section
variable {X : Cx} {pins : List (Addr × Obj)} {σ : St} {H : Hp} {s : Shared} {a : Addr} {kvs : List (Key × V)} {k : Key} {u : Value} {A : Around} {E : Value → Shared → Prop}
end


/-! ### readings and rules -/
/-- the element of a subscription, not a slice -/
def NoSl (i : Expr) : Prop := ∀ ov iv, subscripted i false ov iv = operate [ov, iv] (getItem ov iv)
theorem subD_of {prog : Program} {w : World} {A : Around} {E : Value → Shared → Prop} {s : Shared} {env : Env} {value slice : Expr} {pos : Pos} {T id : String} {Q : Value → Shared → Prop}
    (hl : typeLookup (.type T) "__getitem__" = pure (some (.builtin id))) (hs : NoSl slice)
    (h : wpAny (model prog w) A (eval value env) (fun o s₁ => wpAny (model prog w) A (eval slice env) (fun i s₂ => s₂.TypeIs o T ∧ wpAny (model prog w) A (getItem o i) Q E s₂) E s₁) E s) :
    wpAny (model prog w) A (eval (.Subscript value slice pos) env) Q E s := by
  refine Subscript_ (wpAny_mono h (fun o s₁ h₁ => wpAny_mono h₁ (fun i s₂ h₂ => ?_) fun _ _ x => x) fun _ _ x => x)
  obtain ⟨hT, h₂⟩ := h₂
  unfold subscriptTail
  refine wpAny_bind ?_
  rw [getitemInPython_of_ne hT.not_modules]
  refine wpAny_bind (wpAny_specialOf hT hl ?_)
  have fin : wpAny (model prog w) A (subscripted slice false o i) (fun r s₃ => wpAny (model prog w) A (letTemporaryGo value o r >>= fun _ => pure r) Q E s₃) E s₂ := by
    rw [hs o i]
    exact wpAny_operating (wpAny_mono h₂ (fun r s₃ h₃ => wpAny_bind (wpAny_letTemporaryGo (wpAny_pure h₃))) fun _ _ x => x)
  first
    | exact wpAny_pure (wpAny_bind fin)
    | exact wpAny_bind (wpAny_pure (wpAny_bind fin))
    | exact wpAny_bind fin

theorem dict_typeIs {X : Cx} {pins : List (Addr × Obj)} {σ : St} {H : Hp} {s : Shared} {a : Addr} {y : V} {o : Option V} (I : Inv X pins σ H s) (g : DGet H a y o) : s.TypeIs (.ref a) "dict" := by
  rcases g with ⟨kvs, k, e, _, _⟩ | ⟨kvs, k, b, e, _, _, _⟩
  · obtain ⟨_, _, vs, _, dd⟩ := dk_rd I.hok e
    exact dd.typeIs
  · obtain ⟨_, _, xs, _, dd⟩ := dt_rd I.hok e
    exact dd.typeIs

/-- d[y] -/
def tDGet (td ty : TE) : TE := fun σ H Q => td σ H fun x H1 => ty σ H1 fun y H2 => ∃ a v, x = .ref a ∧ DGet H2 a y (some v) ∧ Q v H2
/-- d[y] = v -/
def sDPut (td ty tv : TE) : TS := fun D σ H => tv σ H fun v H1 => td σ H1 fun x H2 => ty σ H2 fun y H3 => ∃ a H4, x = .ref a ∧ DPut H3 a y v H4 ∧ D.nx σ H4

section
variable {X : Cx} {o i e value : Expr} {pos pos' tpos : Pos} {td ty tv : TE}
theorem pe_dget (hu : X.A.units + 1 < cLine) (ho : PE X o td) (hi : PE X i ty) (hs : NoSl i) : PE X (.Subscript o i pos) (tDGet td ty) := by
  intro pins s σ H Q I h
  refine subD_of PySem.F.slot_dict_getitem.lookup hs (thn (ho pins s σ H _ I h) fun u s1 ⟨x, H1, I1, rx, q1⟩ => thn (hi pins s1 σ H1 _ I1 q1) fun iv s2 ⟨y, H2, I2, ry, a, v, ex, g, q2⟩ => ?_)
  subst ex
  obtain rfl : u = Value.ref a := rx
  exact ⟨dict_typeIs I2 g, d_getItem hu I2 g ry fun w' s3 I3 rw' => ⟨v, H2, I3, rw', q2⟩⟩
theorem ps_dput (hu : X.A.units + 1 < cLine) (ho : PE X o td) (hi : PE X i ty) (hv : PE X value tv) (hs : swapsWith value (some (.Subscript o i pos')) pos.line X.env = pure false) :
    PS X (.Assign [.Subscript o i pos'] value pos) (sDPut td ty tv) := by
  intro pins s σ H D I h
  refine wpAny_Assign_Subscript (thn (hv pins s σ H _ I h) fun r s1 ⟨v, H1, I1, rv, q1⟩ => thn (ho pins s1 σ H1 _ I1 q1) fun u s2 ⟨x, H2, I2, rx, q2⟩ => thn (hi pins s2 σ H2 _ I2 q2) fun iv s3 ⟨y, H3, I3, ry, a, H4, ex, g, q3⟩ => ?_) hs
  subst ex
  obtain rfl : u = Value.ref a := rx
  exact d_setItem hu I3 g ry rv fun s4 I4 => ⟨σ, H4, I4, q3⟩
end


/-! ### displays -/
theorem dk_empty {P : Program} {w : World} {H : Hp} (h : Heap) (hb : sysModules < h.objs.size) : ObjOk P w H (h.push { cls := .type "dict", data := .dict #[] }) h.objs.size (.dK []) :=
  ⟨Nat.zero_le _, beq_eq_false_iff_ne.mpr (Ne.symm (Nat.ne_of_lt hb)), [], .nil, Heap.DictOf.new h⟩
section
variable {X : Cx} {pos : Pos}
end

/-- the pairs of a display, from the left -/
def tPairs : List (TE × TE) → St → Hp → (List (V × V) → Hp → Prop) → Prop
  | [], _, H, Q => Q [] H
  | (tk, tv) :: r, σ, H, Q => tk σ H fun x H1 => tv σ H1 fun y H2 => tPairs r σ H2 fun ps H3 => Q ((x, y) :: ps) H3
abbrev VV : List (V × V) → List (Value × Value) → Prop := Paired fun p q => RelV p.1 q.1 ∧ RelV p.2 q.2
def PPs (X : Cx) (pos : Pos) (keys : List (Option Expr)) (values : List Expr) (trs : List (TE × TE)) : Prop :=
  ∀ (pins : List (Addr × Obj)) (s : Shared) (σ : St) (H : Hp) (Q : List (V × V) → Hp → Prop), Inv X pins σ H s → tPairs trs σ H Q →
    wpAny (model X.prog X.w) X.A (evalPairs (pairTrees keys values X.env pos)) (fun vs s' => ∃ ps H', Inv X pins σ H' s' ∧ VV ps vs ∧ Q ps H') X.xe s
theorem pps_nil {X : Cx} {pos : Pos} : PPs X pos [] [] [] := fun pins s σ H Q I h => pairTrees_nil_walk ⟨[], H, I, .nil, h⟩
theorem pps_cons {X : Cx} {pos : Pos} {k v : Expr} {ks : List (Option Expr)} {vs : List Expr} {tk tv : TE} {trs : List (TE × TE)} (hk : PE X k tk) (hv : PE X v tv) (hr : PPs X pos ks vs trs) :
    PPs X pos (some k :: ks) (v :: vs) ((tk, tv) :: trs) := fun pins s σ H Q I h =>
  pairTrees_cons_walk (thn (hk pins s σ H _ I h) fun u s1 ⟨x, H1, I1, rx, q1⟩ => thn (hv pins s1 σ H1 _ I1 q1) fun w2 s2 ⟨y, H2, I2, ry, q2⟩ =>
    thn (hr pins s2 σ H2 _ I2 q2) fun ws s3 ⟨ps, H3, I3, rel, q3⟩ => ⟨(x, y) :: ps, H3, I3, .cons ⟨rx, ry⟩ rel, q3⟩)

def mergeK (kvs more : List (Key × V)) : List (Key × V) := more.foldl (fun acc kv => putK acc kv.1 kv.2) kvs
theorem KV.merge : ∀ {more : List (Key × V)} {rs : List (Key × Value)} {kvs : List (Key × V)} {vs : List (Key × Value)}, KV more rs → KV kvs vs → KV (mergeK kvs more) (merged vs rs) := by
  intro more rs kvs vs r
  unfold KV at r
  induction r generalizing kvs vs with
  | nil => intro q; exact q
  | @cons p q ps qs h t ih =>
    intro r0
    have e : KV (putK kvs p.1 p.2) (stored vs q.1 q.2) := by
      have := r0.put p.1 h.2
      rw [← h.1]; exact this
    exact ih e
theorem length_mergeK : ∀ (more kvs : List (Key × V)), (mergeK kvs more).length ≤ kvs.length + more.length
  | [], kvs => by show kvs.length ≤ kvs.length + 0; omega
  | p :: r, kvs => by
    have h1 := length_mergeK r (putK kvs p.1 p.2)
    have h2 := length_putK kvs p.1 p.2
    show (mergeK (putK kvs p.1 p.2) r).length ≤ _
    rw [List.length_cons]; omega
theorem carries_of {P : Program} {w : World} : ∀ {kvs : List (Key × V)} {ws : List (Value × Value)}, VV (kvs.map fun kv => (kV kv.1, kv.2)) ws → ∃ rs, Carries (mixKind P w) ws rs ∧ KV kvs rs
  | [], _, r => by rw [List.map_nil] at r; cases r; exact ⟨[], True.intro, .nil⟩
  | p :: kvs, _, r => by
    rw [List.map_cons] at r
    cases r with
    | @cons a b as bs h t =>
      obtain ⟨rs, c, q⟩ := carries_of (P := P) (w := w) t
      obtain ⟨b1, b2⟩ := b
      exact ⟨(p.1, b2) :: rs, ⟨kV_is h.1, rfl, c⟩, .cons ⟨rfl, h.2⟩ q⟩
/-- {k: v, ..} with keys ints and texts; the new dict stands empty while the pairs are made -/
def tDisp (trs : List (TE × TE)) : TE := fun σ H Q => ∀ p, H p = none → tPairs trs σ (upd H p (.dK [])) fun ps H2 => H2 p = some (.dK []) ∧ ∃ kvs : List (Key × V), ps = kvs.map (fun kv => (kV kv.1, kv.2)) ∧ kvs.length ≤ 15 ∧ Q (.ref p) (upd H2 p (.dK (mergeK [] kvs)))
theorem pe_disp {X : Cx} {pos : Pos} {keys : List (Option Expr)} {values : List Expr} {trs : List (TE × TE)} (h : PPs X pos keys values trs) (hall : keys.all (·.isSome) = true) (hl : keys.length = values.length) (h0 : keys ≠ [])
    (h15 : keys.length ≤ 15) : PE X (.Dict keys values pos) (tDisp trs) := by
  intro pins s σ H Q I q
  have hn := I.hok.fresh (Nat.le_refl s.heap.objs.size)
  have I1 := I.laid (a := s.heap.objs.size) (o := .dK []) (h' := s.heap.push { cls := .type "dict", data := .dict #[] }) (t' := s.toks) (fun _ _ q => Heap.get?_push_of_some _ q) (Nat.le_refl _) (dk_empty s.heap I.big)
  refine wpAny_Dict_walk (knd := mixKind X.prog X.w) hall hl h0 h15 (thn (h pins _ σ _ _ I1 (q _ hn)) fun ws s2 ⟨ps, H2, I2, rel, e, kvs, ep, lk, q2⟩ => ?_)
  subst ep
  obtain ⟨rs, c, rk⟩ := carries_of (P := X.prog) (w := X.w) rel
  obtain ⟨z, hd, vs0, r0, dd⟩ := dk_of I2.hok e
  cases r0
  refine ⟨rs, c, dd, fun h' dd' hs => ⟨.ref s.heap.objs.size, _, ?_, rfl, q2⟩⟩
  have hz : (mergeK [] kvs).length ≤ sizeLine := by
    have h1 := length_mergeK kvs []
    rw [List.length_nil] at h1
    rw [sizeLine_eq]; omega
  have he : ∃ q, h'.get? s.heap.objs.size = some q := let ⟨q, _, _, hq, _⟩ := dd'; ⟨q, hq⟩
  exact d_write I2 (by rw [e]; exact True.intro) hs he (dk_new hz hd (rk.merge .nil) dd')


/-! ### methods -/
/-- a method call o.m(e) of a built-in, with one argument: what must be seen of the text -/
structure M1 (X : Cx) (o : Expr) (m : Str) (apos : Pos) (e : Expr) (cpos : Pos) : Prop where
  base : attributeBase o m X.env (eval o X.env) = eval o X.env
  few : ((backTo cpos (starEach [e] X.env)).all (fun x => !x.1) && (backToKw cpos (keywordEach [] X.env)).all (fun x => x.1.isSome)
    && decide (([e] : List Expr).length + ([] : List Keyword).length + (if ([] : List Keyword).isEmpty then 0 else 1) < 30)) = true
  line : (apos.endLine == cpos.line) = true
  trees : backTo cpos (starEach [e] X.env) = [(false, eval e X.env)]
structure M2 (X : Cx) (o : Expr) (m : Str) (apos : Pos) (e f : Expr) (cpos : Pos) : Prop where
  base : attributeBase o m X.env (eval o X.env) = eval o X.env
  few : ((backTo cpos (starEach [e, f] X.env)).all (fun x => !x.1) && (backToKw cpos (keywordEach [] X.env)).all (fun x => x.1.isSome)
    && decide (([e, f] : List Expr).length + ([] : List Keyword).length + (if ([] : List Keyword).isEmpty then 0 else 1) < 30)) = true
  line : (apos.endLine == cpos.line) = true
  trees : backTo cpos (starEach [e, f] X.env) = [(false, eval e X.env), (false, eval f X.env)]


section
variable {X : Cx} {pins : List (Addr × Obj)} {σ : St} {H : Hp} {s : Shared} {a : Addr} {y d : V} {u r : Value} {o : Option V} {A : Around} {E : Value → Shared → Prop}
end

section
variable {X : Cx} {o e f : Expr} {apos cpos : Pos} {td ty tx : TE}
end

/-! ### dict(d): a copy -/
section
variable {X : Cx} {pins : List (Addr × Obj)} {σ : St} {H : Hp} {s : Shared} {a : Addr} {kvs : List (Key × V)} {A : Around} {E : Value → Shared → Prop}
end


section
variable {X : Cx} {pins : List (Addr × Obj)} {σ : St} {H : Hp} {s : Shared} {a : Addr} {y : V} {u : Value} {A : Around} {E : Value → Shared → Prop}
end
end L2

set_option Elab.async false
set_option linter.all false
set_option maxRecDepth 100000
set_option maxHeartbeats 4000000
namespace L2
open PySem PySem.Spec PyProof.Rows
/-- the code tables that may grow -/
class TabP where
  tp : Addr → Prop
  ql : Addr → Str
def nT : HO → Prop
  | .tbl _ => False
  | _ => True
def cdP (c : Addr) (q : Str) : Heap → Prop := fun h => h.CodeRec (.ref c) q
def TabOk [TabP] (H : Hp) (P : Addr) : Prop := ∃ ps : Array Value, H P = some (.tbl ps) ∧ TriplesOk ps.toList ∧ ∀ pos cv, codeAmong pos ps.toList = some cv → ∃ c, cv = .ref c ∧ H c = some (.ext (cdP c (TabP.ql P)))
def TabsOk [TabP] (H : Hp) : Prop := ∀ P, TabP.tp P → TabOk H P
/-- all that was tracked is as it was; tables may have grown -/
structure Same [TabP] (H H' : Hp) : Prop where
  at' : ∀ b o, H b = some o → (h : nT o := by exact trivial) → H' b = some o
  tb : ∀ b ps, H b = some (.tbl ps) → ∃ ps', H' b = some (.tbl ps')
  gd : TabsOk H → TabsOk H'
variable [TabP]
theorem nT_or (o : HO) : nT o ∨ ∃ ps, o = .tbl ps := by cases o <;> first | exact .inl trivial | exact .inr ⟨_, rfl⟩
theorem Same.refl (H : Hp) : Same H H := ⟨fun _ _ h _ => h, fun _ ps h => ⟨ps, h⟩, id⟩
theorem Same.trans {H H1 H2 : Hp} (a : Same H H1) (b : Same H1 H2) : Same H H2 :=
  ⟨fun c o h n => b.at' c o (a.at' c o h n) n, fun c ps h => let ⟨p1, e1⟩ := a.tb c ps h; b.tb c p1 e1, fun g => b.gd (a.gd g)⟩
theorem Same.some {H H' : Hp} (s : Same H H') {b : Addr} (h : H b ≠ none) : H' b ≠ none := by
  cases e : H b with
  | none => exact absurd e h
  | some o =>
    rcases nT_or o with n | ⟨ps, rfl⟩
    · rw [s.at' b o e n]; intro z; cases z
    · obtain ⟨p, q⟩ := s.tb b ps e; rw [q]; intro z; cases z
theorem Same.free {H H' : Hp} (e : Same H H') {l : Addr} (h : H' l = Option.none) : H l = Option.none := by
  cases q : H l with
  | none => rfl
  | some o => exact absurd h (e.some (by rw [q]; intro z; cases z))
theorem Same.seq {K : PySem.W.Frag} {H H' : Hp} {a : Addr} {xs : List V} (e : Same H H') (h : SqL K H a xs) : SqL K H' a xs := by
  rcases h with (h | ⟨o, h⟩) | h
  · exact .inl (.inl (e.at' _ _ h))
  · exact .inl (.inr ⟨o, e.at' _ _ h⟩)
  · exact .inr h
/-- a thing changed that is no table and no code -/
theorem TabsOk.put {H : Hp} {p : Addr} (g : TabsOk H) (o : HO) (h1 : ∀ ps, H p ≠ some (.tbl ps)) (h2 : ∀ q, H p ≠ some (.ext (cdP p q))) : TabsOk (upd H p o) := fun P hP => by
  obtain ⟨ps, e, t, c⟩ := g P hP
  refine ⟨ps, by rw [upd_ne (by rintro rfl; exact h1 _ e)]; exact e, t, fun pos cv hc => ?_⟩
  obtain ⟨c', e1, e2⟩ := c pos cv hc
  exact ⟨c', e1, by rw [upd_ne (by rintro rfl; exact h2 _ e2)]; exact e2⟩
theorem TabsOk.new {H : Hp} {p : Addr} (g : TabsOk H) (h : H p = none) (o : HO) : TabsOk (upd H p o) := g.put o (fun ps => by rw [h]; intro z; cases z) (fun φ => by rw [h]; intro z; cases z)
theorem TabsOk.lst {H : Hp} {p : Addr} {zs : List V} (g : TabsOk H) (h : H p = some (.lst zs)) (o : HO) : TabsOk (upd H p o) := g.put o (fun ps => by rw [h]; intro z; cases z) (fun φ => by rw [h]; intro z; cases z)
theorem same_new {H : Hp} {p : Addr} (h : H p = none) (o : HO) : Same H (upd H p o) :=
  ⟨fun b u q _ => by rw [upd_ne (ne_of_none q h)]; exact q, fun b ps q => ⟨ps, by rw [upd_ne (ne_of_none q h)]; exact q⟩, fun g => g.new h o⟩
theorem upd_over {H1 H : Hp} {D : Addr} {zs : List V} (hD : H1 D = none) (s : Same H1 H) (hl : H D = some (.lst zs)) (o : HO) : Same H1 (upd H D o) :=
  ⟨fun b u q n => by rw [upd_ne (ne_of_none q hD)]; exact s.at' b u q n, fun b ps q => by rw [upd_ne (ne_of_none q hD)]; exact s.tb b ps q, fun g => (s.gd g).lst hl o⟩
end L2

namespace L2
open PySem
def clGo (env : Env) : List (Str × NameKind) → List (Str × Addr) → List (Str × Addr)
  | [], acc => acc
  | (n, k) :: r, acc => if (k == NameKind.free) = true then clGo env r ((n, (env.cells.lookup n).getD 0) :: acc) else clGo env r acc
abbrev clOf (scope : Scope) (env : Env) : List (Str × Addr) := clGo env scope.names []
theorem closureFor_cl {scope : Scope} {env : Env} (h : ∀ y ∈ scope.names, y.2 = .free → ∃ c, env.cells.lookup y.1 = some c) : closureFor scope env = pure (clOf scope env) := by
  unfold closureFor clOf
  generalize scope.names = ns at h
  generalize ([] : List (Str × Addr)) = acc
  show (forIn ns acc _ >>= _) = _
  induction ns generalizing acc with
  | nil => rfl
  | cons y r ih =>
    obtain ⟨n, k⟩ := y
    rw [List.forIn_cons]
    have ih' := fun acc => ih (fun y hy => h y (List.mem_cons_of_mem _ hy)) acc
    by_cases hk : (k == NameKind.free) = true
    · have hk' : k = .free := by simpa using hk
      obtain ⟨c, hc⟩ := h (n, k) List.mem_cons_self hk'
      have e1 : cellOf env n = pure c := by unfold cellOf; rw [hc]
      simp only [hk, if_true, e1, pure_bind, clGo, hc, Option.getD_some]
      exact ih' _
    · simp only [hk, clGo]
      exact ih' _
theorem clGo_mem {env : Env} : ∀ {ns : List (Str × NameKind)} {acc : List (Str × Addr)} {p : Str × Addr}, p ∈ clGo env ns acc → p ∈ acc ∨ ∃ k, (p.1, k) ∈ ns ∧ k = NameKind.free ∧ p.2 = (env.cells.lookup p.1).getD 0
  | [], _, _, h => .inl h
  | (n, k) :: r, acc, p, h => by
    unfold clGo at h
    split at h
    · rename_i hk
      rcases clGo_mem h with h | ⟨k', a, b⟩
      · rcases List.mem_cons.mp h with rfl | h
        · exact .inr ⟨k, List.mem_cons_self, by simpa using hk, rfl⟩
        · exact .inl h
      · exact .inr ⟨k', List.mem_cons_of_mem _ a, b⟩
    · rcases clGo_mem h with h | ⟨k', a, b⟩
      · exact .inl h
      · exact .inr ⟨k', List.mem_cons_of_mem _ a, b⟩
theorem clGo_has {env : Env} : ∀ {ns : List (Str × NameKind)} {acc : List (Str × Addr)} {y : Str}, ((y, NameKind.free) ∈ ns ∨ ∃ c, (y, c) ∈ acc) → ∃ c, (y, c) ∈ clGo env ns acc
  | [], _, _, h => by
    rcases h with h | h
    · cases h
    · exact h
  | (n, k) :: r, acc, y, h => by
    unfold clGo
    split
    · refine clGo_has ?_
      rcases h with h | ⟨c, h⟩
      · rcases List.mem_cons.mp h with e | h
        · cases e; exact .inr ⟨_, List.mem_cons_self⟩
        · exact .inl h
      · exact .inr ⟨c, List.mem_cons_of_mem _ h⟩
    · rename_i hk
      refine clGo_has ?_
      rcases h with h | h
      · rcases List.mem_cons.mp h with e | h
        · cases e; exact absurd rfl hk
        · exact .inl h
      · exact .inr h
theorem lookup_of_mem {α : Type} {y : Str} {c : α} : ∀ {l : List (Str × α)}, (y, c) ∈ l → ∃ c', l.lookup y = some c'
  | (n, k) :: r, h => by
    by_cases e : (y == n) = true
    · exact ⟨k, by rw [List.lookup_cons, e]⟩
    · have e' : (y == n) = false := by simpa using e
      rcases List.mem_cons.mp h with z | z
      · cases z; simp at e
      · obtain ⟨c', q⟩ := lookup_of_mem z
        exact ⟨c', by rw [List.lookup_cons, e']; exact q⟩
theorem cl_lookup {scope : Scope} {env : Env} (h : ∀ y ∈ scope.names, y.2 = .free → ∃ c, env.cells.lookup y.1 = some c) {y : Str} {c : Addr} (e : (clOf scope env).lookup y = some c) : env.cells.lookup y = some c := by
  rcases clGo_mem (PySem.mem_of_lookup e) with z | ⟨k, a, b, d⟩
  · cases z
  · obtain ⟨c', q⟩ := h _ a b
    have d' : c = (env.cells.lookup y).getD 0 := d
    have q' : env.cells.lookup y = some c' := q
    rw [q'] at d' ⊢
    exact congrArg some d'.symm
theorem cl_has {scope : Scope} {env : Env} {y : Str} (h : scope.names.lookup y = some .free) : ∃ c, (clOf scope env).lookup y = some c := by
  obtain ⟨c, q⟩ := clGo_has (env := env) (acc := []) (.inl (PySem.mem_of_lookup h))
  exact lookup_of_mem q
theorem map_kind {g : Str × NameKind → Str × NameKind} {y : Str} (h1 : ∀ p, (g p).1 = p.1) (h2 : ∀ p, p.2 ≠ .cell → (g p).2 = .cell ∨ (g p).2 = .free → p.2 = .free) :
    ∀ {ns : List (Str × NameKind)}, (∀ z ∈ ns, z.2 ≠ NameKind.cell) → ((ns.map g).lookup y = some .cell ∨ (ns.map g).lookup y = some .free) → ns.lookup y = some .free
  | [], _, h => by simp at h
  | p :: r, hc, h => by
    rw [List.map_cons] at h
    have ih := map_kind (g := g) (y := y) h1 h2 (ns := r) fun z hz => hc z (List.mem_cons_of_mem _ hz)
    have nc := hc p List.mem_cons_self
    have q1 := h1 p
    have q2 := h2 p nc
    generalize g p = q at h q1 q2
    obtain ⟨qn, qk⟩ := q
    obtain ⟨n, k⟩ := p
    have q1 : qn = n := q1
    subst q1
    have q2 : qk = .cell ∨ qk = .free → k = .free := q2
    rw [List.lookup_cons] at h ⊢
    cases e : (y == qn) with
    | true =>
      rw [e] at h
      have h' : some qk = some NameKind.cell ∨ some qk = some NameKind.free := h
      exact congrArg some (q2 (h'.imp Option.some.inj Option.some.inj))
    | false =>
      rw [e] at h
      exact ih h
theorem relabel_kind {scope : Scope} {env : Env} {y : Str} (hc : ∀ z ∈ scope.names, z.2 ≠ NameKind.cell) (h : (relabel scope env).names.lookup y = some .cell ∨ (relabel scope env).names.lookup y = some .free) : scope.names.lookup y = some .free := by
  refine map_kind (fun p => ?_) (fun p hp q => ?_) hc h
  · obtain ⟨n, k⟩ := p
    dsimp only
    split <;> rfl
  · obtain ⟨n, k⟩ := p
    dsimp only at q hp ⊢
    split at q
    · rename_i hk
      have := (Bool.and_eq_true _ _ ▸ (Bool.and_eq_true _ _ ▸ hk).1).1
      simpa using this
    · exact q.elim (fun z => absurd z hp) id
end L2

namespace L2
open PySem PySem.Spec PyProof.Rows
/-! ### comprehensions: the block's context -/
def cxComp (X : Cx) (scope : Scope) (N : List Str) (C : Addr) (fp : List Addr) (s : Shared) (H : Hp) : Cx where
  prog := X.prog
  w := X.w
  K := X.K
  mg := X.mg
  base := X.base
  A := X.A
  N := N
  s₀ := s
  H₀ := H
  env := compEnvC scope (clOf scope X.env) C X.env
  outer := X.stack
  stack := X.stack
  ex := fp
  fn := fun _ => false
  calm := X.calm
  pn := []
  xe := fun _ _ => False
/-- what the block's scope must be: n own names first, then those that are taken from around; cap: their places around -/
structure CpScope (esc scope : Scope) (EN N : List Str) (n : Nat) (cap : List Nat) : Prop where
  kind : scope.kind = .function
  cell : ∀ y ∈ scope.names, y.2 ≠ .cell
  loc : ∀ y ∈ scope.names, y.2 = .local → scope.names.lookup y.1 = some .local
  free : ∀ y ∈ scope.names, y.2 = .free → esc.names.lookup y.1 = some .cell ∨ esc.names.lookup y.1 = some .free
  nd : N.Nodup
  len : N.length = n + cap.length
  caps : ∀ j < cap.length, N[n + j]? = EN[cap.getD j 0]? ∧ ∀ x, N[n + j]? = some x → scope.names.lookup x = some .free
def cpSt (n : Nat) (cap : List Nat) (σ : St) : St := List.replicate n none ++ cap.map fun k => (σ[k]?).join
theorem cpSt_len {n : Nat} {cap : List Nat} {σ : St} : (cpSt n cap σ).length = n + cap.length := by
  unfold cpSt; rw [List.length_append, List.length_replicate, List.length_map]
theorem cpSt_get {n : Nat} {cap : List Nat} {σ : St} {i : Nat} {v : V} (h : (cpSt n cap σ)[i]? = some (some v)) : ∃ j, i = n + j ∧ j < cap.length ∧ σ[cap.getD j 0]? = some (some v) := by
  unfold cpSt at h
  by_cases hi : i < n
  · rw [List.getElem?_append_left (by simpa using hi), List.getElem?_replicate, if_pos hi] at h
    cases h
  · rw [List.getElem?_append_right (by simpa using hi), List.length_replicate, List.getElem?_map] at h
    cases e : cap[i - n]? with
    | none => rw [e] at h; cases h
    | some k =>
      rw [e] at h
      have hl : i - n < cap.length := (List.getElem?_eq_some_iff.mp e).1
      refine ⟨i - n, by omega, hl, ?_⟩
      have h' : (σ[k]?).join = some v := Option.some.inj h
      rw [List.getD_eq_getElem?_getD, e, Option.getD_some]
      cases q : σ[k]? with
      | none => rw [q] at h'; cases h'
      | some z => rw [q] at h'; exact congrArg some h'

section
variable {X : Cx} {scope esc : Scope} {EN N : List Str} {n : Nat} {cap : List Nat} {pins : List (Addr × Obj)} {σ : St} {H : Hp} {s : Shared} {fp : List Addr}
theorem inv_comp {h' : Heap} {tk : Nat} {m : Str → Option Value} (S : CpScope esc scope EN N n cap) (he : X.env.scope = esc) (hN : X.N = EN) (I : Inv X pins σ H s) (hf : ∀ b ∈ fp, FpOk X pins H b) (ho : ∀ b ∈ fp, ∃ o, s.heap.get? b = some o)
    (hns : h'.Ns s.heap.objs.size m) (k : ∀ b o, s.heap.get? b = some o → h'.get? b = some o) :
    Inv (cxComp X scope N s.heap.objs.size fp s H) [] (cpSt n cap σ) H { s with heap := h', toks := tk } := by
  have hfree : ∀ y ∈ scope.names, y.2 = .free → ∃ c, X.env.cells.lookup y.1 = some c := fun y hy hk => by
    refine I.ok.has y.1 ?_
    show X.env.scope.names.lookup y.1 = _ ∨ X.env.scope.names.lookup y.1 = _
    rw [he]; exact S.free y hy hk
  have up : ∀ {y : Str} {c : Addr}, (clOf scope X.env).lookup y = some c → X.env.cells.lookup y = some c := fun {y c} e => cl_lookup hfree e
  have kfree : ∀ y, (cxComp X scope N s.heap.objs.size fp s H).env.kindOf y = some .cell ∨ (cxComp X scope N s.heap.objs.size fp s H).env.kindOf y = some .free → scope.names.lookup y = some .free := fun y h => relabel_kind S.cell h
  have cellK : ∀ c v, s.heap.IsCell c v → h'.IsCell c v := fun c v ⟨o, e, d⟩ => ⟨o, k c o e, d⟩
  refine ⟨⟨I.ok.mod, S.kind, I.ok.glob, I.ok.blt, Nat.le_refl _, fun x y c h1 h2 => I.ok.inj x y c (up h1) (up h2), fun y hy => cl_has (kfree y hy), fun _ _ z => absurd z Bool.false_ne_true, I.ok.hd, I.ok.frames, .inl rfl, fun b hb => ⟨?_, fun x c e => (hf b hb).2.2.2.2.1 x c (up e)⟩, I.bs, Nat.le_trans I.ok.bsz I.sz, fun b o e hb => ?_, fun b hb hz => ?_, I.stack, I.stkFree⟩,
    rfl, I.bare, Un.kept k, ⟨m, hns, fun i x v e1 e2 e3 => ?_⟩, fun x c e => ?_, I.hok.fresh (Nat.le_refl _), fun x c e => I.freeC x c (up e), fun p hp => absurd (show p ∈ ([] : List (Addr × Obj)) from hp) (by simp), I.hok.kept k, ?_⟩
  · obtain ⟨o, e⟩ := ho b hb
    exact Nat.ne_of_lt (Heap.lt_size e)
  · rcases (hf b hb).2.2.2.1 with z | z
    · exact I.ok.noex b o e z
    · exact absurd (Nat.lt_of_lt_of_le (Heap.lt_size e) (Nat.le_trans I.ok.bsz z)) (Nat.lt_irrefl _)
  · rcases List.mem_cons.mp (I.stkSub b hz) with z | z
    · exact (hf b hb).2.1 z
    · exact (hf b hb).2.2.1 z
  · obtain ⟨j, rfl, hj, e4⟩ := cpSt_get e2
    obtain ⟨c1, c2⟩ := S.caps j hj
    have e1 : N[n + j]? = some x := e1
    have hfr := c2 x e1
    rw [e1, ← hN] at c1
    obtain ⟨c, hc⟩ := cl_has (env := X.env) hfr
    obtain ⟨m0, hn0, hl⟩ := I.loc
    have kx : X.env.scope.names.lookup x = some .cell ∨ X.env.scope.names.lookup x = some .free := by
      rw [he]; exact S.free (x, .free) (PySem.mem_of_lookup hfr) rfl
    obtain ⟨u, r, l⟩ := hl _ x v c1.symm e4 (kx.elim (fun z => .inr (.inl z)) fun z => .inr (.inr z))
    refine ⟨u, r, .inr ⟨?_, c, hc, ?_⟩⟩
    · rcases e3 with z | z | z
      · exfalso
        have z' : (relabel scope X.env).names.lookup x = some .local := z
        have hz : ∀ ns : List (Str × NameKind), ns.lookup x = some .free → (ns.map fun (n, k) => if (k == NameKind.free && X.env.scope.kind == .function && X.env.kindOf n == some .cell) then (n, NameKind.cell) else (n, k)).lookup x ≠ some .local := by
          intro ns
          induction ns with
          | nil => intro h; simp at h
          | cons p r ih =>
            obtain ⟨pn, pk⟩ := p
            intro h
            rw [List.map_cons]
            rw [List.lookup_cons] at h
            cases q : (x == pn) with
            | true =>
              rw [q] at h
              have h' : pk = .free := Option.some.inj h
              subst h'
              dsimp only
              split
              · rw [List.lookup_cons, q]; intro w; cases w
              · rw [List.lookup_cons, q]; intro w; cases w
            | false =>
              rw [q] at h
              dsimp only
              split
              · rw [List.lookup_cons, q]; exact ih h
              · rw [List.lookup_cons, q]; exact ih h
        exact hz _ hfr z'
      · exact .inl z
      · exact .inr z
    · rcases l with ⟨q, _⟩ | ⟨_, c', e5, z⟩
      · exfalso
        have q' : X.env.scope.names.lookup x = some .local := q
        rcases kx with w | w <;> rw [w] at q' <;> cases q'
      · rw [up hc] at e5
        cases e5
        exact cellK c _ z
  · obtain ⟨v, z⟩ := I.cell x c (up e)
    exact ⟨v, cellK c v z⟩
  · show (cpSt n cap σ).length = N.length
    rw [cpSt_len, S.len]
/-- behind the block -/
theorem inv_back {N : List Str} {C : Addr} {pj : List (Addr × Obj)} {σ' : St} {H' : Hp} {s' : Shared} (I : Inv X pins σ H s) (hf : ∀ b ∈ fp, FpOk X pins H b) (J : Inv (cxComp X scope N C fp s H) pj σ' H' s') : Inv X pins σ H' s' :=
  I.call' J.os J.base J.hok J.bare fun b hb => ⟨(hf b hb).2.2.2.1, (hf b hb).2.1, (hf b hb).2.2.2.2.1, (hf b hb).2.2.2.2.2⟩
end

section
variable {X : Cx}
/-- the tests behind if -/
def PIfs (X : Cx) (ifs : List Expr) (t : TT) : Prop :=
  ∀ (pins : List (Addr × Obj)) (s : Shared) (σ : St) (H : Hp) (Q : Bool → Hp → Prop), Inv X pins σ H s → t σ H Q →
    wpAny (model X.prog X.w) X.A (forIn ifs true fun c r => if r = true then do let ok ← isTrue c X.env (eval c X.env); pure (ForInStep.yield ok) else pure (ForInStep.yield r)) (TP X pins σ Q) X.xe s
theorem pf_one {c : Expr} {t : TT} (h : PT X c t) : PIfs X [c] t := fun pins s σ H Q I hq => wpAny_tests_one (h pins s σ H Q I hq)
end

section
variable {prog : Program} {w : World} {A : Around} {R : Result → Shared → Prop} {s : Shared}
theorem codeAny_compLoop_gen {elt target iter : Expr} {ifs : List Expr} {scope : Scope} {pos : Pos} {it acc : Value} {env : Env} (I : Nat → Shared → Prop)
    (turn : ∀ n s, I n s → wpAny (model prog w) A (pyNext it) (fun r s₁ => match r with
      | none => R (.ok .next) s₁
      | some v => wpAny (model prog w) A (letOwnedTupleGo target it v) (fun _ s₁' => wpAny (model prog w) A (assign target env v) (fun _ s₂ =>
          wpAny (model prog w) A (forIn ifs true fun c r => if r = true then do let ok ← isTrue c env (eval c env); pure (ForInStep.yield ok) else pure (ForInStep.yield r)) (fun ok s₃ =>
            if ok = true then wpAny (model prog w) A (eval elt env) (fun x s₄ =>
              wpAny (model prog w) A (call (.builtin "list.append") [acc, x]) (fun _ s₅ => ∃ m, m < n ∧ I m s₅) (fun _ _ => False) s₄) (fun _ _ => False) s₃
            else ∃ m, m < n ∧ I m s₃) (fun _ _ => False) s₂) (fun _ _ => False) s₁') (fun _ _ => False) s₁) (fun _ _ => False) s)
    (n : Nat) (h : I n s) :
    codeAny (model prog w) A (.compLoop (.ListComp elt [⟨target, iter, ifs, 0⟩] scope pos) 0 it acc env) R s := by
  refine codeAny_loop rfl I (fun n s hI => ?_) n h
  show wpAny _ A ((compTurn (.ListComp elt [⟨target, iter, ifs, 0⟩] scope pos) 0 it acc env).onRaise (fun x => do noteFrame x env; theTreesLotGoes x)) _ _ s
  refine wpAny_noted ?_
  rw [compTurn_list]
  refine wpAny_bind (wpAny_standAt (wpAny_bind (wpAny_mono (turn n s hI) (fun r s₁ h₁ => ?_) fun _ _ h' => h'.elim)))
  cases r with
  | none => exact wpAny_pure h₁
  | some v =>
    refine wpAny_bind (wpAny_mono h₁ (fun _ s₁' h₁' => ?_) fun _ _ h' => h'.elim)
    refine wpAny_bind (wpAny_mono h₁' (fun _ s₂ h₂ => wpAny_bind (wpAny_mono h₂ (fun ok s₃ h₃ => ?_) fun _ _ h' => h'.elim)) fun _ _ h' => h'.elim)
    cases ok with
    | false => exact wpAny_pure ⟨rfl, h₃⟩
    | true =>
      exact wpAny_bind (wpAny_bind (wpAny_mono h₃ (fun x s₄ h₄ => wpAny_bind (wpAny_mono h₄ (fun _ s₅ h₅ => wpAny_pure (wpAny_pure ⟨rfl, h₅⟩)) fun _ _ h' => h'.elim)) fun _ _ h' => h'.elim))
end

/-- the names that stood are as they stood -/
def Fgt (σ σ2 : St) : Prop := σ.length = σ2.length ∧ ∀ (i : Nat) v, σ[i]? = some (some v) → σ2[i]? = some (some v)
theorem Fgt.refl (σ : St) : Fgt σ σ := ⟨rfl, fun _ _ h => h⟩
theorem Fgt.set {σ σ2 : St} {i : Nat} {x : V} (h : Fgt σ σ2) (hn : σ[i]? = some none) : Fgt σ (σ2.set i (some x)) := by
  refine ⟨by rw [List.length_set]; exact h.1, fun j v e => ?_⟩
  by_cases hj : i = j
  · subst hj; rw [hn] at e; cases e
  · rw [List.getElem?_set_ne hj]; exact h.2 j v e

/-- what is walked by the block: W the invariant by the turn, a measure, the list so far -/
def cpW (J : It) (σ' : St) (g : TG) (tt : TT) (te : TE) (D : Addr) (H1 : Hp) (Q : VK) : Prop :=
  ∃ W : Nat → Nat → List V → Hp → Prop, (∃ m, W 0 m [] (upd H1 D (.lst []))) ∧ ∀ i m ys H, W i m ys H →
   ((J.stop i H ∧ Q (.ref D) H) ∨ (J.go i H ∧ ∀ x H', J.yld i H x H' → g x σ' H' fun σ2 H2 => Fgt σ' σ2 ∧ tt σ2 H2 fun b H3 =>
       if b = true then te σ2 H3 fun y H4 => H4 D = some (.lst ys) ∧ ys.length < sizeLine ∧ ∃ m', m' < m ∧ W (i + 1) m' (ys ++ [y]) (upd H4 D (.lst (ys ++ [y]))) else ∃ m', m' < m ∧ W (i + 1) m' ys H3))
def tComp (n : Nat) (cap : List Nat) (wi : TI) (g : TG) (tt : TT) (te : TE) : TE := fun σ H Q => wi σ H fun J H1 => ∀ D, H1 D = none → cpW J (cpSt n cap σ) g tt te D H1 Q

section
variable {X : Cx} {scope esc : Scope} {EN N : List Str} {n : Nat} {cap : List Nat} {pins : List (Addr × Obj)} {σ : St} {s : Shared} {elt tg iter : Expr} {ifs : List Expr} {pos : Pos} {g : TG} {tt : TT} {te : TE}
theorem comp_run {E : Value → Shared → Prop} {H : Hp} {J : It} {fp : List Addr} {it : Addr} {tn : Nat → Heap → Prop} {Q : VK} {RR : Value → Addr → Result → Shared → Prop} (S : CpScope esc scope EN N n cap) (he : X.env.scope = esc) (hN : X.N = EN) (hc : X.calm = true)
    (hg : ∀ C fp s H, PG (cxComp X scope N C fp s H) tg g) (ht : ∀ C fp s H, PIfs (cxComp X scope N C fp s H) ifs tt) (hel : ∀ C fp s H, PE (cxComp X scope N C fp s H) elt te)
    (I : Inv X pins σ H s) (T : Turn X.prog X.w X.K tg J fp it tn) (st : tn 0 s.heap) (hf : ∀ b ∈ fp, FpOk X pins H b) (hq : ∀ D, H D = none → cpW J (cpSt n cap σ) g tt te D H Q)
    (hRR : ∀ D C H' s' m, Inv X pins σ H' s' → FpOk X pins H' C → s'.heap.Ns C m → Q (.ref D) H' → RR (.ref D) C (.ok .next) s') :
    wpAny (model X.prog X.w) X.A (newList []) (fun acc s₃ => wpAny (model X.prog X.w) X.A (newFunctionEnv scope X.env.globals (clOf scope X.env) [] X.env.qual none .none (some X.env)) (fun cenv s₄ =>
      codeAny (model X.prog X.w) X.A (.compStart (.ListComp elt [⟨tg, iter, ifs, 0⟩] scope pos) 0 (.ref it) acc { cenv with scope := relabel scope X.env }) (RR acc cenv.locals) s₄) E s₃) E s := by
  refine wpAny_newObj_type (wpAny_newFunctionEnv S.cell (by intro y hy; simp at hy) (fun h₁ hns₁ hsb₁ => ?_) S.kind)
  have I3 := I.lnew (t' := s.toks) (ys := []) (its := []) .nil (Nat.zero_le _)
  have hD : H s.heap.objs.size = none := I.fresh
  obtain ⟨W, ⟨m0, w0⟩, turn⟩ := hq _ hD
  generalize hs3 : ({ s with heap := s.heap.push { cls := .type "list", data := .seq ([] : List Value).toArray }, toks := s.toks } : Shared) = s3 at I3
  have k3 : ∀ b o, s.heap.get? b = some o → s3.heap.get? b = some o := fun b o e => by rw [← hs3]; exact Heap.get?_push_of_some _ e
  have hs3' : ({ s with heap := s.heap.push { cls := .type "list", data := .seq ([] : List Value).toArray } } : Shared) = s3 := hs3
  have hh : s.heap.push { cls := .type "list", data := .seq ([] : List Value).toArray } = s3.heap := by rw [← hs3]
  dsimp only at hns₁ hsb₁ ⊢
  try rw [hh] at hns₁
  try rw [hh] at hsb₁
  have hf3 : ∀ b ∈ fp, FpOk X pins (upd H s.heap.objs.size (.lst [])) b := fun b hb => by
    refine ⟨?_, (hf b hb).2⟩
    obtain ⟨o, e, _⟩ := T.obj _ _ st b hb
    rw [upd_ne (Nat.ne_of_lt (Heap.lt_size e))]
    exact (hf b hb).1
  have k4 : ∀ b o, s3.heap.get? b = some o → h₁.get? b = some o := fun b o e => hsb₁.extBut b o (Nat.ne_of_lt (Heap.lt_size e)) (Heap.get?_push_of_some _ e)
  have ob : ∀ b ∈ fp, ∃ o, s3.heap.get? b = some o := fun b hb => by
    obtain ⟨o, e, _⟩ := T.obj _ _ st b hb
    exact ⟨o, k3 b o e⟩
  have I4 := inv_comp (tk := s3.toks) S he hN I3 hf3 ob hns₁ k4
  have st4 : tn 0 h₁ := T.keep _ _ _ st fun b _ o e => k4 b o (k3 b o e)
  have hC3 : s3.heap.objs.size ≤ s3.heap.objs.size := Nat.le_refl _
  have loop : ∀ s₃ : Shared, s₃.heap = h₁ → Inv (cxComp X scope N s3.heap.objs.size fp s3 (upd H s.heap.objs.size (.lst []))) [] (cpSt n cap σ) (upd H s.heap.objs.size (.lst [])) s₃ →
      codeAny (model X.prog X.w) X.A (.compLoop (.ListComp elt [⟨tg, iter, ifs, 0⟩] scope pos) 0 (.ref it) (.ref s.heap.objs.size) (compEnvC scope (clOf scope X.env) s3.heap.objs.size X.env)) (RR (.ref s.heap.objs.size) s3.heap.objs.size) s₃ := by
    intro s₃ e₃ I₃
    -- the iterator's records within the block
    have stat : ∀ {H' : Hp}, (∀ b ∈ fp, H' b = none) → ∀ b ∈ fp, FpOk (cxComp X scope N s3.heap.objs.size fp s3 (upd H s.heap.objs.size (.lst []))) [] H' b := fun {H'} hn b hb =>
      ⟨hn b hb, (I₃.ok.exf b hb).1, I₃.ok.exfs b hb, .inl hb, (I₃.ok.exf b hb).2, fun p hp => absurd (show p ∈ ([] : List (Addr × Obj)) from hp) (by simp)⟩
    refine codeAny_compLoop_gen (fun k s' => ∃ i ys H', Inv (cxComp X scope N s3.heap.objs.size fp s3 (upd H s.heap.objs.size (.lst []))) [] (cpSt n cap σ) H' s' ∧ tn i s'.heap ∧ (∀ b ∈ fp, H' b = none) ∧ W i k ys H') ?_ m0
      ⟨0, [], _, I₃, by rw [e₃]; exact st4, fun b hb => (hf3 b hb).1, w0⟩
    rintro k s5 ⟨i, ys, H5, I5, st5, fr5, w5⟩
    rcases turn i k ys H5 w5 with ⟨stop, q⟩ | ⟨go, step⟩
    · refine thn (T.done (cxComp X scope N s3.heap.objs.size fp s3 (upd H s.heap.objs.size (.lst []))) rfl rfl rfl hc i [] s5 _ H5 _ I5 (stat fr5) st5 stop) fun r s6 ⟨hr, I6⟩ => ?_
      subst hr
      obtain ⟨m, hn, _⟩ := I6.loc
      exact hRR _ _ H5 s6 m (inv_back I3 hf3 I6) (I3.fpOk hC3 I6.free) hn q
    · refine thn (T.item (cxComp X scope N s3.heap.objs.size fp s3 (upd H s.heap.objs.size (.lst []))) rfl rfl rfl hc i [] s5 _ H5 (fun _ _ => False) I5 (stat fr5) st5 go) fun r s6 ⟨u, hr, h6⟩ => ?_
      subst hr
      refine thn h6 fun _ s7 ⟨x, H7, I7, r7, y7, st7, fr7⟩ => ?_
      have I7' := I7.pinned (stat fr7) (T.obj _ _ st7)
      refine thn (hg _ _ _ _ _ s7 _ H7 x u _ I7' r7 (step x H7 y7)) fun _ s8 ⟨σ8, H8, I8, fg, q8⟩ => ?_
      refine thn (ht _ _ _ _ _ s8 σ8 H8 _ I8 q8) fun b s9 ⟨H9, I9, q9⟩ => ?_
      have back : ∀ {H' : Hp} {s' : Shared}, Inv (cxComp X scope N s3.heap.objs.size fp s3 (upd H s.heap.objs.size (.lst []))) ([] ++ pinsAt fp s7.heap) σ8 H' s' →
          Inv (cxComp X scope N s3.heap.objs.size fp s3 (upd H s.heap.objs.size (.lst []))) [] (cpSt n cap σ) H' s' ∧ tn (i + 1) s'.heap ∧ ∀ b ∈ fp, H' b = none := fun {H' s'} I' => by
        refine ⟨I'.unpinned.weak fg.1 fg.2, T.keep _ _ _ st7 fun b hb o e => (I'.pin (b, o) (List.mem_append_right _ (List.mem_append_right _ (mem_pinsAt hb e)))).1, fun b hb => ?_⟩
        obtain ⟨o, e, d⟩ := T.obj _ _ st7 b hb
        exact (I'.pin (b, o) (List.mem_append_right _ (List.mem_append_right _ (mem_pinsAt hb e)))).2.1
      cases b with
      | false =>
        obtain ⟨m', hm, w'⟩ := q9
        obtain ⟨b1, b2, b3⟩ := back I9
        exact ⟨m', hm, i + 1, ys, H9, b1, b2, b3, w'⟩
      | true =>
        refine thn (hel _ _ _ _ _ s9 σ8 H9 _ I9 q9) fun v s10 ⟨y, H10, I10, r10, hD10, hz, m', hm, w'⟩ => ?_
        refine thn (mt_append _ s10 σ8 H10 (.ref s.heap.objs.size) [y] (.ref s.heap.objs.size) [v] (fun z H' => z = .non ∧ H' = upd H10 s.heap.objs.size (.lst (ys ++ [y]))) I10 rfl (.cons r10 .nil) ⟨_, ys, y, rfl, rfl, hD10, hz, rfl, rfl⟩) fun z s11 ⟨y', H11, I11, _, _, e11⟩ => ?_
        subst e11
        obtain ⟨b1, b2, b3⟩ := back I11
        exact ⟨m', hm, i + 1, ys ++ [y], _, b1, b2, b3, w'⟩
  have I4' : Inv (cxComp X scope N s3.heap.objs.size fp s3 (upd H s.heap.objs.size (.lst []))) [] (cpSt n cap σ) (upd H s.heap.objs.size (.lst [])) { heap := h₁, gens := s3.gens, drawn := s3.drawn, toks := s3.toks + ([] : List (Str × Value)).length, os := s3.os } := I4
  exact codeAny_compStart_list (loop _ rfl I4') (T.self _ 0 _ _ _ st4 (loop _ rfl I4'))
/-- name = [elt for target in iter if ..], stored ahead of the block's end -/
theorem ps_comp {i : Nat} {y : Str} {py spos : Pos} (S : CpScope esc scope EN N n cap) {wi : TI} (hNd : X.N.Nodup) (hi' : X.N[i]? = some y) (hy : X.env.scope.names.lookup y = some .local) (hi : PI X tg iter wi) (hg : ∀ C fp s H, PG (cxComp X scope N C fp s H) tg g) (ht : ∀ C fp s H, PIfs (cxComp X scope N C fp s H) ifs tt) (hel : ∀ C fp s H, PE (cxComp X scope N C fp s H) elt te)
    (he : X.env.scope = esc := by rfl) (hN : X.N = EN := by rfl) (hc : X.calm = true := by rfl) (hs : ∀ x, foldedSetIterable iter X.env x = pure x := by intro _; rfl)
    (hsw : swapsWith (.ListComp elt [⟨tg, iter, ifs, 0⟩] scope pos) (some (.Name y py)) spos.line X.env = pure true := by rfl) :
    PS X (.Assign [.Name y py] (.ListComp elt [⟨tg, iter, ifs, 0⟩] scope pos) spos) (tAsg (tComp n cap wi g tt te) (gName i)) := by
  intro pins s σ H D I h
  have hclos : closureFor scope X.env = pure (clOf scope X.env) := closureFor_cl fun y hy hk => I.ok.has y.1 (by
    show X.env.scope.names.lookup y.1 = _ ∨ X.env.scope.names.lookup y.1 = _
    rw [he]; exact S.free y hy hk)
  rw [exec_Assign_Name_used _ _ _ _ hsw]
  refine wpAny_bind (wpAny_standAt (wpAny_bind ?_))
  show wpAny _ X.A (do let _ ← comprehension (.ListComp elt [⟨tg, iter, ifs, 0⟩] scope pos) scope X.env _ (newList []) false (eval iter X.env) (some (assign (.Name y py) X.env))) _ _ s
  refine wpAny_bind (wpAny_mono (wpAny_comprehension_free (use := some (assign (.Name y py) X.env)) (Q := fun _ s' => SP X pins D .next s') rfl hs hclos S.kind S.loc
    (thn (hi pins s σ H _ I h) fun v s1 h1 => thn h1 fun itv s2 h2 => ?_)) (fun _ s' hq => wpAny_pure (wpAny_pure hq)) fun _ _ e => e)
  obtain ⟨it, fp, tn, J, H2, e, I2, T, st2, f2, hq⟩ := h2
  subst e
  refine comp_run S he hN hc hg ht hel I2 T st2 f2 hq fun D' C H' s' m I' fC hn q => ?_
  show wpAny _ X.A (assign (.Name y py) X.env (.ref D')) _ _ _
  refine wpAny_assign_Name (store_ok2 (v := .ref D') I' hNd hi' (.inl hy) rfl (fun s'' I'' ch => ?_) (.inr hy))
  obtain ⟨a, hsb, ha⟩ := ch
  have hCa : C ≠ a := by
    rcases ha with z | z
    · rw [z]; exact fC.2.1
    · exact fun w => fC.2.2.2.2.1 y a z w.symm
  refine ⟨m, hn.sameBut hsb hCa, fun h' hs' => ?_⟩
  exact ⟨_, H', I''.turned (t' := s''.toks) (fun b o hb e => hs'.extBut b o hb e) fC.1 fC.2.1 fC.2.2.2.1 fC.2.2.2.2.1 fC.2.2.2.2.2, q⟩
end
end L2

namespace L2
open PySem PySem.Spec PyProof.Rows
/-! ### defs by name: a contract is a fact Has -/
structure Has (P : Program) (w : World) (K : PySem.W.Frag) (mg : Str → Option Value) (base : Heap) (x : Str) (ps : List Str) (k : Nat) (sp : Sp) : Prop where
  ex : ∃ f fd, FnOk P w K mg base CX0 k f fd ps sp ∧ Binds K fd ps [] ∧ PySem.W.keepIn K (.ref f) = true ∧ mg x = some (.ref f)
structure Df (K : PySem.W.Frag) (mg : Str → Option Value) (x : Str) (st : Stmt) (ps : List Str) : Prop where
  ex : ∃ f fd, Fun K x x st f fd ∧ Binds K fd ps [] ∧ mg x = some (.ref f)
section
variable {P : Program} {w : World} {K : PySem.W.Frag} {mg : Str → Option Value} {base : Heap} {x : Str} {st : Stmt} {ps N : List Str} {k : Nat} {sp : Sp}
end
section
variable {X : Cx} {x : Str} {ps : List Str} {k : Nat} {sp : Sp} {p pos : Pos} {e : Expr} {es : List Expr} {t : TA}
def tFn (sp : Sp) (t : TA) : TE := fun σ H Q => t σ H fun vs H1 => sp vs H1 Q E0
theorem pe_fn (h : Has X.prog X.w X.K X.mg X.base x ps k sp) (hr : Room k X.A) (hg : Gl X x) (ha : PA X (e :: es) t) (hdb : (x == ("__debug__" : Str)) = false := by decide)
    (he : starEach (e :: es) X.env = (false, eval e X.env) :: starEach es X.env := by rfl) (hpl : (backTo pos (starEach es X.env)).any (·.1) = false := by rfl) : PE X (.Call (.Name x p) (e :: es) [] pos) (tFn sp t) := by
  obtain ⟨f, fd, F, b, kp, m⟩ := h.ex
  intro pins s σ H Q I hq
  refine pe_call (dvs := []) (ds := []) F hr hg m kp b .nil pass0 ha hdb he hpl pins s σ H Q I ?_
  have hq' : t σ H fun vs H1 => sp vs H1 Q E0 := hq
  show t σ H fun vs H1 => sp (vs ++ []) H1 Q E0
  simpa only [List.append_nil] using hq'
end
/-- the built-in names that the text leaves as they are -/
structure Bl (mg : Str → Option Value) : Prop where
  len : mg "len" = none
  range : mg "range" = none
  isinstance : mg "isinstance" = none
  max : mg "max" = none
  any : mg "any" = none
  all : mg "all" = none
  int' : mg "int" = none
  bool' : mg "bool" = none
  list' : mg "list" = none
  tuple' : mg "tuple" = none
  str' : mg "str" = none
structure Kit (K : PySem.W.Frag) : Prop where
  ans : ∀ t ∈ ["NoneType", "bool", "int", "str", "list", "tuple"], ∀ c ∈ ["int", "bool", "tuple", "list", "str"], PySem.W.kitOne K (.type t) (.type c) = some (t == c || (t == "bool" && c == "int"))
/-- the kind of a value -/
inductive TyW (K : PySem.W.Frag) (H : Hp) : V → String → Prop where
  | non : TyW K H .non "NoneType"
  | bl (x : Bool) : TyW K H (.bl x) "bool"
  | int (i : Int) : TyW K H (.int i) "int"
  | str (x : Str) : TyW K H (.str x) "str"
  | lst {a : Addr} {xs : List V} (e : SqL K H a xs) : TyW K H (.ref a) "list"
  | tup {a : Addr} {xs : List V} (e : SqT K H a xs) : TyW K H (.ref a) "tuple"
section
variable {X : Cx}
def isiB (t n : String) : Bool := t == n || (t == "bool" && n == "int")
end
/-! ### data: what a value stands for, through its tuples and lists -/
mutual
def Rep (K : PySem.W.Frag) (H : Hp) : PyData → V → Prop
  | .none, v => v = .non
  | .bool b, v => v = .bl b
  | .int i, v => v = .int i
  | .str x, v => v = .str x
  | .list ds, v => ∃ a xs, v = .ref a ∧ SqL K H a xs ∧ RepAll K H ds xs
  | .tuple ds, v => ∃ a xs, v = .ref a ∧ SqT K H a xs ∧ RepAll K H ds xs
  | .dict _, _ => False
def RepAll (K : PySem.W.Frag) (H : Hp) : List PyData → List V → Prop
  | [], xs => xs = []
  | d :: ds, xs => ∃ x r, xs = x :: r ∧ Rep K H d x ∧ RepAll K H ds r
end
theorem Same.seqT [TabP] {K : PySem.W.Frag} {H H' : Hp} {a : Addr} {xs : List V} (e : Same H H') (h : SqT K H a xs) : SqT K H' a xs := by
  rcases h with (h | ⟨o, h⟩) | h
  · exact .inl (.inl (e.at' _ _ h))
  · exact .inl (.inr ⟨o, e.at' _ _ h⟩)
  · exact .inr h
section
variable {X : Cx} {pins : List (Addr × Obj)} {σ : St} {H : Hp} {s : Shared}
mutual
theorem Rep.reads (I : Inv X pins σ H s) : ∀ {d : PyData} {v : V} {u : Value}, Rep X.K H d v → RelV v u → ∃ as, Reads s.heap u d as
  | .none, _, _, h, r => by cases h; cases r; exact ⟨_, .none⟩
  | .bool _, _, _, h, r => by cases h; cases r; exact ⟨_, .bool _⟩
  | .int _, _, _, h, r => by cases h; obtain ⟨t, rfl⟩ := r; exact ⟨_, .int _ _⟩
  | .str _, _, _, h, r => by cases h; obtain ⟨t, rfl⟩ := r; exact ⟨_, .str _ _⟩
  | .list _, _, _, h, r => by
    obtain ⟨a, xs, rfl, l, q⟩ := h
    cases r
    obtain ⟨its, rv, ⟨o, n, e, c, _, d⟩, _⟩ := I.list l
    obtain ⟨as, z⟩ := RepAll.reads I q rv
    exact ⟨_, .list e c d (by simpa using z)⟩
  | .tuple _, _, _, h, r => by
    obtain ⟨a, xs, rfl, l, q⟩ := h
    cases r
    obtain ⟨its, rv, ⟨o, e, c, n, d⟩, _⟩ := I.tuple l
    obtain ⟨as, z⟩ := RepAll.reads I q rv
    exact ⟨_, .tuple e c d (by simpa using z)⟩
  | .dict _, _, _, h, _ => h.elim
theorem RepAll.reads (I : Inv X pins σ H s) : ∀ {ds : List PyData} {xs : List V} {us : List Value}, RepAll X.K H ds xs → Vals xs us → ∃ as, ReadsAll s.heap us ds as
  | [], _, _, h, r => by cases h; cases r; exact ⟨_, .nil⟩
  | _ :: _, _, _, h, r => by
    obtain ⟨x, t, rfl, a, b⟩ := h
    cases r with
    | cons r1 r2 =>
      obtain ⟨as, z1⟩ := Rep.reads I a r1
      obtain ⟨bs, z2⟩ := RepAll.reads I b r2
      exact ⟨_, .cons z1 z2⟩
end
end
section
variable {X : Cx}
def rEqD (K : PySem.W.Frag) (neg : Bool) : R2 := fun x y H Q => ∃ d e, Rep K H d x ∧ Rep K H e y ∧ SeqAt.shaped d = true ∧ SeqAt.shaped e = true ∧ Q (.bl (if neg then !PyData.eqv d e else PyData.eqv d e)) H
theorem op_eqD (hu : X.A.units + 64 < cLine) : OpR X (compareOp .Eq) (rEqD X.K false) := by
  intro pins s σ H x y v u Q I rx ry h
  obtain ⟨d, e, a, b, sa, sb, q⟩ := h
  obtain ⟨as, ra⟩ := a.reads I rx
  obtain ⟨bs, rb⟩ := b.reads I ry
  exact eq_dataH ra rb sa sb hu ⟨.bl _, H, I, rfl, q⟩
theorem op_neD (hu : X.A.units + 64 < cLine) : OpR X (compareOp .NotEq) (rEqD X.K true) := by
  intro pins s σ H x y v u Q I rx ry h
  obtain ⟨d, e, a, b, sa, sb, q⟩ := h
  obtain ⟨as, ra⟩ := a.reads I rx
  obtain ⟨bs, rb⟩ := b.reads I ry
  exact ne_dataH ra rb sa sb hu ⟨.bl _, H, I, rfl, q⟩
end
theorem repAll_ints {K : PySem.W.Frag} {H : Hp} : ∀ ns : List Int, RepAll K H (ns.map PyData.int) (ns.map V.int)
  | [] => rfl
  | n :: r => ⟨.int n, r.map V.int, rfl, rfl, repAll_ints r⟩
end L2

namespace L2
open PySem PySem.Spec PyProof.Rows
theorem bt_len : bootBuiltins "len" = some (.builtin "len") := by decide +kernel
theorem bt_max : bootBuiltins "max" = some (.builtin "max") := by decide +kernel
theorem bt_tuple : bootBuiltins "tuple" = some (.type "tuple") := by decide +kernel
variable [TabP]
/-! ### a comprehension whose element and test only make new things -/
def ItOk (J : It) (H1 : Hp) (xs : List V) : Prop := ∀ H, Same H1 H → ∀ i, (i < xs.length → J.go i H ∧ ∀ x H', J.yld i H x H' → H' = H ∧ xs[i]? = some x) ∧ (xs.length ≤ i → J.stop i H)
theorem itl_ok {K : PySem.W.Frag} {H : Hp} {a : Addr} {xs : List V} (h : SqL K H a xs) : ItOk (Itl K a) H xs := fun H' s i =>
  ⟨fun hi => ⟨⟨xs, xs[i], s.seq h, by simp [hi]⟩, fun x H'' y => ⟨y.1, y.2 xs (s.seq h)⟩⟩, fun hi => ⟨xs, s.seq h, hi⟩⟩
theorem itt_ok {K : PySem.W.Frag} {H : Hp} {a : Addr} {xs : List V} (h : SqT K H a xs) : ItOk (Itt K a) H xs := fun H' s i =>
  ⟨fun hi => ⟨⟨xs, xs[i], s.seqT h, by simp [hi]⟩, fun x H'' y => ⟨y.1, y.2 xs (s.seqT h)⟩⟩, fun hi => ⟨xs, s.seqT h, hi⟩⟩
end L2

namespace L2
open PySem PySem.Spec PyProof.Rows
end L2

namespace L2
open PySem PySem.Spec PyProof.Rows
theorem kit_all (K : PySem.W.Frag) : Kit K := ⟨by
  intro t ht c hc
  simp only [List.mem_cons, List.mem_nil_iff, or_false] at ht hc
  rcases ht with rfl | rfl | rfl | rfl | rfl | rfl <;> rcases hc with rfl | rfl | rfl | rfl | rfl <;> kernel_rfl⟩
end L2

namespace L2
open PySem PySem.Spec PyProof.Rows
/-! ### any and all of a list of bools -/
section
variable {X : Cx} {K : PySem.W.Frag}
end
end L2

namespace L2
open PySem PySem.Spec PyProof.Rows
section
variable {X : Cx}
variable [TabP]
end
end L2


set_option Elab.async false
set_option linter.all false
set_option maxRecDepth 100000
set_option maxHeartbeats 1000000
namespace L3
open PySem PySem.Spec L2
variable [L2.TabP]

/-! ### plain data, slots, the machine -/
inductive D where
  | non | bl (b : Bool) | int (i : Int) | str (x : Str) | tup (xs : List D) | lst (xs : List D) | dic (ks : List Key) (vs : List D) | fn (f : Str) | ty (n : String)
/-- a place: an epoch and a stamp -/
abbrev Pl := Int × Int × Int
/-- a tree of things that change: lists, dicts, instances -/
inductive Tr where
  | lf (d : D) | ls (ts : List Tr) | dc (ks : List Key) (ts : List Tr) | ob (c : Str) (ns : List Str) (ts : List Tr) | any | tp (ts : List Tr)
/-- whose a tree is: made here; a parameter that is changed; looked at only -/
inductive TM where
  | own | par | view
  deriving DecidableEq
inductive Slot where
  | emp | val (d : D) | ow (p : Bool) (xs : List D) | vw (xs : List D) | dct (kvs : List (Key × D)) | vd (kvs : List (Key × D)) | pd (kvs : List (Pl × D)) | vp (kvs : List (Pl × D)) | tr (m : TM) (t : Tr)
abbrev En := List Slot
structure Ob where
  cls : Str
  fs : List (Str × Slot)
abbrev Store := List Ob
inductive Out (α : Type) where
  | ok (a : α) (S : Store) | exc (c : Str) (S : Store) | bad
structure M (α : Type) : Type where
  run : Store → Out α
def M.bnd {α β : Type} (m : M α) (f : α → M β) : M β := ⟨fun S => match m.run S with
  | .ok a S' => (f a).run S'
  | .exc c S' => .exc c S'
  | .bad => .bad⟩
instance : Monad M where
  pure a := ⟨fun S => .ok a S⟩
  bind := M.bnd
omit [L2.TabP] in
theorem M.ext {α : Type} {x y : M α} (h : ∀ S, x.run S = y.run S) : x = y := by
  cases x; cases y; congr; funext S; exact h S
omit [L2.TabP] in
theorem M.bind_def {α β : Type} (m : M α) (f : α → M β) : (m >>= f) = M.bnd m f := rfl
instance : LawfulMonad M := LawfulMonad.mk'
  (id_map := fun x => M.ext fun S => by show (M.bnd x (fun a => pure (id a))).run S = x.run S; unfold M.bnd; dsimp only; cases x.run S <;> rfl)
  (pure_bind := fun x f => rfl)
  (bind_assoc := fun x f g => M.ext fun S => by show (M.bnd (M.bnd x f) g).run S = (M.bnd x (fun a => M.bnd (f a) g)).run S; unfold M.bnd; dsimp only; cases x.run S <;> rfl)
  (bind_pure_comp := fun f x => rfl)
def bad {α : Type} : M α := ⟨fun _ => .bad⟩
omit [L2.TabP] in
theorem M.inv {α β : Type} {m : M α} {f : α → M β} {S S' : Store} {b : β} (h : (m >>= f).run S = .ok b S') : ∃ a S1, m.run S = .ok a S1 ∧ (f a).run S1 = .ok b S' := by
  rw [M.bind_def] at h
  unfold M.bnd at h
  dsimp only at h
  cases e : m.run S with
  | ok a S1 => rw [e] at h; exact ⟨a, S1, rfl, h⟩
  | exc c S1 => rw [e] at h; cases h
  | bad => rw [e] at h; cases h
/-- under a condition -/
def chk (p : Prop) [Decidable p] : M Unit := if p then pure () else bad
omit [L2.TabP] in
theorem chk_inv {p : Prop} [Decidable p] {S S' : Store} {u : Unit} (h : (chk p).run S = .ok u S') : p ∧ S = S' := by
  unfold chk at h
  by_cases hp : p
  · rw [if_pos hp] at h; cases h; exact ⟨hp, rfl⟩
  · rw [if_neg hp] at h; cases h

/-- what an expression gives: a datum, a new list, a list that stands somewhere -/
inductive R where
  | v (d : D) | fr (xs : List D) | vw (xs : List D) | mv (xs : List D) | dv (kvs : List (Key × D))
abbrev ME := En → M R

/-! ### what stands for what -/
inductive Own where
  | free | out | tmp | loc (i : Nat) | tr (i : Nat) (p : List Nat)
  deriving DecidableEq
/-- who owns what stands at the path in a tree -/
def Own.at : Own → List Nat → Own
  | .loc i, p => .tr i p
  | w, _ => w
/-- the owner of a tree's things -/
def TM.ow : TM → Own → Own
  | .view, _ => .out
  | _, w => w
abbrev Ow := Addr → Own
def KLst (K : PySem.W.Frag) (a : Addr) (xs : List V) : Prop :=
  ∃ (o : Obj) (its : Array Value) (n : Nat), K.lookup a = some o ∧ o.cls = .type "list" ∧ o.dict = none ∧ o.data = .seq its n ∧ its.size ≤ sizeLine ∧ Vals xs its.toList
/-- a list that nobody changes -/
def LsF (_ : PySem.W.Frag) (O : Ow) (H : Hp) (a : Addr) (ys : List V) : Prop := H a = some (.lst ys) ∧ O a = .free
mutual
def Rep (K : PySem.W.Frag) (mg : Str → Option Value) (O : Ow) (H : Hp) : D → V → Prop
  | .non, v => v = .non
  | .bl b, v => v = .bl b
  | .int i, v => v = .int i
  | .str x, v => v = .str x
  | .tup xs, v => ∃ a ys, v = .ref a ∧ SqT K H a ys ∧ RepAll K mg O H xs ys
  | .lst xs, v => ∃ a ys, v = .ref a ∧ LsF K O H a ys ∧ RepAll K mg O H xs ys
  | .dic _ _, _ => False
  | .fn f, v => ∃ a, v = .ref a ∧ mg f = some (.ref a)
  | .ty n, v => v = .ty n
def RepAll (K : PySem.W.Frag) (mg : Str → Option Value) (O : Ow) (H : Hp) : List D → List V → Prop
  | [], ys => ys = []
  | x :: xs, ys => ∃ y r, ys = y :: r ∧ Rep K mg O H x y ∧ RepAll K mg O H xs r
end
/-- an expression's way: all that stood stands, owned as it was -/
structure Go (O O' : Ow) (H H' : Hp) : Prop where
  same : Same H H'
  own : ∀ b, H b ≠ none → O' b = O b
theorem Go.refl (O : Ow) (H : Hp) : Go O O H H := ⟨Same.refl _, fun _ _ => rfl⟩
theorem Go.trans {O O1 O2 : Ow} {H H1 H2 : Hp} (a : Go O O1 H H1) (b : Go O1 O2 H1 H2) : Go O O2 H H2 :=
  ⟨a.same.trans b.same, fun c h => (b.own c (a.same.some h)).trans (a.own c h)⟩
theorem Rd.same {H H' : Hp} (s : Same H H') {a : Addr} {u : HO} (h : Rd H a u) (n : nT u := by exact trivial) : Rd H' a u := by
  rcases h with h | ⟨o, h⟩
  · exact .inl (s.at' _ _ h n)
  · exact .inr ⟨o, s.at' _ _ h⟩
omit [L2.TabP] in
theorem Rd.some {H : Hp} {a : Addr} {u : HO} (h : Rd H a u) : H a ≠ none := by
  rcases h with h | ⟨o, h⟩ <;> rw [h] <;> intro z <;> cases z
theorem LsF.sq {K : PySem.W.Frag} {O : Ow} {H : Hp} {a : Addr} {ys : List V} (h : LsF K O H a ys) : SqL K H a ys := SqL.of h.1
/-- a list that is not changed here -/
def LsV (K : PySem.W.Frag) (O : Ow) (H : Hp) (a : Addr) (ys : List V) : Prop := (Rd H a (.lst ys) ∧ (O a = .free ∨ O a = .out)) ∨ KLst K a ys
theorem LsV.sq {K : PySem.W.Frag} {O : Ow} {H : Hp} {a : Addr} {ys : List V} (h : LsV K O H a ys) : SqL K H a ys := h.elim (fun z => .inl z.1) .inr
theorem LsV.go {K : PySem.W.Frag} {O O' : Ow} {H H' : Hp} (g : Go O O' H H') {a : Addr} {ys : List V} (h : LsV K O H a ys) : LsV K O' H' a ys := by
  rcases h with ⟨l, f⟩ | l
  · exact .inl ⟨Rd.same g.same l, by rw [g.own a (Rd.some l)]; exact f⟩
  · exact .inr l
theorem LsF.go {K : PySem.W.Frag} {O O' : Ow} {H H' : Hp} (g : Go O O' H H') {a : Addr} {ys : List V} (h : LsF K O H a ys) : LsF K O' H' a ys := by
  exact ⟨g.same.at' _ _ h.1, (g.own a (by rw [h.1]; intro z; cases z)).trans h.2⟩
section
variable {K : PySem.W.Frag} {mg : Str → Option Value} {O O' : Ow} {H H' : Hp}
mutual
theorem Rep.go (g : Go O O' H H') : ∀ {d : D} {v : V}, Rep K mg O H d v → Rep K mg O' H' d v
  | .non, _, h => h
  | .bl _, _, h => h
  | .int _, _, h => h
  | .str _, _, h => h
  | .tup _, _, h => by obtain ⟨a, ys, q, l, r⟩ := h; exact ⟨a, ys, q, g.same.seqT l, RepAll.go g r⟩
  | .lst _, _, h => by obtain ⟨a, ys, q, l, r⟩ := h; exact ⟨a, ys, q, l.go g, RepAll.go g r⟩
  | .dic _ _, _, h => h
  | .fn _, _, h => h
  | .ty _, _, h => h
theorem RepAll.go (g : Go O O' H H') : ∀ {ds : List D} {ys : List V}, RepAll K mg O H ds ys → RepAll K mg O' H' ds ys
  | [], _, h => h
  | _ :: _, _, h => by obtain ⟨x, r, q, a, b⟩ := h; exact ⟨x, r, q, Rep.go g a, RepAll.go g b⟩
end
/-- more is free -/
structure Fre (O O' : Ow) : Prop where
  fr : ∀ a, O a = .free → O' a = .free
mutual
theorem Rep.fre (g : Fre O O') : ∀ {d : D} {v : V}, Rep K mg O H d v → Rep K mg O' H d v
  | .non, _, h => h
  | .bl _, _, h => h
  | .int _, _, h => h
  | .str _, _, h => h
  | .tup _, _, h => by obtain ⟨a, ys, q, l, r⟩ := h; exact ⟨a, ys, q, l, RepAll.fre g r⟩
  | .lst _, _, h => by obtain ⟨a, ys, q, l, r⟩ := h; exact ⟨a, ys, q, ⟨l.1, g.fr _ l.2⟩, RepAll.fre g r⟩
  | .dic _ _, _, h => h
  | .fn _, _, h => h
  | .ty _, _, h => h
theorem RepAll.fre (g : Fre O O') : ∀ {ds : List D} {ys : List V}, RepAll K mg O H ds ys → RepAll K mg O' H ds ys
  | [], _, h => h
  | _ :: _, _, h => by obtain ⟨x, r, q, a, b⟩ := h; exact ⟨x, r, q, Rep.fre g a, RepAll.fre g b⟩
end
theorem RepAll.len : ∀ {ds : List D} {xs : List V}, RepAll K mg O H ds xs → xs.length = ds.length
  | [], _, h => by cases h; rfl
  | _ :: _, _, h => by obtain ⟨x, r, rfl, _, b⟩ := h; rw [List.length_cons, List.length_cons, RepAll.len b]
theorem RepAll.get : ∀ {ds : List D} {xs : List V} {i : Nat} {d : D}, RepAll K mg O H ds xs → ds[i]? = some d → ∃ x, xs[i]? = some x ∧ Rep K mg O H d x
  | [], _, _, _, _, e => by simp at e
  | _ :: _, _, 0, d, h, e => by obtain ⟨x, r, rfl, a, _⟩ := h; cases (show some _ = some d from e); exact ⟨x, rfl, a⟩
  | _ :: ds, _, i + 1, d, h, e => by
    obtain ⟨x, r, rfl, _, b⟩ := h
    obtain ⟨y, e1, e2⟩ := RepAll.get (i := i) b (by simpa using e)
    exact ⟨y, by simpa using e1, e2⟩
theorem RepAll.getV : ∀ {ds : List D} {xs : List V} {i : Nat} {x : V}, RepAll K mg O H ds xs → xs[i]? = some x → ∃ d, ds[i]? = some d ∧ Rep K mg O H d x
  | [], _, _, _, h, e => by cases h; simp at e
  | _ :: _, _, 0, x, h, e => by obtain ⟨y, r, rfl, a, _⟩ := h; cases (show some _ = some x from e); exact ⟨_, rfl, a⟩
  | _ :: ds, _, i + 1, d, h, e => by
    obtain ⟨x, r, rfl, _, b⟩ := h
    obtain ⟨y, e1, e2⟩ := RepAll.getV (i := i) b (by simpa using e)
    exact ⟨y, by simpa using e1, e2⟩
theorem RepAll.append : ∀ {ds es : List D} {xs ys : List V}, RepAll K mg O H ds xs → RepAll K mg O H es ys → RepAll K mg O H (ds ++ es) (xs ++ ys)
  | [], _, _, _, h, q => by cases h; exact q
  | _ :: _, _, _, _, h, q => by obtain ⟨x, r, rfl, a, b⟩ := h; exact ⟨x, _, rfl, a, RepAll.append b q⟩
theorem RepAll.one {d : D} {x : V} (h : Rep K mg O H d x) : RepAll K mg O H [d] [x] := ⟨x, [], rfl, h, rfl⟩
theorem RepAll.take : ∀ {ds : List D} {xs : List V} (n : Nat), RepAll K mg O H ds xs → RepAll K mg O H (ds.take n) (xs.take n)
  | [], _, _, h => by cases h; rw [List.take_nil, List.take_nil]; rfl
  | _ :: _, _, 0, _ => by rw [List.take_zero, List.take_zero]; rfl
  | _ :: _, _, n + 1, h => by obtain ⟨x, r, rfl, a, b⟩ := h; exact ⟨x, _, rfl, a, RepAll.take n b⟩
theorem RepAll.drop : ∀ {ds : List D} {xs : List V} (n : Nat), RepAll K mg O H ds xs → RepAll K mg O H (ds.drop n) (xs.drop n)
  | [], _, _, h => by cases h; rw [List.drop_nil, List.drop_nil]; rfl
  | _ :: _, _, 0, h => h
  | _ :: _, _, n + 1, h => by obtain ⟨x, r, rfl, a, b⟩ := h; exact RepAll.drop n b
theorem repAll_ints (ns : List Int) : RepAll K mg O H (ns.map D.int) (ns.map V.int) := by
  induction ns with
  | nil => rfl
  | cons n r ih => exact ⟨.int n, _, rfl, rfl, ih⟩
/-- the items of a dict -/
def RepKV (K : PySem.W.Frag) (mg : Str → Option Value) (O : Ow) (H : Hp) (kvs : List (Key × D)) (kvv : List (Key × V)) : Prop := kvs.map (·.1) = kvv.map (·.1) ∧ RepAll K mg O H (kvs.map (·.2)) (kvv.map (·.2))
theorem RepKV.go (g : Go O O' H H') {kvs : List (Key × D)} {kvv : List (Key × V)} (h : RepKV K mg O H kvs kvv) : RepKV K mg O' H' kvs kvv := ⟨h.1, h.2.go g⟩
theorem RepKV.fre (g : Fre O O') {kvs : List (Key × D)} {kvv : List (Key × V)} (h : RepKV K mg O H kvs kvv) : RepKV K mg O' H kvs kvv := ⟨h.1, h.2.fre g⟩
/-- a place, as a datum; a dict whose keys are places -/
def plD (p : Pl) : D := .tup [.int p.1, .tup [.int p.2.1, .int p.2.2]]
def plH (p : Pl) : Int := reduceHash (Builtin.Tuple.tupleHashOf [hashInt p.1, reduceHash (Builtin.Tuple.tupleHashOf [hashInt p.2.1, hashInt p.2.2])])
def plE (x : Pl × Addr × Value) : DictEntry := ⟨plH x.1, .ref x.2.1, x.2.2⟩
abbrev PD (a : Addr) (xs : List (Pl × Addr × Value)) : HO := .ext fun h => ∃ o es ep, h.get? a = some o ∧ o.ExactDict ∧ o.data = .dict es ep ∧ es.toList = xs.map plE
/-- a dict of places is no sys.modules, and no key stands in it twice -/
def PdOk (a : Addr) (xs : List (Pl × Addr × Value)) : Prop := (a == sysModules) = false ∧ (xs.map (·.1)).Nodup
def RepPD (K : PySem.W.Frag) (mg : Str → Option Value) (O : Ow) (H : Hp) : List (Pl × D) → List (Pl × Addr × Value) → Prop
  | [], xs => xs = []
  | p :: kvs, xs => ∃ x r, xs = x :: r ∧ p.1 = x.1 ∧ Rep K mg O H (plD p.1) (.ref x.2.1) ∧ (∃ v, Rep K mg O H p.2 v ∧ RelV v x.2.2) ∧ RepPD K mg O H kvs r
theorem RepPD.all {O' : Ow} {H' : Hp} (f : ∀ d v, Rep K mg O H d v → Rep K mg O' H' d v) : ∀ {kvs : List (Pl × D)} {xs : List (Pl × Addr × Value)}, RepPD K mg O H kvs xs → RepPD K mg O' H' kvs xs
  | [], _, h => h
  | _ :: _, _, h => by
    obtain ⟨x, r, e, e1, h1, ⟨v, h2, h3⟩, h4⟩ := h
    exact ⟨x, r, e, e1, f _ _ h1, ⟨v, f _ _ h2, h3⟩, RepPD.all f h4⟩
theorem RepPD.go (g : Go O O' H H') {kvs : List (Pl × D)} {xs : List (Pl × Addr × Value)} (h : RepPD K mg O H kvs xs) : RepPD K mg O' H' kvs xs := h.all fun _ _ z => Rep.go g z
theorem RepPD.fre (g : Fre O O') {kvs : List (Pl × D)} {xs : List (Pl × Addr × Value)} (h : RepPD K mg O H kvs xs) : RepPD K mg O' H kvs xs := h.all fun _ _ z => Rep.fre g z
/-- what an expression gives -/
def RepR (K : PySem.W.Frag) (mg : Str → Option Value) (O : Ow) (H : Hp) : R → V → Prop
  | .v d, v => Rep K mg O H d v
  | .fr xs, v => ∃ a ys, v = .ref a ∧ H a = some (.lst ys) ∧ O a = .tmp ∧ RepAll K mg O H xs ys
  | .vw xs, v => ∃ a ys, v = .ref a ∧ LsV K O H a ys ∧ RepAll K mg O H xs ys
  | .mv xs, v => ∃ a ys, v = .ref a ∧ H a = some (.lst ys) ∧ RepAll K mg O H xs ys
  | .dv kvs, v => ∃ a kvv, v = .ref a ∧ Rd H a (.dK kvv) ∧ RepKV K mg O H kvs kvv
theorem RepR.go (g : Go O O' H H') : ∀ {r : R} {v : V}, RepR K mg O H r v → RepR K mg O' H' r v
  | .v _, _, h => Rep.go g h
  | .fr _, _, h => by obtain ⟨a, ys, q, l, o, r⟩ := h; exact ⟨a, ys, q, g.same.at' _ _ l, (g.own a (by rw [l]; intro z; cases z)).trans o, r.go g⟩
  | .vw _, _, h => by obtain ⟨a, ys, q, l, r⟩ := h; exact ⟨a, ys, q, l.go g, r.go g⟩
  | .mv _, _, h => by obtain ⟨a, ys, q, l, r⟩ := h; exact ⟨a, ys, q, g.same.at' _ _ l, r.go g⟩
  | .dv _, _, h => by obtain ⟨a, ys, q, l, r⟩ := h; exact ⟨a, ys, q, Rd.same g.same l, r.go g⟩
/-- a tree, at the path -/
def ClsIs (K : PySem.W.Frag) (mg : Str → Option Value) (c : Str) (C : Addr) : Prop := mg c = some (.ref C) ∧ Cls K C
mutual
def TreeR (K : PySem.W.Frag) (mg : Str → Option Value) (O : Ow) (H : Hp) (w : Own) : List Nat → Tr → V → Prop
  | _, .lf d, v => Rep K mg O H d v
  | p, .ls ts, v => ∃ a ys, v = .ref a ∧ O a = w.at p ∧ H a = some (.lst ys) ∧ TreeAll K mg O H w p 0 ts ys
  | p, .dc ks ts, v => ∃ a ys, v = .ref a ∧ O a = w.at p ∧ H a = some (.dK (ks.zip ys)) ∧ (ks.length = ys.length ∧ ks.Nodup) ∧ TreeAll K mg O H w p 0 ts ys
  | p, .ob c ns ts, v => ∃ a C dx ys, v = .ref a ∧ O a = w.at p ∧ H a = some (.ins C dx (ns.zip ys)) ∧ (ns.length = ys.length ∧ ns.Nodup ∧ ClsIs K mg c C) ∧ TreeAll K mg O H w p 0 ts ys
  | _, .any, _ => True
  | p, .tp ts, v => ∃ a ys, v = .ref a ∧ O a = w.at p ∧ H a = some (.tup ys) ∧ TreeAll K mg O H w p 0 ts ys
def TreeAll (K : PySem.W.Frag) (mg : Str → Option Value) (O : Ow) (H : Hp) (w : Own) : List Nat → Nat → List Tr → List V → Prop
  | _, _, [], ys => ys = []
  | p, n, t :: ts, ys => ∃ y r, ys = y :: r ∧ TreeR K mg O H w (p ++ [n]) t y ∧ TreeAll K mg O H w p (n + 1) ts r
end
mutual
theorem TreeR.all {O' : Ow} {H' : Hp} {w : Own} (f : ∀ d v, Rep K mg O H d v → Rep K mg O' H' d v) (g : ∀ (a : Addr) (u : HO) (p : List Nat), O a = w.at p → H a = some u → nT u → O' a = w.at p ∧ H' a = some u) : ∀ (t : Tr) {p : List Nat} {v : V}, TreeR K mg O H w p t v → TreeR K mg O' H' w p t v
  | .lf _, _, _, h => f _ _ h
  | .ls ts, _, _, h => by
    obtain ⟨a, ys, e, o, l, r⟩ := h
    obtain ⟨o', l'⟩ := g _ _ _ o l trivial
    exact ⟨a, ys, e, o', l', TreeAll.all f g ts r⟩
  | .dc _ ts, _, _, h => by
    obtain ⟨a, ys, e, o, l, q, r⟩ := h
    obtain ⟨o', l'⟩ := g _ _ _ o l trivial
    exact ⟨a, ys, e, o', l', q, TreeAll.all f g ts r⟩
  | .ob _ _ ts, _, _, h => by
    obtain ⟨a, C, dx, ys, e, o, l, q, r⟩ := h
    obtain ⟨o', l'⟩ := g _ _ _ o l trivial
    exact ⟨a, C, dx, ys, e, o', l', q, TreeAll.all f g ts r⟩
  | .any, _, _, _ => trivial
  | .tp ts, _, _, h => by
    obtain ⟨a, ys, e, o, l, r⟩ := h
    obtain ⟨o', l'⟩ := g _ _ _ o l trivial
    exact ⟨a, ys, e, o', l', TreeAll.all f g ts r⟩
theorem TreeAll.all {O' : Ow} {H' : Hp} {w : Own} (f : ∀ d v, Rep K mg O H d v → Rep K mg O' H' d v) (g : ∀ (a : Addr) (u : HO) (p : List Nat), O a = w.at p → H a = some u → nT u → O' a = w.at p ∧ H' a = some u) : ∀ (ts : List Tr) {p : List Nat} {n : Nat} {ys : List V}, TreeAll K mg O H w p n ts ys → TreeAll K mg O' H' w p n ts ys
  | [], _, _, _, h => h
  | t :: ts, _, _, _, h => by
    obtain ⟨y, r, e, a, b⟩ := h
    exact ⟨y, r, e, TreeR.all f g t a, TreeAll.all f g ts b⟩
end
theorem TreeR.go {w : Own} (g : Go O O' H H') {t : Tr} {p : List Nat} {v : V} (h : TreeR K mg O H w p t v) : TreeR K mg O' H' w p t v :=
  h.all (fun _ _ z => Rep.go g z) fun a u _ o l n => ⟨(g.own a (by rw [l]; intro z; cases z)).trans o, g.same.at' _ _ l n⟩
def SlotR (K : PySem.W.Frag) (mg : Str → Option Value) (O : Ow) (H : Hp) (w : Own) : Slot → Option V → Prop
  | .emp, _ => True
  | .val d, u => ∃ v, u = some v ∧ Rep K mg O H d v
  | .ow _ xs, u => ∃ a ys, u = some (.ref a) ∧ O a = w ∧ H a = some (.lst ys) ∧ RepAll K mg O H xs ys
  | .vw xs, u => ∃ a ys, u = some (.ref a) ∧ LsV K O H a ys ∧ RepAll K mg O H xs ys
  | .dct kvs, u => ∃ a kvv, u = some (.ref a) ∧ O a = w ∧ H a = some (.dK kvv) ∧ RepKV K mg O H kvs kvv
  | .vd kvs, u => ∃ a kvv, u = some (.ref a) ∧ (Rd H a (.dK kvv) ∧ (O a = .free ∨ O a = .out)) ∧ RepKV K mg O H kvs kvv
  | .pd kvs, u => ∃ a xs, u = some (.ref a) ∧ O a = w ∧ H a = some (PD a xs) ∧ PdOk a xs ∧ RepPD K mg O H kvs xs
  | .vp kvs, u => ∃ a xs, u = some (.ref a) ∧ (Rd H a (PD a xs) ∧ (O a = .free ∨ O a = .out)) ∧ PdOk a xs ∧ RepPD K mg O H kvs xs
  | .tr m t, u => ∃ v, u = some v ∧ TreeR K mg O H (m.ow w) [] t v
theorem SlotR.go {w : Own} (g : Go O O' H H') : ∀ {s : Slot} {u : Option V}, SlotR K mg O H w s u → SlotR K mg O' H' w s u
  | .emp, _, _ => trivial
  | .val _, _, h => by obtain ⟨v, q, r⟩ := h; exact ⟨v, q, r.go g⟩
  | .ow _ _, _, h => by obtain ⟨a, ys, q, o, l, r⟩ := h; exact ⟨a, ys, q, (g.own a (by rw [l]; intro z; cases z)).trans o, g.same.at' _ _ l, r.go g⟩
  | .vw _, _, h => by
    obtain ⟨a, ys, q, l, r⟩ := h
    exact ⟨a, ys, q, l.go g, r.go g⟩
  | .dct _, _, h => by obtain ⟨a, ys, q, o, l, r⟩ := h; exact ⟨a, ys, q, (g.own a (by rw [l]; intro z; cases z)).trans o, g.same.at' _ _ l, r.go g⟩
  | .vd _, _, h => by obtain ⟨a, ys, q, l, r⟩ := h; exact ⟨a, ys, q, ⟨Rd.same g.same l.1, by rw [g.own a (Rd.some l.1)]; exact l.2⟩, r.go g⟩
  | .pd _, _, h => by obtain ⟨a, ys, q, o, l, r⟩ := h; exact ⟨a, ys, q, (g.own a (by rw [l]; intro z; cases z)).trans o, g.same.at' _ _ l, r.1, r.2.go g⟩
  | .vp _, _, h => by obtain ⟨a, ys, q, l, r⟩ := h; exact ⟨a, ys, q, ⟨Rd.same g.same l.1, by rw [g.own a (Rd.some l.1)]; exact l.2⟩, r.1, r.2.go g⟩
  | .tr _ _, _, h => by obtain ⟨v, q, r⟩ := h; exact ⟨v, q, r.go g⟩
end
theorem TM.ne {m : TM} {w : Own} {o : Own} (ho : o ≠ .out) (ht : ∀ p, o ≠ w.at p) : ∀ p, o ≠ (m.ow w).at p := fun p => by
  cases m with
  | view => exact ho
  | own => exact ht p
  | par => exact ht p
structure Dom (O : Ow) (H : Hp) : Prop where
  has : ∀ a, O a ≠ .free → H a ≠ none
  tabs : TabsOk H
structure S3 (K : PySem.W.Frag) (mg : Str → Option Value) (O : Ow) (σ : En) (S : Store) (σV : St) (H : Hp) : Prop where
  dom : Dom O H
  len : σ.length = σV.length
  loc : ∀ i s, σ[i]? = some s → SlotR K mg O H (.loc i) s (σV[i]?.join)
  emp : S = []
theorem S3.go {K : PySem.W.Frag} {mg : Str → Option Value} {O O' : Ow} {σ : En} {S : Store} {σV : St} {H H' : Hp} (h : S3 K mg O σ S σV H) (g : Go O O' H H') (d : Dom O' H') : S3 K mg O' σ S σV H' :=
  ⟨d, h.len, fun i s e => (h.loc i s e).go g, h.emp⟩
def updO (O : Ow) (a : Addr) (o : Own) : Ow := fun b => if b = a then o else O b
omit [L2.TabP] in
theorem updO_same {O : Ow} {a : Addr} {o : Own} : updO O a o a = o := if_pos rfl
omit [L2.TabP] in
theorem updO_ne {O : Ow} {a b : Addr} {o : Own} (h : b ≠ a) : updO O a o b = O b := if_neg h
section
variable {K : PySem.W.Frag} {mg : Str → Option Value} {O : Ow} {σ : En} {S : Store} {σV : St} {H : Hp} {p : Addr} {u : HO} {o : Own}
/-- a new thing -/
theorem Go.new (hp : H p = none) : Go O (updO O p o) H (upd H p u) :=
  ⟨same_new hp u, fun b hb => updO_ne (by rintro rfl; exact hb hp)⟩
theorem Go.new0 (hp : H p = none) : Go O O H (upd H p u) := ⟨same_new hp u, fun _ _ => rfl⟩
theorem Dom.new (d : Dom O H) (hp : H p = none) : Dom (updO O p o) (upd H p u) := ⟨fun a ha => by
  by_cases e : a = p
  · subst e; rw [upd_same]; intro z; cases z
  · rw [upd_ne e]; rw [updO_ne e] at ha; exact d.has a ha, d.tabs.new hp u⟩
theorem Dom.same {H' : Hp} (d : Dom O H) (s : Same H H') : Dom O H' := ⟨fun a ha => s.some (d.has a ha), s.gd d.tabs⟩
theorem S3.new (h : S3 K mg O σ S σV H) (hp : H p = none) : S3 K mg (updO O p o) σ S σV (upd H p u) := h.go (Go.new hp) (h.dom.new hp)
theorem S3.new0 (h : S3 K mg O σ S σV H) (hp : H p = none) : S3 K mg O σ S σV (upd H p u) := h.go (Go.new0 hp) (h.dom.same (same_new hp u))
end

/-! ### the judgements -/
/-- a new list is one that did not stand ahead -/
def NewR (H : Hp) : R → V → Prop
  | .fr _, v => ∀ a, v = .ref a → H a = none
  | _, _ => True
theorem NewR.back {H H1 : Hp} (s : Same H H1) : ∀ {r : R} {v : V}, NewR H1 r v → NewR H r v
  | .v _, _, _ => trivial
  | .vw _, _, _ => trivial
  | .mv _, _, _ => trivial
  | .dv _, _, _ => trivial
  | .fr _, _, h => fun a e => s.free (h a e)
def NewRs (H : Hp) : List R → List V → Prop
  | r :: rs, v :: vs => NewR H r v ∧ NewRs H rs vs
  | _, _ => True
theorem NewRs.back {H H1 : Hp} (s : Same H H1) : ∀ {rs : List R} {vs : List V}, NewRs H1 rs vs → NewRs H rs vs
  | [], _, _ => trivial
  | _ :: _, [], _ => trivial
  | _ :: _, _ :: _, h => ⟨h.1.back s, NewRs.back s h.2⟩
def PoE (K : PySem.W.Frag) (mg : Str → Option Value) (O : Ow) (σ : En) (S' : Store) (σV : St) (H : Hp) (r : R) (Q : VK) : Prop :=
  ∀ O' v H', Go O O' H H' → S3 K mg O' σ S' σV H' → RepR K mg O' H' r v → NewR H r v → Q v H'
def teOf (K : PySem.W.Frag) (mg : Str → Option Value) (m : ME) : TE := fun σV H Q => ∃ O σ S r S', S3 K mg O σ S σV H ∧ (m σ).run S = .ok r S' ∧ PoE K mg O σ S' σV H r Q
def ttOf (K : PySem.W.Frag) (mg : Str → Option Value) (m : En → M Bool) : TT := fun σV H Q => ∃ O σ S b S', S3 K mg O σ S σV H ∧ (m σ).run S = .ok b S' ∧ ∀ O' H', Go O O' H H' → S3 K mg O' σ S' σV H' → Q b H'
abbrev CE (X : Cx) (e : Expr) (m : ME) : Prop := PE X e (teOf X.K X.mg m)
abbrev CT (X : Cx) (e : Expr) (m : En → M Bool) : Prop := PT X e (ttOf X.K X.mg m)
abbrev CW (X : Cx) (e : Expr) (m : En → M Bool) : Prop := PW X e (ttOf X.K X.mg m)
def RepRs (K : PySem.W.Frag) (mg : Str → Option Value) (O : Ow) (H : Hp) : List R → List V → Prop
  | [], ys => ys = []
  | x :: xs, ys => ∃ y r, ys = y :: r ∧ RepR K mg O H x y ∧ RepRs K mg O H xs r
abbrev MA := En → M (List R)
def taOf (K : PySem.W.Frag) (mg : Str → Option Value) (m : MA) : TA := fun σV H Q => ∃ O σ S rs S', S3 K mg O σ S σV H ∧ (m σ).run S = .ok rs S' ∧ ∀ O' vs H', Go O O' H H' → S3 K mg O' σ S' σV H' → RepRs K mg O' H' rs vs → NewRs H rs vs → Q vs H'
abbrev CA (X : Cx) (es : List Expr) (m : MA) : Prop := PA X es (taOf X.K X.mg m)
theorem pe_imp {X : Cx} {e : Expr} {t t' : TE} (h : PE X e t) (i : ∀ σ H Q, t' σ H Q → t σ H Q) : PE X e t' := fun pins s σ H Q I q => h pins s σ H Q I (i _ _ _ q)
theorem pt_imp {X : Cx} {e : Expr} {t t' : TT} (h : PT X e t) (i : ∀ σ H Q, t' σ H Q → t σ H Q) : PT X e t' := fun pins s σ H Q I q => h pins s σ H Q I (i _ _ _ q)
theorem pw_imp {X : Cx} {e : Expr} {t t' : TT} (h : PW X e t) (i : ∀ σ H Q, t' σ H Q → t σ H Q) : PW X e t' := fun wh pins s σ H Q I q => h wh pins s σ H Q I (i _ _ _ q)
theorem pa_imp {X : Cx} {es : List Expr} {t t' : TA} (h : PA X es t) (i : ∀ σ H Q, t' σ H Q → t σ H Q) : PA X es t' := fun pos pins s σ H Q I q => h pos pins s σ H Q I (i _ _ _ q)

/-! ### names, constants -/
def cVar (i : Nat) : ME := fun σ => match σ[i]? with
  | some (.val d) => pure (.v d)
  | some (.ow _ xs) => pure (.mv xs)
  | some (.vw xs) => pure (.vw xs)
  | some (.dct kvs) => pure (.dv kvs)
  | some (.vd kvs) => pure (.dv kvs)
  | _ => bad
def cK (d : D) : ME := fun _ => pure (.v d)
section
variable {X : Cx} {a b c e : Expr} {ma mb mc m : ME} {ta tb : En → M Bool} {pos : Pos}
theorem ce_var (i : Nat) {x : Str} {pos : Pos} (hN : X.N[i]? = some x := by rfl) (hv : Vis X.env.scope x := by first | exact Or.inl rfl | exact Or.inr (Or.inl rfl) | exact Or.inr (Or.inr rfl)) (hd : (x == ("__debug__" : Str)) = false := by decide)
    (hcd : (x == ("__classdict__" : Str)) = false := by decide) : CE X (.Name x pos) (cVar i) := pe_imp (pe_var hN hv hd hcd) fun σV H Q ⟨O, σ, S, r, S', st, h, q⟩ => by
  unfold cVar at h
  cases e : σ[i]? with
  | none => rw [e] at h; cases h
  | some s =>
    rw [e] at h
    have l := st.loc i s e
    have get : ∀ {v : V}, σV[i]?.join = some v → σV[i]? = some (some v) := fun {v} z => by
      cases w : σV[i]? with
      | none => rw [w] at z; cases z
      | some y => rw [w] at z; exact congrArg some z
    cases s with
    | val d =>
      obtain ⟨v, e1, e2⟩ := l
      cases h
      exact ⟨v, get e1, q O v H (Go.refl _ _) st e2 trivial⟩
    | ow p xs =>
      obtain ⟨a, ys, e1, e2, e3, e4⟩ := l
      cases h
      exact ⟨_, get e1, q O _ H (Go.refl _ _) st ⟨a, ys, rfl, e3, e4⟩ trivial⟩
    | vw xs =>
      obtain ⟨a, ys, e1, e2, e4⟩ := l
      cases h
      exact ⟨_, get e1, q O _ H (Go.refl _ _) st ⟨a, ys, rfl, e2, e4⟩ trivial⟩
    | emp => cases h
    | pd k => cases h
    | vp k => cases h
    | tr _ _ => cases h
    | dct k =>
      obtain ⟨a, ys, e1, e2, e3, e4⟩ := l
      cases h
      exact ⟨_, get e1, q O _ H (Go.refl _ _) st ⟨a, ys, rfl, .inl e3, e4⟩ trivial⟩
    | vd k =>
      obtain ⟨a, ys, e1, e2, e4⟩ := l
      cases h
      exact ⟨_, get e1, q O _ H (Go.refl _ _) st ⟨a, ys, rfl, e2.1, e4⟩ trivial⟩
theorem ce_k {d : D} {v : V} (h : PE X e (tC v)) (r : ∀ O H, Rep X.K X.mg O H d v) : CE X e (cK d) := pe_imp h fun σV H Q ⟨O, σ, S, r', S', st, h, q⟩ => by
  cases h
  exact q O v H (Go.refl _ _) st (r O H) trivial
theorem ce_int {i j pos} : CE X (.Constant (.int i) j pos) (cK (.int i)) := ce_k pe_int fun _ _ => rfl
theorem ce_bl {b j pos} : CE X (.Constant (.bool b) j pos) (cK (.bl b)) := ce_k pe_bl fun _ _ => rfl
theorem ce_non {j pos} : CE X (.Constant .none j pos) (cK .non) := ce_k pe_non fun _ _ => rfl
theorem ce_str {x j pos} : CE X (.Constant (.str x) j pos) (cK (.str x)) := ce_k pe_str fun _ _ => rfl

/-! ### two-place operations -/
def c2 (f : R → R → M R) (a b : ME) : ME := fun σ => do
  let x ← a σ
  let y ← b σ
  f x y
def Bin (K : PySem.W.Frag) (mg : Str → Option Value) (r : R2) (f : R → R → M R) : Prop :=
  ∀ O σ S σV H x y rx ry r' S' (Q : VK), S3 K mg O σ S σV H → RepR K mg O H rx x → RepR K mg O H ry y → (f rx ry).run S = .ok r' S' → PoE K mg O σ S' σV H r' Q → r x y H Q
theorem c2_read {K : PySem.W.Frag} {mg : Str → Option Value} {r : R2} {f : R → R → M R} (hf : Bin K mg r f) : ∀ σV H Q, teOf K mg (c2 f ma mb) σV H Q → tOp r (teOf K mg ma) (teOf K mg mb) σV H Q := by
  rintro σV H Q ⟨O, σ, S, r', S', st, h, q⟩
  obtain ⟨x, S1, h1, h⟩ := M.inv h
  obtain ⟨y, S2, h2, h⟩ := M.inv h
  refine ⟨O, σ, S, x, S1, st, h1, fun O1 vx H1 g1 st1 rx nx => ?_⟩
  refine ⟨O1, σ, S1, y, S2, st1, h2, fun O2 vy H2 g2 st2 ry ny => ?_⟩
  exact hf O2 σ S2 σV H2 vx vy x y r' S' Q st2 (rx.go g2) ry h fun O' v H' g st' rr nn => q O' v H' ((g1.trans g2).trans g) st' rr (nn.back (g1.trans g2).same)
theorem ce_op {op : Operator} {r : R2} {f : R → R → M R} (ho : OpR X (binaryOp op) r) (hf : Bin X.K X.mg r f) (ha : CE X a ma) (hb : CE X b mb) : CE X (.BinOp a op b pos) (c2 f ma mb) := pe_imp (pe_op ho ha hb) (c2_read hf)
theorem ce_cmp {op : CmpOp} {r : R2} {f : R → R → M R} (ho : OpR X (compareOp op) r) (hf : Bin X.K X.mg r f) (ha : CE X a ma) (hb : CE X b mb) (hm : behindInMarks op b = false) : CE X (.Compare a [op] [b] pos) (c2 f ma mb) := pe_imp (pe_cmpR ho ha hb hm) (c2_read hf)
theorem ce_ix {r : R2} {f : R → R → M R} (ho : IxR X r) (hf : Bin X.K X.mg r f) (ha : CE X a ma) (hb : CE X b mb) (hs : PlainIx b) : CE X (.Subscript a b pos) (c2 f ma mb) := pe_imp (pe_ix ho ha hb hs) (c2_read hf)
/-- a truth -/
def R.tru : R → M Bool
  | .v (.bl b) => pure b
  | _ => bad
def cT (m : ME) : En → M Bool := fun σ => do
  let x ← m σ
  x.tru
omit [L2.TabP] in
theorem tru_inv {r : R} {b : Bool} {S S' : Store} (h : r.tru.run S = .ok b S') : r = .v (.bl b) ∧ S = S' := by
  cases r with
  | v d => cases d <;> cases h <;> exact ⟨rfl, rfl⟩
  | fr _ => cases h
  | vw _ => cases h
  | mv _ => cases h
  | dv _ => cases h
theorem test_read {K : PySem.W.Frag} {mg : Str → Option Value} : ∀ σV H Q, ttOf K mg (cT m) σV H Q → tTest (teOf K mg m) σV H Q := by
  rintro σV H Q ⟨O, σ, S, t, S', st, h, q⟩
  obtain ⟨x, S1, h1, h⟩ := M.inv h
  obtain ⟨rfl, rfl⟩ := tru_inv h
  exact ⟨O, σ, S, _, _, st, h1, fun O' v H' g st' rr _ => ⟨t, rr, q O' H' g st'⟩⟩
theorem tTest_imp {t t' : TE} (i : ∀ σ H Q, t' σ H Q → t σ H Q) : ∀ σ H Q, tTest t' σ H Q → tTest t σ H Q := fun σ H Q q => i _ _ _ q
theorem ct_cmp {op : CmpOp} {r : R2} {f : R → R → M R} (ho : OpR X (compareOp op) r) (hf : Bin X.K X.mg r f) (ha : CE X a ma) (hb : CE X b mb) (hm : behindInMarks op b = false) : CT X (.Compare a [op] [b] pos) (cT (c2 f ma mb)) :=
  pt_imp (pt_cmpR ho ha hb hm) fun σV H Q h => tTest_imp (c2_read hf) σV H Q (test_read σV H Q h)
/-! chains a op b op' c -/
def c3 (f g : R → R → M R) (a b c : ME) : ME := fun σ => do
  let x ← a σ
  let y ← b σ
  let z ← f x y
  let t ← z.tru
  if t = true then do
    let w ← c σ
    g y w
  else pure (.v (.bl false))

/-! ### and, or, not, if-expressions -/
def cAnd (a b : ME) : ME := fun σ => do
  let x ← a σ
  let t ← x.tru
  if t = true then b σ else pure (.v (.bl false))
def cOr (a b : ME) : ME := fun σ => do
  let x ← a σ
  let t ← x.tru
  if t = true then pure (.v (.bl true)) else b σ
def cNot (a : ME) : ME := fun σ => do
  let x ← a σ
  let t ← x.tru
  pure (.v (.bl (!t)))
def tAndM (a b : En → M Bool) : En → M Bool := fun σ => do
  let t ← a σ
  if t = true then b σ else pure false
def tOrM (a b : En → M Bool) : En → M Bool := fun σ => do
  let t ← a σ
  if t = true then pure true else b σ
def tNotM (a : En → M Bool) : En → M Bool := fun σ => do
  let t ← a σ
  pure (!t)
def cIf (t : En → M Bool) (a b : ME) : ME := fun σ => do
  let t ← t σ
  if t = true then a σ else b σ
variable {rest : List Expr}
theorem ce_not (ha : CE X a ma) : CE X (.UnaryOp .Not a pos) (cNot ma) := pe_imp (pe_not ha) fun σV H Q ⟨O, σ, S, r, S', st, h, q⟩ => by
  obtain ⟨x, S1, h1, h⟩ := M.inv h
  obtain ⟨t, S2, h2, h⟩ := M.inv h
  obtain ⟨rfl, rfl⟩ := tru_inv h2
  cases h
  exact ⟨O, σ, S, _, _, st, h1, fun O1 vx H1 g1 st1 rx nx => ⟨t, rx, q O1 _ H1 g1 st1 rfl trivial⟩⟩
theorem cw_and1 (ha : CT X a ta) : CW X (.BoolOp .And [a] pos) ta := pw_and1 ha
theorem cw_or1 (ha : CT X a ta) : CW X (.BoolOp .Or [a] pos) ta := pw_or1 ha
theorem cw_and (ha : CT X a ta) (hb : CW X (.BoolOp .And (b :: rest) pos) tb) : CW X (.BoolOp .And (a :: b :: rest) pos) (tAndM ta tb) := pw_imp (pw_and ha hb) fun σV H Q ⟨O, σ, S, r, S', st, h, q⟩ => by
  obtain ⟨t, S1, h1, h⟩ := M.inv h
  refine ⟨O, σ, S, t, S1, st, h1, fun O1 H1 g1 st1 => ?_⟩
  cases t with
  | false =>
    rw [if_neg Bool.false_ne_true] at h
    cases h
    exact iteF (q O1 H1 g1 st1)
  | true =>
    rw [if_pos rfl] at h
    exact iteT ⟨O1, σ, S1, r, S', st1, h, fun O' H' g st' => q O' H' (g1.trans g) st'⟩
theorem cw_or (ha : CT X a ta) (hb : CW X (.BoolOp .Or (b :: rest) pos) tb) : CW X (.BoolOp .Or (a :: b :: rest) pos) (tOrM ta tb) := pw_imp (pw_or ha hb) fun σV H Q ⟨O, σ, S, r, S', st, h, q⟩ => by
  obtain ⟨t, S1, h1, h⟩ := M.inv h
  refine ⟨O, σ, S, t, S1, st, h1, fun O1 H1 g1 st1 => ?_⟩
  cases t with
  | true =>
    rw [if_pos rfl] at h
    cases h
    exact iteT (q O1 H1 g1 st1)
  | false =>
    rw [if_neg Bool.false_ne_true] at h
    exact iteF ⟨O1, σ, S1, r, S', st1, h, fun O' H' g st' => q O' H' (g1.trans g) st'⟩
theorem CW.ct (h : CW X a ta) : CT X a ta := h.pt
end
end L3

set_option Elab.async false
set_option linter.all false
set_option maxRecDepth 100000
set_option maxHeartbeats 1000000
namespace L3
open PySem PySem.Spec L2
variable [L2.TabP]
/-! ### operations on ints, truths, texts, sequences -/
def oI0 (g : Int → Int → Int) : R → R → M R
  | .v (.int i), .v (.int j) => pure (.v (.int (g i j)))
  | _, _ => bad
def oI (C : Int → Int → Prop) [∀ i j, Decidable (C i j)] (g : Int → Int → Int) : R → R → M R
  | .v (.int i), .v (.int j) => if C i j then pure (.v (.int (g i j))) else bad
  | _, _ => bad
def oB (g : Int → Int → Bool) : R → R → M R
  | .v (.int i), .v (.int j) => pure (.v (.bl (g i j)))
  | _, _ => bad
section
variable {K : PySem.W.Frag} {mg : Str → Option Value}
theorem bin_I0 {g : Int → Int → Int} : Bin K mg (rI0 fun i j => .int (g i j)) (oI0 g) := fun O σ S σV H x y rx ry r' S' Q st hx hy h q => by
  unfold oI0 at h
  split at h
  · rename_i i j
    cases h
    exact ⟨i, j, hx, hy, q O _ H (Go.refl _ _) st rfl trivial⟩
  · cases h
theorem bin_I {C : Int → Int → Prop} {C' : Int → Int → Prop} [∀ i j, Decidable (C' i j)] {g : Int → Int → Int} (hC : ∀ i j, C' i j → C i j) : Bin K mg (rI C fun i j => .int (g i j)) (oI C' g) := fun O σ S σV H x y rx ry r' S' Q st hx hy h q => by
  unfold oI at h
  split at h
  · rename_i i j
    by_cases c : C' i j
    · rw [if_pos c] at h
      cases h
      exact ⟨i, j, hx, hy, hC i j c, q O _ H (Go.refl _ _) st rfl trivial⟩
    · rw [if_neg c] at h; cases h
  · cases h
theorem bin_B {g : Int → Int → Bool} : Bin K mg (rI0 fun i j => .bl (g i j)) (oB g) := fun O σ S σV H x y rx ry r' S' Q st hx hy h q => by
  unfold oB at h
  split at h
  · rename_i i j
    cases h
    exact ⟨i, j, hx, hy, q O _ H (Go.refl _ _) st rfl trivial⟩
  · cases h
end
abbrev oAdd := oI0 (· + ·)
abbrev oMod := oI (fun _ j => 0 < j) (· % ·)
abbrev oPow := oI (fun i j => 0 ≤ j ∧ j ≤ 1000000 ∧ i.natAbs < 2 ^ 64) (fun i j => i ^ j.toNat)
abbrev oLt := oB fun i j => decide (i < j)
abbrev oGt := oB fun i j => decide (j < i)
section
variable {X : Cx}
theorem bAdd : Bin X.K X.mg (rI0 fun i j => .int (i + j)) oAdd := bin_I0
theorem bMod : Bin X.K X.mg (rI (fun _ j => 0 < j) fun i j => .int (i % j)) oMod := bin_I fun _ _ h => h
theorem bPow : Bin X.K X.mg (rI CPow fun i j => .int (i ^ j.toNat)) oPow := bin_I fun _ _ h => h
theorem bLt : Bin X.K X.mg (rI0 fun i j => .bl (decide (i < j))) oLt := bin_B
theorem bGt : Bin X.K X.mg (rI0 fun i j => .bl (decide (j < i))) oGt := bin_B
end
/-- one-place -/
def c1 (f : R → M R) (a : ME) : ME := fun σ => do
  let x ← a σ
  f x
def oNeg : R → M R
  | .v (.int i) => pure (.v (.int (-i)))
  | _ => bad
/-- as a sequence: its items -/
def R.lis : R → Option (List D)
  | .v (.lst xs) => some xs
  | .fr xs => some xs
  | .vw xs => some xs
  | .mv xs => some xs
  | _ => none
def R.tpl : R → Option (List D)
  | .v (.tup xs) => some xs
  | _ => none
def R.seq (r : R) : Option (List D) := r.lis <|> r.tpl
theorem R.lis_rep {K : PySem.W.Frag} {mg : Str → Option Value} {O : Ow} {H : Hp} {r : R} {v : V} {xs : List D} (h : RepR K mg O H r v) (e : r.lis = some xs) : ∃ a ys, v = .ref a ∧ SqL K H a ys ∧ RepAll K mg O H xs ys := by
  unfold R.lis at e
  split at e
  · cases e; obtain ⟨a, ys, q, l, r⟩ := h; exact ⟨a, ys, q, l.sq, r⟩
  · cases e; obtain ⟨a, ys, q, l, _, r⟩ := h; exact ⟨a, ys, q, SqL.of l, r⟩
  · cases e; obtain ⟨a, ys, q, l, r⟩ := h; exact ⟨a, ys, q, l.sq, r⟩
  · cases e; obtain ⟨a, ys, q, l, r⟩ := h; exact ⟨a, ys, q, SqL.of l, r⟩
  · cases e
theorem R.tpl_rep {K : PySem.W.Frag} {mg : Str → Option Value} {O : Ow} {H : Hp} {r : R} {v : V} {xs : List D} (h : RepR K mg O H r v) (e : r.tpl = some xs) : ∃ a ys, v = .ref a ∧ SqT K H a ys ∧ RepAll K mg O H xs ys := by
  unfold R.tpl at e
  split at e
  · cases e; exact h
  · cases e
theorem R.seq_rep {K : PySem.W.Frag} {mg : Str → Option Value} {O : Ow} {H : Hp} {r : R} {v : V} {xs : List D} (h : RepR K mg O H r v) (e : r.seq = some xs) : ∃ a ys, v = .ref a ∧ (SqL K H a ys ∨ SqT K H a ys) ∧ RepAll K mg O H xs ys := by
  unfold R.seq at e
  cases e1 : r.lis with
  | some zs => rw [e1] at e; cases e; obtain ⟨a, ys, q, l, r⟩ := R.lis_rep h e1; exact ⟨a, ys, q, .inl l, r⟩
  | none => rw [e1] at e; obtain ⟨a, ys, q, l, r⟩ := R.tpl_rep h e; exact ⟨a, ys, q, .inr l, r⟩
theorem RepAll.atI {K : PySem.W.Frag} {mg : Str → Option Value} {O : Ow} {H : Hp} {ds : List D} {xs : List V} {i : Int} {d : D} (h : RepAll K mg O H ds xs) (e : atI ds i = some d) : ∃ x, L2.atI xs i = some x ∧ Rep K mg O H d x := by
  unfold L2.atI at e ⊢
  rw [h.len]
  cases q : ixN ds.length i with
  | none => rw [q] at e; cases e
  | some j => rw [q] at e; exact h.get e
/-- a[i] -/
def oIx : R → R → M R
  | .v (.str z), .v (.int i) => match atI z.cps.toList i with
    | some c => if z.length ≤ sizeLine then pure (.v (.str ⟨#[c]⟩)) else bad
    | none => bad
  | x, .v (.int i) => match x.seq with
    | some xs => match atI xs i with
      | some d => pure (.v d)
      | none => bad
    | none => bad
  | _, _ => bad
theorem bIx {K : PySem.W.Frag} {mg : Str → Option Value} : Bin K mg (rIx K) oIx := fun O σ S σV H x y rx ry r' S' Q st hx hy h q => by
  unfold oIx at h
  split at h
  · rename_i z i
    split at h
    · rename_i c e2
      by_cases hz : z.length ≤ sizeLine
      · rw [if_pos hz] at h
        cases h
        exact .inr (.inr ⟨z, i, c, hx, hy, hz, e2, q O _ H (Go.refl _ _) st rfl trivial⟩)
      · rw [if_neg hz] at h; cases h
    · cases h
  · rename_i i _
    split at h
    · rename_i xs e
      split at h
      · rename_i d e2
        cases h
        obtain ⟨a, ys, rfl, l, ra⟩ := R.seq_rep hx e
        obtain ⟨z, e3, rz⟩ := RepAll.atI ra e2
        have hQ := q O z H (Go.refl _ _) st rz trivial
        rcases l with l | l
        · exact .inl ⟨a, ys, i, z, rfl, hy, l, e3, hQ⟩
        · exact .inr (.inl ⟨a, ys, i, z, rfl, hy, l, e3, hQ⟩)
      · cases h
    · cases h
  · cases h
/-! ### lists of expressions, displays -/
def cNil : MA := fun _ => pure []
def cCons (m : ME) (ms : MA) : MA := fun σ => do
  let x ← m σ
  let xs ← ms σ
  pure (x :: xs)
section
variable {X : Cx} {e : Expr} {es : List Expr} {m : ME} {ms : MA} {pos : Pos}
theorem ca_nil : CA X [] cNil := pa_imp pa_nil fun σV H Q ⟨O, σ, S, r, S', st, h, q⟩ => by
  cases h
  exact q O [] H (Go.refl _ _) st rfl trivial
theorem ca_cons (ha : CE X e m) (hr : CA X es ms) (hs : starEach (e :: es) X.env = (false, eval e X.env) :: starEach es X.env := by rfl) : CA X (e :: es) (cCons m ms) := pa_imp (pa_cons ha hr hs) fun σV H Q ⟨O, σ, S, r, S', st, h, q⟩ => by
  obtain ⟨x, S1, h1, h⟩ := M.inv h
  obtain ⟨xs, S2, h2, h⟩ := M.inv h
  cases h
  refine ⟨O, σ, S, x, S1, st, h1, fun O1 vx H1 g1 st1 rx nx => ?_⟩
  refine ⟨O1, σ, S1, xs, _, st1, h2, fun O2 vs H2 g2 st2 rs ns => ?_⟩
  exact q O2 (vx :: vs) H2 (g1.trans g2) st2 ⟨vx, vs, rfl, rx.go g2, rs⟩ ⟨nx, ns.back g1.same⟩
end
/-- as a datum (a new list: from now on nobody changes it) -/
def R.dat : R → M D
  | .v d => pure d
  | .fr xs => pure (.lst xs)
  | _ => bad
def dats : List R → M (List D)
  | [] => pure []
  | r :: rs => do
    let d ← r.dat
    let ds ← dats rs
    pure (d :: ds)
/-- what is new since H₀ and nobody's is free from now on -/
def frz (H₀ : Hp) (O : Ow) : Ow := fun b => match H₀ b, O b with
  | none, .tmp => .free
  | _, o => o
theorem frz_old {H₀ : Hp} {O : Ow} {b : Addr} (h : H₀ b ≠ none) : frz H₀ O b = O b := by
  unfold frz
  cases e : H₀ b with
  | none => exact absurd e h
  | some o => cases O b <;> rfl
theorem frz_tmp {H₀ : Hp} {O : Ow} {b : Addr} (h : H₀ b = none) (t : O b = .tmp) : frz H₀ O b = .free := by unfold frz; rw [h, t]
theorem frz_not {H₀ : Hp} {O : Ow} {b : Addr} (t : O b ≠ .tmp) : frz H₀ O b = O b := by
  unfold frz
  cases e : H₀ b <;> cases e2 : O b <;> first | rfl | exact absurd e2 t
theorem frz_fre (H₀ : Hp) (O : Ow) : Fre O (frz H₀ O) := ⟨fun a h => by rw [frz_not (by rw [h]; intro z; cases z), h]⟩
theorem SlotR.fre {K : PySem.W.Frag} {mg : Str → Option Value} {O O' : Ow} {H : Hp} {w : Own} (g : Fre O O') (ho : ∀ a, O a = .out → O' a = .out) (hw : ∀ a, O a = w → O' a = w) (ht : ∀ a p, O a = w.at p → O' a = w.at p) : ∀ {s : Slot} {u : Option V}, SlotR K mg O H w s u → SlotR K mg O' H w s u
  | .emp, _, _ => trivial
  | .val _, _, h => by obtain ⟨v, q, r⟩ := h; exact ⟨v, q, r.fre g⟩
  | .ow _ _, _, h => by obtain ⟨a, ys, q, o, l, r⟩ := h; exact ⟨a, ys, q, hw a o, l, r.fre g⟩
  | .vw _, _, h => by
    obtain ⟨a, ys, q, l, r⟩ := h
    refine ⟨a, ys, q, l.imp (fun z => ⟨z.1, z.2.imp (g.fr a) (ho a)⟩) id, r.fre g⟩
  | .dct _, _, h => by obtain ⟨a, ys, q, o, l, r⟩ := h; exact ⟨a, ys, q, hw a o, l, r.fre g⟩
  | .vd _, _, h => by obtain ⟨a, ys, q, l, r⟩ := h; exact ⟨a, ys, q, ⟨l.1, l.2.imp (g.fr a) (ho a)⟩, r.fre g⟩
  | .pd _, _, h => by obtain ⟨a, ys, q, o, l, r⟩ := h; exact ⟨a, ys, q, hw a o, l, r.1, r.2.fre g⟩
  | .vp _, _, h => by obtain ⟨a, ys, q, l, r⟩ := h; exact ⟨a, ys, q, ⟨l.1, l.2.imp (g.fr a) (ho a)⟩, r.1, r.2.fre g⟩
  | .tr m _, _, h => by
    obtain ⟨v, q, r⟩ := h
    refine ⟨v, q, r.all (fun _ _ z => Rep.fre g z) fun a _ p o l _ => ⟨?_, l⟩⟩
    cases m with
    | view => exact ho a o
    | own => exact ht a p o
    | par => exact ht a p o
section
variable {K : PySem.W.Frag} {mg : Str → Option Value} {O : Ow} {σ : En} {S : Store} {σV : St} {H H₀ : Hp}
theorem S3.frz (h : S3 K mg O σ S σV H) (H₀ : Hp) : S3 K mg (frz H₀ O) σ S σV H :=
  ⟨⟨fun a ha => h.dom.has a fun z => ha (by rw [frz_not (by rw [z]; intro w; cases w), z]), h.dom.tabs⟩, h.len,
   fun i s e => (h.loc i s e).fre (frz_fre _ _) (fun a z => by rw [frz_not (by rw [z]; intro w; cases w), z]) (fun a z => by rw [frz_not (by rw [z]; intro w; cases w), z]) (fun a p z => by rw [frz_not (by rw [z]; intro w; cases w), z]), h.emp⟩
theorem Go.frz {O₀ : Ow} (g : Go O₀ O H₀ H) : Go O₀ (frz H₀ O) H₀ H := ⟨g.same, fun b hb => (frz_old hb).trans (g.own b hb)⟩
theorem dat_rep {r : R} {v : V} {d : D} {S' : Store} (hr : RepR K mg O H r v) (hn : NewR H₀ r v) (h : r.dat.run S = .ok d S') : Rep K mg (L3.frz H₀ O) H d v ∧ S = S' := by
  cases r with
  | v d' => cases h; exact ⟨Rep.fre (frz_fre _ _) hr, rfl⟩
  | fr xs =>
    cases h
    obtain ⟨a, ys, rfl, l, t, ra⟩ := hr
    exact ⟨⟨a, ys, rfl, ⟨l, frz_tmp (hn a rfl) t⟩, RepAll.fre (frz_fre _ _) ra⟩, rfl⟩
  | vw xs => cases h
  | mv xs => cases h
  | dv _ => cases h
theorem dats_rep : ∀ {rs : List R} {vs : List V} {ds : List D} {S S' : Store}, RepRs K mg O H rs vs → NewRs H₀ rs vs → (dats rs).run S = .ok ds S' → RepAll K mg (L3.frz H₀ O) H ds vs ∧ S = S'
  | [], vs, ds, S, S', hr, _, h => by cases h; exact ⟨hr, rfl⟩
  | r :: rs, vs, ds, S, S', hr, hn, h => by
    obtain ⟨d, S1, h1, h⟩ := M.inv h
    obtain ⟨ds', S2, h2, h⟩ := M.inv h
    cases h
    obtain ⟨v, vr, rfl, r1, r2⟩ := hr
    obtain ⟨q1, rfl⟩ := dat_rep (H₀ := H₀) r1 hn.1 h1
    obtain ⟨q2, rfl⟩ := dats_rep r2 hn.2 h2
    exact ⟨⟨v, vr, rfl, q1, q2⟩, rfl⟩
end
def cTup (ms : MA) : ME := fun σ => do
  let rs ← ms σ
  let ds ← dats rs
  chk (ds.length ≤ 1000)
  pure (.v (.tup ds))
def cLst (ms : MA) : ME := fun σ => do
  let rs ← ms σ
  let ds ← dats rs
  chk (ds.length ≤ 1000)
  pure (.fr ds)
section
variable {X : Cx} {e : Expr} {es : List Expr} {m : ME} {ms : MA} {pos : Pos}
theorem ce_tup {x1} (h : CA X es ms) : CE X (.Tuple es x1 pos) (cTup ms) := pe_imp (pe_tup h) fun σV H Q ⟨O, σ, S, r, S', st, h, q⟩ => by
  obtain ⟨rs, S1, h1, h⟩ := M.inv h
  obtain ⟨ds, S2, h2, h⟩ := M.inv h
  obtain ⟨_, S3', h3, h⟩ := M.inv h
  obtain ⟨hl, rfl⟩ := chk_inv h3
  cases h
  refine ⟨O, σ, S, rs, S1, st, h1, fun O1 vs H1 g1 st1 rr nn => ?_⟩
  obtain ⟨ra, rfl⟩ := dats_rep (H₀ := H) rr nn h2
  refine ⟨Nat.le_of_lt (small1000 (by rw [ra.len]; exact hl)), fun p hp => ?_⟩
  exact q (frz H O1) _ _ (g1.frz.trans (Go.new0 hp)) ((st1.frz H).new0 hp) ⟨p, vs, rfl, SqT.of upd_same, ra.go (Go.new0 hp)⟩ trivial
theorem ce_lst (h : CA X es ms) : CE X (.List es pos) (cLst ms) := pe_imp (pe_lst h) fun σV H Q ⟨O, σ, S, r, S', st, h, q⟩ => by
  obtain ⟨rs, S1, h1, h⟩ := M.inv h
  obtain ⟨ds, S2, h2, h⟩ := M.inv h
  obtain ⟨_, S3', h3, h⟩ := M.inv h
  obtain ⟨hl, rfl⟩ := chk_inv h3
  cases h
  refine ⟨O, σ, S, rs, S1, st, h1, fun O1 vs H1 g1 st1 rr nn => ?_⟩
  obtain ⟨ra, rfl⟩ := dats_rep (H₀ := H) rr nn h2
  refine ⟨Nat.le_of_lt (small1000 (by rw [ra.len]; exact hl)), fun p hp => ?_⟩
  refine q (updO (frz H O1) p .tmp) _ _ (g1.frz.trans (Go.new hp)) ((st1.frz H).new hp) ⟨p, vs, rfl, upd_same, updO_same, ra.go (Go.new hp)⟩ fun a ea => ?_
  cases ea
  exact g1.same.free hp
end
/-! ### calls of built-in functions and kinds -/
def cB (f : List R → M R) (ms : MA) : ME := fun σ => do
  let rs ← ms σ
  f rs
def BinC (K : PySem.W.Frag) (mg : Str → Option Value) (r : List V → Hp → VK → Prop) (f : List R → M R) : Prop :=
  ∀ O σ S σV H xs rs r' S' (Q : VK), S3 K mg O σ S σV H → RepRs K mg O H rs xs → (f rs).run S = .ok r' S' → PoE K mg O σ S' σV H r' Q → r xs H Q
section
variable {X : Cx} {e : Expr} {es : List Expr} {ms : MA} {pos p : Pos} {x : Str} {id T : String} {r : List V → Hp → VK → Prop} {f : List R → M R}
theorem cB_read {K : PySem.W.Frag} {mg : Str → Option Value} (hf : BinC K mg r f) : ∀ σV H Q, teOf K mg (cB f ms) σV H Q → tCB r (taOf K mg ms) σV H Q := by
  rintro σV H Q ⟨O, σ, S, r', S', st, h, q⟩
  obtain ⟨rs, S1, h1, h⟩ := M.inv h
  refine ⟨O, σ, S, rs, S1, st, h1, fun O1 vs H1 g1 st1 rr nn => ?_⟩
  exact hf O1 σ S1 σV H1 vs rs r' S' Q st1 rr h fun O' v H' g st' rr' nn' => q O' v H' (g1.trans g) st' rr' (nn'.back g1.same)
theorem ce_callB (hc : CallR X (.builtin id) r) (hf : BinC X.K X.mg r f) (hg : Gl X x) (hm : X.mg x = none) (hv : bootBuiltins x = some (.builtin id)) (ha : CA X (e :: es) ms) (hn : x ≠ "__name__" := by decide) (hdb : (x == ("__debug__" : Str)) = false := by decide)
    (he : starEach (e :: es) X.env = (false, eval e X.env) :: starEach es X.env := by rfl) (hpl : (backTo pos (starEach es X.env)).any (·.1) = false := by rfl) : CE X (.Call (.Name x p) (e :: es) [] pos) (cB f ms) :=
  pe_imp (pe_callB hc hg hm hv ha hn hdb he hpl) (cB_read hf)
theorem ce_callTy (hc : CallR X (.type T) r) (hf : BinC X.K X.mg r f) (hg : Gl X x) (hm : X.mg x = none) (hv : bootBuiltins x = some (.type T)) (ha : CA X (e :: es) ms) (hn : x ≠ "__name__" := by decide) (hdb : (x == ("__debug__" : Str)) = false := by decide)
    (he : starEach (e :: es) X.env = (false, eval e X.env) :: starEach es X.env := by rfl) (hpl : (backTo pos (starEach es X.env)).any (·.1) = false := by rfl) : CE X (.Call (.Name x p) (e :: es) [] pos) (cB f ms) :=
  pe_imp (pe_callTy hc hg hm hv ha hn hdb he hpl) (cB_read hf)
end
def fLen : List R → M R
  | [x] => match x.seq with
    | some xs => pure (.v (.int (xs.length : Nat)))
    | none => bad
  | _ => bad
def fLenS : List R → M R
  | [.v (.str z)] => if z.length ≤ sizeLine then pure (.v (.int (z.length : Nat))) else bad
  | _ => bad
def R.kind : R → Option String
  | .v .non => some "NoneType"
  | .v (.bl _) => some "bool"
  | .v (.int _) => some "int"
  | .v (.str _) => some "str"
  | .v (.tup _) => some "tuple"
  | .v (.lst _) => some "list"
  | .fr _ => some "list"
  | .vw _ => some "list"
  | .mv _ => some "list"
  | _ => none
def fIsi : List R → M R
  | [x, .v (.ty n)] => match x.kind with
    | some t => if n ∈ ["int", "bool", "tuple", "list", "str"] then pure (.v (.bl (isiB t n))) else bad
    | none => bad
  | _ => bad
def f2I (g : Int → Int → Int) : List R → M R
  | [.v (.int i), .v (.int j)] => pure (.v (.int (g i j)))
  | _ => bad
def fAbs : List R → M R
  | [.v (.int i)] => pure (.v (.int (if i < 0 then -i else i)))
  | _ => bad
def bls : List D → Option (List Bool)
  | [] => some []
  | .bl b :: r => (bls r).map (b :: ·)
  | _ => none
def fAny : List R → M R
  | [x] => match x.lis.bind bls with
    | some bs => pure (.v (.bl (bs.any id)))
    | none => bad
  | _ => bad
def fAll : List R → M R
  | [x] => match x.lis.bind bls with
    | some bs => pure (.v (.bl (bs.all id)))
    | none => bad
  | _ => bad
def fInt : List R → M R
  | [.v (.int i)] => pure (.v (.int i))
  | [.v (.bl b)] => pure (.v (.int (if b then 1 else 0)))
  | _ => bad
def fList : List R → M R
  | [x] => match x.seq with
    | some xs => pure (.fr xs)
    | none => bad
  | _ => bad
def fTuple : List R → M R
  | [x] => match x.seq with
    | some xs => pure (.v (.tup xs))
    | none => bad
  | _ => bad
section
variable {K : PySem.W.Frag} {mg : Str → Option Value}
theorem reps1 {O : Ow} {H : Hp} {r : R} {vs : List V} (h : RepRs K mg O H [r] vs) : ∃ v, vs = [v] ∧ RepR K mg O H r v := by
  obtain ⟨v, r', rfl, a, b⟩ := h; cases b; exact ⟨v, rfl, a⟩
theorem kLen : BinC K mg (fun xs H Q => ∃ p ys, xs = [.ref p] ∧ (SqL K H p ys ∨ SqT K H p ys) ∧ Q (.int ys.length) H) fLen := fun O σ S σV H vs rs r' S' Q st hr h q => by
  unfold fLen at h
  split at h
  · rename_i x
    obtain ⟨v, rfl, hx⟩ := reps1 hr
    split at h
    · rename_i xs e
      cases h
      obtain ⟨a, ys, rfl, l, ra⟩ := R.seq_rep hx e
      exact ⟨a, ys, rfl, l, by rw [ra.len]; exact q O _ H (Go.refl _ _) st rfl trivial⟩
    · cases h
  · cases h
theorem kTuple : BinC K mg (fun xs H Q => ∃ p ys, xs = [.ref p] ∧ ((SqL K H p ys ∧ ∀ l, H l = none → Q (.ref l) (upd H l (.tup ys))) ∨ (SqT K H p ys ∧ Q (.ref p) H))) fTuple := fun O σ S σV H vs rs r' S' Q st hr h q => by
  unfold fTuple at h
  split at h
  · rename_i x
    obtain ⟨v, rfl, hx⟩ := reps1 hr
    split at h
    · rename_i xs e
      cases h
      obtain ⟨a, ys, rfl, l, ra⟩ := R.seq_rep hx e
      refine ⟨a, ys, rfl, ?_⟩
      rcases l with l | l
      · exact .inl ⟨l, fun p hp => q O _ _ (Go.new0 hp) (st.new0 hp) ⟨p, ys, rfl, SqT.of upd_same, ra.go (Go.new0 hp)⟩ trivial⟩
      · exact .inr ⟨l, q O _ _ (Go.refl _ _) st ⟨a, ys, rfl, l, ra⟩ trivial⟩
    · cases h
  · cases h
end
end L3

set_option Elab.async false
set_option linter.all false
set_option maxRecDepth 100000
set_option maxHeartbeats 1000000
namespace L3
open PySem PySem.Spec L2
variable [L2.TabP]
/-! ### slices -/
def cutD {α : Type} (xs : List α) (lo hi : Option Int) : List α := (xs.drop (HT.sIx xs.length 0 lo)).take (HT.sIx xs.length xs.length hi - HT.sIx xs.length 0 lo)
theorem RepAll.cut {K : PySem.W.Frag} {mg : Str → Option Value} {O : Ow} {H : Hp} {ds : List D} {xs : List V} (h : RepAll K mg O H ds xs) (lo hi : Option Int) : RepAll K mg O H (cutD ds lo hi) (cutV xs lo hi) := by
  unfold cutD cutV
  rw [h.len]
  exact (h.drop _).take _
abbrev MO := En → M (Option Int)
def toOf (K : PySem.W.Frag) (mg : Str → Option Value) (m : MO) : TO := fun σV H Q => ∃ O σ S b S', S3 K mg O σ S σV H ∧ (m σ).run S = .ok b S' ∧ ∀ O' H', Go O O' H H' → S3 K mg O' σ S' σV H' → Q b H'
abbrev CO (X : Cx) (e : Option Expr) (m : MO) : Prop := PO X e (toOf X.K X.mg m)
def cNoPart : MO := fun _ => pure none
def cPart (m : ME) : MO := fun σ => do
  let r ← m σ
  match r with
  | .v (.int i) => pure (some i)
  | _ => bad
def oSl (x : R) (lo hi : Option Int) : M R :=
  match x with
  | .v (.tup xs) => if HT.sIx xs.length 0 lo = 0 ∧ HT.sIx xs.length xs.length hi = xs.length then bad else pure (.v (.tup (cutD xs lo hi)))
  | _ => match x.lis with
    | some xs => pure (.fr (cutD xs lo hi))
    | none => bad
def cSl (a : ME) (lo hi : MO) : ME := fun σ => do
  let x ← a σ
  let l ← lo σ
  let h ← hi σ
  oSl x l h
section
variable {X : Cx} {e : Expr} {m : ME} {lo hi : Option Expr} {ml mh : MO} {pos p2 : Pos}
theorem co_none : CO X none cNoPart := fun pins s σV H Q I ⟨O, σ, S, r, S', st, h, q⟩ => by
  cases h
  exact po_none pins s σV H Q I (q O H (Go.refl _ _) st)
theorem co_some (he : CE X e m) : CO X (some e) (cPart m) := fun pins s σV H Q I ⟨O, σ, S, r, S', st, h, q⟩ => by
  obtain ⟨x, S1, h1, h⟩ := M.inv h
  split at h
  · rename_i i
    cases h
    exact po_some he pins s σV H Q I ⟨O, σ, S, _, _, st, h1, fun O1 v H1 g1 st1 rr _ => ⟨i, rr, q O1 H1 g1 st1⟩⟩
  · cases h
theorem ce_slice (he : CE X e m) (hl : CO X lo ml) (hu : CO X hi mh) : CE X (.Subscript e (.Slice lo hi none p2) pos) (cSl m ml mh) := pe_imp (pe_slice (sl_list.or sl_tup) he hl hu) fun σV H Q ⟨O, σ, S, r, S', st, h, q⟩ => by
  obtain ⟨x, S1, h1, ha⟩ := M.inv h
  clear h
  obtain ⟨l, S2, h2, hb⟩ := M.inv ha
  clear ha
  obtain ⟨u, S3', h3, h⟩ := M.inv hb
  clear hb
  refine ⟨O, σ, S, x, S1, st, h1, fun O1 vx H1 g1 st1 rx nx => ?_⟩
  refine ⟨O1, σ, S1, l, S2, st1, h2, fun O2 H2 g2 st2 => ?_⟩
  refine ⟨O2, σ, S2, u, S3', st2, h3, fun O3 H3 g3 st3 => ?_⟩
  have g := (g1.trans g2).trans g3
  have rx3 := rx.go (g2.trans g3)
  unfold oSl at h
  split at h
  · rename_i xs
    by_cases c : HT.sIx xs.length 0 l = 0 ∧ HT.sIx xs.length xs.length u = xs.length
    · rw [if_pos c] at h; cases h
    · rw [if_neg c] at h
      cases h
      obtain ⟨a, ys, rfl, l1, ra⟩ := rx3
      exact .inr ⟨a, ys, rfl, l1, by rw [ra.len]; exact c, fun p hp => q O3 _ _ (g.trans (Go.new0 hp)) (st3.new0 hp) ⟨p, _, rfl, SqT.of upd_same, (ra.cut l u).go (Go.new0 hp)⟩ trivial⟩
  · split at h
    · rename_i xs e1
      cases h
      obtain ⟨a, ys, rfl, l1, ra⟩ := R.lis_rep rx3 e1
      refine .inl ⟨a, ys, rfl, l1, fun p hp => q (updO O3 p .tmp) _ _ (g.trans (Go.new hp)) (st3.new hp) ⟨p, _, rfl, upd_same, updO_same, (ra.cut l u).go (Go.new hp)⟩ fun b eb => ?_⟩
      cases eb
      exact g.same.free hp
    · cases h
end
/-! ### + of lists, tuples, texts -/
def R.own : R → Option (List D)
  | .v (.lst xs) => some xs
  | .fr xs => some xs
  | .mv xs => some xs
  | _ => none
def oCatL (x y : R) : M R := match x.own, y.own with
  | some xs, some ys => if xs.length + ys.length ≤ sizeLine then pure (.fr (xs ++ ys)) else bad
  | _, _ => bad
def oCatT : R → R → M R
  | .v (.tup xs), .v (.tup ys) => if xs.length + ys.length ≤ sizeLine then pure (.v (.tup (xs ++ ys))) else bad
  | _, _ => bad
def oCatS : R → R → M R
  | .v (.str x), .v (.str y) => if x.length + y.length ≤ sizeLine then pure (.v (.str (x ++ y))) else bad
  | _, _ => bad
section
variable {K : PySem.W.Frag} {mg : Str → Option Value}
end
/-! ### == -/
def D.py : D → PyData
  | .non => .none
  | .bl b => .bool b
  | .int i => .int i
  | .str x => .str x
  | .tup xs => .tuple (pys xs)
  | .lst xs => .list (pys xs)
  | .dic _ _ => .none
  | .fn _ => .none
  | .ty _ => .none
where pys : List D → List PyData
  | [] => []
  | x :: xs => x.py :: pys xs
mutual
/-- what may be compared: no objects, at most n deep -/
def D.gd : D → Nat → Bool
  | .non, _ => true
  | .bl _, _ => true
  | .int _, _ => true
  | .str x, _ => PySem.PyData.strOk x
  | .tup xs, n => match n with
    | 0 => false
    | k + 1 => gdAll xs k
  | .lst xs, n => match n with
    | 0 => false
    | k + 1 => gdAll xs k
  | .dic _ _, _ => false
  | .fn _, _ => false
  | .ty _, _ => false
def gdAll : List D → Nat → Bool
  | [], _ => true
  | x :: xs, n => x.gd n && gdAll xs n
end
mutual
def peq : D → D → Bool
  | .non, b => match b with | .non => true | _ => false
  | .bl a, b => match b with | .bl c => a == c | .int j => (if a then 1 else 0) == j | _ => false
  | .int i, b => match b with | .bl c => i == (if c then 1 else 0) | .int j => i == j | _ => false
  | .str x, b => match b with | .str y => x == y | _ => false
  | .tup xs, b => match b with | .tup ys => peqAll xs ys | _ => false
  | .lst xs, b => match b with | .lst ys => peqAll xs ys | _ => false
  | .dic _ _, _ => false
  | .fn _, _ => false
  | .ty _, _ => false
def peqAll : List D → List D → Bool
  | [], ys => match ys with | [] => true | _ => false
  | x :: xs, ys => match ys with | [] => false | y :: r => peq x y && peqAll xs r
end
mutual
theorem eqv_py : ∀ (a b : D) (n m : Nat), a.gd n = true → b.gd m = true → PyData.eqv a.py b.py = peq a b
  | .non, b, n, m, ha, hb => by cases b <;> first | rfl | (simp [D.gd] at hb)
  | .bl _, b, n, m, ha, hb => by cases b <;> first | rfl | (simp [D.gd] at hb)
  | .int _, b, n, m, ha, hb => by cases b <;> first | rfl | (simp [D.gd] at hb)
  | .str _, b, n, m, ha, hb => by cases b <;> first | rfl | (simp [D.gd] at hb)
  | .tup xs, b, n, m, ha, hb => by
    cases b with
    | tup ys =>
      cases n with
      | zero => simp [D.gd] at ha
      | succ k =>
        cases m with
        | zero => simp [D.gd] at hb
        | succ j => exact eqv_pys xs ys k j ha hb
    | dic _ _ => simp [D.gd] at hb
    | fn _ => simp [D.gd] at hb
    | ty _ => simp [D.gd] at hb
    | _ => rfl
  | .lst xs, b, n, m, ha, hb => by
    cases b with
    | lst ys =>
      cases n with
      | zero => simp [D.gd] at ha
      | succ k =>
        cases m with
        | zero => simp [D.gd] at hb
        | succ j => exact eqv_pys xs ys k j ha hb
    | dic _ _ => simp [D.gd] at hb
    | fn _ => simp [D.gd] at hb
    | ty _ => simp [D.gd] at hb
    | _ => rfl
  | .dic _ _, b, n, m, ha, hb => by simp [D.gd] at ha
  | .fn _, b, n, m, ha, hb => by simp [D.gd] at ha
  | .ty _, b, n, m, ha, hb => by simp [D.gd] at ha
theorem eqv_pys : ∀ (xs ys : List D) (n m : Nat), gdAll xs n = true → gdAll ys m = true → PyData.eqvAll (D.py.pys xs) (D.py.pys ys) = peqAll xs ys
  | [], ys, n, m, ha, hb => by cases ys <;> rfl
  | x :: xs, ys, n, m, ha, hb => by
    cases ys with
    | nil => rfl
    | cons y r =>
      rw [gdAll, Bool.and_eq_true] at ha hb
      show (PyData.eqv x.py y.py && PyData.eqvAll (D.py.pys xs) (D.py.pys r)) = (peq x y && peqAll xs r)
      rw [eqv_py x y n m ha.1 hb.1, eqv_pys xs r n m ha.2 hb.2]
end
mutual
theorem gd_lay : ∀ (a : D) (n : Nat), a.gd n = true → a.py.canLay0 = true ∧ a.py.depth ≤ n
  | .non, n, h => ⟨rfl, Nat.zero_le _⟩
  | .bl _, n, h => ⟨rfl, Nat.zero_le _⟩
  | .int _, n, h => ⟨rfl, Nat.zero_le _⟩
  | .str _, n, h => ⟨h, Nat.zero_le _⟩
  | .tup xs, n, h => by
    cases n with
    | zero => simp [D.gd] at h
    | succ k => obtain ⟨q1, q2⟩ := gd_lays xs k h; exact ⟨q1, Nat.succ_le_succ q2⟩
  | .lst xs, n, h => by
    cases n with
    | zero => simp [D.gd] at h
    | succ k => obtain ⟨q1, q2⟩ := gd_lays xs k h; exact ⟨q1, Nat.succ_le_succ q2⟩
  | .dic _ _, n, h => by simp [D.gd] at h
  | .fn _, n, h => by simp [D.gd] at h
  | .ty _, n, h => by simp [D.gd] at h
theorem gd_lays : ∀ (xs : List D) (n : Nat), gdAll xs n = true → PyData.canLayAll0 (D.py.pys xs) = true ∧ PyData.depthAll (D.py.pys xs) ≤ n
  | [], n, h => ⟨rfl, Nat.zero_le _⟩
  | x :: xs, n, h => by
    rw [gdAll, Bool.and_eq_true] at h
    obtain ⟨a1, a2⟩ := gd_lay x n h.1
    obtain ⟨b1, b2⟩ := gd_lays xs n h.2
    exact ⟨by show (x.py.canLay0 && PyData.canLayAll0 (D.py.pys xs)) = true; rw [a1, b1]; rfl, by show max x.py.depth (PyData.depthAll (D.py.pys xs)) ≤ n; omega⟩
end
theorem gd_shaped {a : D} (h : a.gd 64 = true) : SeqAt.shaped a.py = true := by
  obtain ⟨h1, h2⟩ := gd_lay a 64 h
  show (a.py.canLay0 && decide (a.py.depth ≤ 64)) = true
  rw [h1, decide_eq_true h2]; rfl
mutual
theorem Rep.py {K : PySem.W.Frag} {mg : Str → Option Value} {O : Ow} {H : Hp} : ∀ {d : D} {v : V} {n : Nat}, d.gd n = true → Rep K mg O H d v → L2.Rep K H d.py v
  | .non, _, _, _, h => h
  | .bl _, _, _, _, h => h
  | .int _, _, _, _, h => h
  | .str _, _, _, _, h => h
  | .tup _, _, n, g, h => by
    cases n with
    | zero => simp [D.gd] at g
    | succ k => obtain ⟨a, ys, q, l, r⟩ := h; exact ⟨a, ys, q, l, RepAll.py (n := k) g r⟩
  | .lst _, _, n, g, h => by
    cases n with
    | zero => simp [D.gd] at g
    | succ k => obtain ⟨a, ys, q, l, r⟩ := h; exact ⟨a, ys, q, l.sq, RepAll.py (n := k) g r⟩
  | .dic _ _, _, _, g, h => by simp [D.gd] at g
  | .fn _, _, _, g, h => by simp [D.gd] at g
  | .ty _, _, _, g, h => by simp [D.gd] at g
theorem RepAll.py {K : PySem.W.Frag} {mg : Str → Option Value} {O : Ow} {H : Hp} : ∀ {ds : List D} {ys : List V} {n : Nat}, gdAll ds n = true → RepAll K mg O H ds ys → L2.RepAll K H (D.py.pys ds) ys
  | [], _, _, _, h => h
  | _ :: _, _, n, g, h => by
    rw [gdAll, Bool.and_eq_true] at g
    obtain ⟨x, r, q, a, b⟩ := h
    exact ⟨x, r, q, Rep.py g.1 a, RepAll.py g.2 b⟩
end
/-- as a datum that is looked at only -/
def R.arg : R → D
  | .v d => d
  | .fr xs => .lst xs
  | .vw xs => .lst xs
  | .mv xs => .lst xs
  | .dv kvs => .dic (kvs.map (·.1)) (kvs.map (·.2))
theorem R.arg_py {K : PySem.W.Frag} {mg : Str → Option Value} {O : Ow} {H : Hp} {r : R} {v : V} {n : Nat} (g : r.arg.gd n = true) (h : RepR K mg O H r v) : L2.Rep K H r.arg.py v := by
  have lis : ∀ xs, r.lis = some xs → (D.lst xs).gd n = true → L2.Rep K H (D.lst xs).py v := fun xs e g => by
    obtain ⟨a, ys, q, l, ra⟩ := R.lis_rep h e
    cases n with
    | zero => simp [D.gd] at g
    | succ k => exact ⟨a, ys, q, l, RepAll.py (n := k) g ra⟩
  cases r with
  | v d => exact Rep.py g h
  | fr xs => exact lis xs rfl g
  | vw xs => exact lis xs rfl g
  | mv xs => exact lis xs rfl g
  | dv kvs => simp [R.arg, D.gd] at g
def oEq (x y : R) : M R := if x.arg.gd 64 = true ∧ y.arg.gd 64 = true then pure (.v (.bl (peq x.arg y.arg))) else bad
def oNe (x y : R) : M R := if x.arg.gd 64 = true ∧ y.arg.gd 64 = true then pure (.v (.bl (!peq x.arg y.arg))) else bad
section
variable {K : PySem.W.Frag} {mg : Str → Option Value}
theorem bEq : Bin K mg (rEqD K false) oEq := fun O σ S σV H x y rx ry r' S' Q st hx hy h q => by
  unfold oEq at h
  by_cases c : rx.arg.gd 64 = true ∧ ry.arg.gd 64 = true
  · rw [if_pos c] at h
    cases h
    refine ⟨_, _, R.arg_py c.1 hx, R.arg_py c.2 hy, gd_shaped c.1, gd_shaped c.2, ?_⟩
    rw [if_neg Bool.false_ne_true, eqv_py _ _ _ _ c.1 c.2]
    exact q O _ H (Go.refl _ _) st rfl trivial
  · rw [if_neg c] at h; cases h
theorem bNe : Bin K mg (rEqD K true) oNe := fun O σ S σV H x y rx ry r' S' Q st hx hy h q => by
  unfold oNe at h
  by_cases c : rx.arg.gd 64 = true ∧ ry.arg.gd 64 = true
  · rw [if_pos c] at h
    cases h
    refine ⟨_, _, R.arg_py c.1 hx, R.arg_py c.2 hy, gd_shaped c.1, gd_shaped c.2, ?_⟩
    rw [if_pos rfl, eqv_py _ _ _ _ c.1 c.2]
    exact q O _ H (Go.refl _ _) st rfl trivial
  · rw [if_neg c] at h; cases h
end
/-! ### is None, is True, in -/
def R.isN : R → Bool
  | .v .non => true
  | _ => false
def oIsN (x : R) : R → M R
  | .v .non => pure (.v (.bl x.isN))
  | _ => bad
def oNotN (x : R) : R → M R
  | .v .non => pure (.v (.bl (!x.isN)))
  | _ => bad
def oIsB : R → R → M R
  | .v (.bl a), .v (.bl b) => pure (.v (.bl (decide (a = b))))
  | _, _ => bad
def oNotB : R → R → M R
  | .v (.bl a), .v (.bl b) => pure (.v (.bl (!decide (a = b))))
  | _, _ => bad
section
variable {K : PySem.W.Frag} {mg : Str → Option Value}
end
section
variable {K : PySem.W.Frag} {mg : Str → Option Value}
end
end L3

set_option Elab.async false
set_option linter.all false
set_option maxRecDepth 100000
set_option maxHeartbeats 1000000
namespace L3
open PySem PySem.Spec L2
variable [L2.TabP]
/-! ### statements -/
inductive Fl where
  | nx (σ : En) | rt (r : R) | bk (σ : En) | ct (σ : En)
abbrev MS := En → M Fl
/-- what never changes -/
def Fix (o : HO) : Prop := (∃ xs, o = .tup xs) ∨ ∃ ob u, o = .frz ob u
/-- a statement's way: what is free or of others stands as it stood -/
structure Gs (O O' : Ow) (H H' : Hp) : Prop where
  cells : ∀ b o, H b = some o → (O b = .free ∨ O b = .out ∨ Fix o) → (h : nT o := by exact trivial) → H' b = some o
  own : ∀ b, H b ≠ none → (O b = .free ∨ O b = .out) → O' b = O b
  has : ∀ b, H b ≠ none → H' b ≠ none
  tb : ∀ b ps, H b = some (.tbl ps) → ∃ ps', H' b = some (.tbl ps')
  gd : TabsOk H → TabsOk H'
theorem Go.gs {O O' : Ow} {H H' : Hp} (g : Go O O' H H') : Gs O O' H H' := ⟨fun b o e _ n => g.same.at' b o e n, fun b h _ => g.own b h, fun _ h => g.same.some h, g.same.tb, g.same.gd⟩
theorem Gs.refl (O : Ow) (H : Hp) : Gs O O H H := (Go.refl O H).gs
theorem Gs.trans {O O1 O2 : Ow} {H H1 H2 : Hp} (a : Gs O O1 H H1) (b : Gs O1 O2 H1 H2) : Gs O O2 H H2 := by
  have some' : ∀ {b : Addr} {o : HO}, H b = some o → H b ≠ none := fun e z => by rw [e] at z; cases z
  refine ⟨fun c o e h n => ?_, fun c h f => ?_, fun c h => b.has c (a.has c h), fun c ps h => let ⟨p1, e1⟩ := a.tb c ps h; b.tb c p1 e1, fun g => b.gd (a.gd g)⟩
  · have e1 := a.cells c o e h n
    rcases h with h | h | h
    · exact b.cells c o e1 (.inl ((a.own c (some' e) (.inl h)).trans h)) n
    · exact b.cells c o e1 (.inr (.inl ((a.own c (some' e) (.inr h)).trans h))) n
    · exact b.cells c o e1 (.inr (.inr h)) n
  · have e1 := a.own c h f
    rw [b.own c (a.has c h) (by rw [e1]; exact f), e1]
/-- what is looked at only stays -/
def Kp (σ σ' : En) (σV σV' : St) : Prop := (∀ (i : Nat) (xs : List D), σ'[i]? = some (Slot.vw xs) → σ[i]? = some (Slot.vw xs) ∧ σV'[i]? = σV[i]?) ∧
  (∀ (i : Nat) (ys : List D), σ'[i]? = some (Slot.ow true ys) → (∃ xs, σ[i]? = some (Slot.ow true xs)) ∧ σV'[i]? = σV[i]?) ∧
  ∀ (i : Nat) (m : TM) (t : Tr), σ'[i]? = some (Slot.tr m t) → m ≠ .own → (∃ t0, σ[i]? = some (Slot.tr m t0) ∧ (m = .view → t0 = t)) ∧ σV'[i]? = σV[i]?
theorem Kp.refl (σ : En) (σV : St) : Kp σ σ σV σV := ⟨fun _ _ h => ⟨h, rfl⟩, fun _ _ h => ⟨⟨_, h⟩, rfl⟩, fun _ _ _ h _ => ⟨⟨_, h, fun _ => rfl⟩, rfl⟩⟩
theorem Kp.trans {σ σ1 σ2 : En} {v v1 v2 : St} (a : Kp σ σ1 v v1) (b : Kp σ1 σ2 v1 v2) : Kp σ σ2 v v2 := ⟨fun i xs h => ⟨(a.1 i xs (b.1 i xs h).1).1, (b.1 i xs h).2.trans (a.1 i xs (b.1 i xs h).1).2⟩, fun i ys h => by
  obtain ⟨⟨xs, e⟩, q⟩ := b.2.1 i ys h
  obtain ⟨z, q'⟩ := a.2.1 i xs e
  exact ⟨z, q.trans q'⟩, fun i m t h hm => by
  obtain ⟨⟨t1, e, f⟩, q⟩ := b.2.2 i m t h hm
  obtain ⟨⟨t0, e', f'⟩, q'⟩ := a.2.2 i m t1 e hm
  exact ⟨⟨t0, e', fun z => (f' z).trans (f z)⟩, q.trans q'⟩⟩
/-- a slot is written anew where it stands -/
theorem Kp.put {σ : En} {σV : St} {i : Nat} {s s0 : Slot} (h0 : σ[i]? = some s0) (hv : ∀ xs, s ≠ .vw xs) (ho : ∀ xs, s = .ow true xs → ∃ ys, s0 = .ow true ys) (ht : ∀ m t, s = .tr m t → m ≠ .own → m ≠ .view ∧ ∃ t0, s0 = .tr m t0) : Kp σ (σ.set i s) σV σV := by
  have hlt : i < σ.length := (List.getElem?_eq_some_iff.mp h0).1
  have key : ∀ (j : Nat) (t : Slot), (σ.set i s)[j]? = some t → (i = j ∧ t = s) ∨ (i ≠ j ∧ σ[j]? = some t) := fun j t h => by
    by_cases hj : i = j
    · subst hj
      rw [List.getElem?_set_self hlt] at h
      exact .inl ⟨rfl, (Option.some.inj h).symm⟩
    · rw [List.getElem?_set_ne hj] at h
      exact .inr ⟨hj, h⟩
  refine ⟨fun j xs h => ?_, fun j ys h => ?_, fun j m t h hm => ?_⟩
  · rcases key j _ h with ⟨_, e⟩ | ⟨_, e⟩
    · exact absurd e.symm (hv xs)
    · exact ⟨e, rfl⟩
  · rcases key j _ h with ⟨rfl, e⟩ | ⟨_, e⟩
    · obtain ⟨zs, e'⟩ := ho ys e.symm
      exact ⟨⟨zs, e' ▸ h0⟩, rfl⟩
    · exact ⟨⟨_, e⟩, rfl⟩
  · rcases key j _ h with ⟨rfl, e⟩ | ⟨_, e⟩
    · obtain ⟨nv, t0, e'⟩ := ht m t e.symm hm
      exact ⟨⟨t0, e' ▸ h0, fun z => absurd z nv⟩, rfl⟩
    · exact ⟨⟨_, e, fun _ => rfl⟩, rfl⟩
def RetR (K : PySem.W.Frag) (mg : Str → Option Value) (O : Ow) (H : Hp) : R → V → Prop
  | .v d, v => Rep K mg O H d v
  | .fr xs, v => ∃ a ys, v = .ref a ∧ H a = some (.lst ys) ∧ (O a = .tmp ∨ ∃ i, O a = .loc i) ∧ RepAll K mg O H xs ys
  | _, _ => False
def PoN (K : PySem.W.Frag) (mg : Str → Option Value) (O : Ow) (σ : En) (S' : Store) (σV : St) (H : Hp) (σ' : En) (N : St → Hp → Prop) : Prop :=
  ∀ O' σV' H', Gs O O' H H' → S3 K mg O' σ' S' σV' H' → Kp σ σ' σV σV' → N σV' H'
def PoS (K : PySem.W.Frag) (mg : Str → Option Value) (O : Ow) (σ : En) (S' : Store) (σV : St) (H : Hp) (fl : Fl) (Dn : Ends) : Prop := match fl with
  | .nx σ' => PoN K mg O σ S' σV H σ' Dn.nx
  | .bk σ' => PoN K mg O σ S' σV H σ' Dn.bk
  | .ct σ' => PoN K mg O σ S' σV H σ' Dn.ct
  | .rt r => ∀ O' v H', Gs O O' H H' → Dom O' H' → S' = [] → RetR K mg O' H' r v → Dn.rt v H'
theorem PoN.gs {K : PySem.W.Frag} {mg : Str → Option Value} {O O1 : Ow} {σ σ1 σ' : En} {S' : Store} {σV σV1 : St} {H H1 : Hp} {N : St → Hp → Prop} (h : PoN K mg O σ S' σV H σ' N) (g : Gs O O1 H H1) (k : Kp σ σ1 σV σV1) : PoN K mg O1 σ1 S' σV1 H1 σ' N :=
  fun O' σV' H' g' st k' => h O' σV' H' (g.trans g') st (k.trans k')
theorem PoS.gs {K : PySem.W.Frag} {mg : Str → Option Value} {O O1 : Ow} {σ σ1 : En} {S' : Store} {σV σV1 : St} {H H1 : Hp} {fl : Fl} {Dn : Ends} (h : PoS K mg O σ S' σV H fl Dn) (g : Gs O O1 H H1) (k : Kp σ σ1 σV σV1) : PoS K mg O1 σ1 S' σV1 H1 fl Dn := by
  cases fl with
  | nx σ' => exact PoN.gs h g k
  | bk σ' => exact PoN.gs h g k
  | ct σ' => exact PoN.gs h g k
  | rt r => exact fun O' v H' g' d e r => h O' v H' (g.trans g') d e r
def tsOf (K : PySem.W.Frag) (mg : Str → Option Value) (m : MS) : TS := fun Dn σV H => ∃ O σ S fl S', S3 K mg O σ S σV H ∧ (m σ).run S = .ok fl S' ∧ PoS K mg O σ S' σV H fl Dn
abbrev CS (X : Cx) (st : Stmt) (m : MS) : Prop := PS X st (tsOf X.K X.mg m)
abbrev CSs (X : Cx) (sts : List Stmt) (m : MS) : Prop := PSs X sts (tsOf X.K X.mg m)
theorem ps_imp {X : Cx} {s : Stmt} {t t' : TS} (h : PS X s t) (i : ∀ D σ H, t' D σ H → t D σ H) : PS X s t' := fun pins s σ H D I q => h pins s σ H D I (i _ _ _ q)
theorem pss_imp {X : Cx} {s : List Stmt} {t t' : TS} (h : PSs X s t) (i : ∀ D σ H, t' D σ H → t D σ H) : PSs X s t' := fun pins s σ H D I q => h pins s σ H D I (i _ _ _ q)
def cPass : MS := fun σ => pure (.nx σ)
def cBrk : MS := fun σ => pure (.bk σ)
def cCnt : MS := fun σ => pure (.ct σ)
def cRetN : MS := fun _ => pure (.rt (.v .non))
def cSeq (a b : MS) : MS := fun σ => do
  let fl ← a σ
  match fl with
  | .nx σ' => b σ'
  | fl => pure fl
def cRet (m : ME) : MS := fun σ => do
  let r ← m σ
  match r with
  | .v d => pure (.rt (.v d))
  | .fr xs => pure (.rt (.fr xs))
  | _ => bad
/-- return of an own list -/
def cRetO (i : Nat) : MS := fun σ => match σ[i]? with
  | some (.ow false xs) => pure (.rt (.fr xs))
  | _ => bad
def cIfS (t : En → M Bool) (a b : MS) : MS := fun σ => do
  let t ← t σ
  if t = true then a σ else b σ
def cDrop (m : ME) : MS := fun σ => do
  let _ ← m σ
  pure (.nx σ)
/-- x = e -/
def cSet (i : Nat) (m : ME) : MS := fun σ => do
  let r ← m σ
  let d ← r.dat
  pure (.nx (σ.set i (.val d)))
/-- x = e, a new list that is x's own -/
def cOwn (i : Nat) (m : ME) : MS := fun σ => do
  let r ← m σ
  match r with
  | .fr xs => pure (.nx (σ.set i (.ow false xs)))
  | _ => bad
section
variable {X : Cx} {st : Stmt} {rest : List Stmt} {pos : Pos} {a b : MS} {e : Expr} {m : ME}
theorem cs_pass : CS X (.Pass pos) cPass := ps_imp ps_pass fun D σV H ⟨O, σ, S, fl, S', st, h, q⟩ => by cases h; exact q O σV H (Gs.refl _ _) st (Kp.refl _ _)
theorem css_nil : CSs X [] cPass := pss_imp pss_nil fun D σV H ⟨O, σ, S, fl, S', st, h, q⟩ => by cases h; exact q O σV H (Gs.refl _ _) st (Kp.refl _ _)
theorem css_one (h : CS X st a) : CSs X [st] a := pss_one h
theorem css_cons (h1 : CS X st a) (h2 : CSs X rest b) : CSs X (st :: rest) (cSeq a b) := pss_imp (pss_cons h1 h2) fun D σV H ⟨O, σ, S, fl, S', st, h, q⟩ => by
  obtain ⟨f1, S1, h1, h⟩ := M.inv h
  refine ⟨O, σ, S, f1, S1, st, h1, ?_⟩
  cases f1 with
  | nx σ1 => exact fun O1 σV1 H1 g1 st1 k1 => ⟨O1, σ1, S1, fl, S', st1, h, q.gs g1 k1⟩
  | rt r => cases h; exact q
  | bk σ1 => cases h; exact q
  | ct σ1 => cases h; exact q
theorem ret_of {K : PySem.W.Frag} {mg : Str → Option Value} {O : Ow} {H : Hp} {r : R} {v : V} (h : RepR K mg O H r v) (hr : (∃ d, r = .v d) ∨ ∃ xs, r = .fr xs) : RetR K mg O H r v := by
  rcases hr with ⟨d, rfl⟩ | ⟨xs, rfl⟩
  · exact h
  · obtain ⟨a, ys, q, l, t, ra⟩ := h; exact ⟨a, ys, q, l, .inl t, ra⟩
theorem cs_ret (he : CE X e m) : CS X (.Return (some e) pos) (cRet m) := ps_imp (ps_ret he) fun D σV H ⟨O, σ, S, fl, S', st, h, q⟩ => by
  obtain ⟨r, S1, h1, h⟩ := M.inv h
  refine ⟨O, σ, S, r, S1, st, h1, fun O1 v H1 g1 st1 rr nn => ?_⟩
  cases r with
  | v d => cases h; exact q O1 v H1 g1.gs st1.dom st1.emp rr
  | fr xs => cases h; exact q O1 v H1 g1.gs st1.dom st1.emp (ret_of rr (.inr ⟨_, rfl⟩))
  | vw xs => cases h
  | mv xs => cases h
  | dv _ => cases h
theorem cs_retO (i : Nat) {x : Str} {p : Pos} (hN : X.N[i]? = some x := by rfl) (hv : Vis X.env.scope x := by first | exact Or.inl rfl | exact Or.inr (Or.inl rfl) | exact Or.inr (Or.inr rfl)) (hd : (x == ("__debug__" : Str)) = false := by decide)
    (hcd : (x == ("__classdict__" : Str)) = false := by decide) : CS X (.Return (some (.Name x p)) pos) (cRetO i) := ps_imp (ps_ret (pe_var hN hv hd hcd)) fun D σV H ⟨O, σ, S, fl, S', st, h, q⟩ => by
  unfold cRetO at h
  cases e : σ[i]? with
  | none => rw [e] at h; cases h
  | some s =>
    rw [e] at h
    have l := st.loc i s e
    cases s with
    | ow p xs =>
      obtain ⟨a, ys, e1, e2, e3, e4⟩ := l
      cases p with
      | true => cases h
      | false =>
      cases h
      refine ⟨.ref a, ?_, q O _ H (Gs.refl _ _) st.dom st.emp ⟨a, ys, rfl, e3, .inr ⟨i, e2⟩, e4⟩⟩
      cases w : σV[i]? with
      | none => rw [w] at e1; cases e1
      | some y => rw [w] at e1; exact congrArg some e1
    | val d => cases h
    | vw d => cases h
    | emp => cases h
    | dct d => cases h
    | vd d => cases h
    | pd d => cases h
    | vp d => cases h
    | tr _ _ => cases h
theorem cs_if {c : Expr} {A B : List Stmt} {t : En → M Bool} (hc : CT X c t) (ha : CSs X A a) (hb : CSs X B b) : CS X (.If c A B pos) (cIfS t a b) := ps_imp (ps_if hc ha hb) fun D σV H ⟨O, σ, S, fl, S', st, h, q⟩ => by
  obtain ⟨t, S1, h1, h⟩ := M.inv h
  refine ⟨O, σ, S, t, S1, st, h1, fun O1 H1 g1 st1 => ?_⟩
  cases t with
  | false =>
    rw [if_neg Bool.false_ne_true] at h
    exact iteF ⟨O1, σ, S1, fl, S', st1, h, q.gs g1.gs (Kp.refl _ _)⟩
  | true =>
    rw [if_pos rfl] at h
    exact iteT ⟨O1, σ, S1, fl, S', st1, h, q.gs g1.gs (Kp.refl _ _)⟩
/-! storing -/
theorem S3.set {K : PySem.W.Frag} {mg : Str → Option Value} {O : Ow} {σ : En} {S : Store} {σV : St} {H : Hp} {i : Nat} {s : Slot} {v : V} (st : S3 K mg O σ S σV H) (h : SlotR K mg O H (.loc i) s (some v)) : S3 K mg O (σ.set i s) S (σV.set i (some v)) H := by
  refine ⟨st.dom, by rw [List.length_set, List.length_set]; exact st.len, fun j t e => ?_, st.emp⟩
  by_cases hj : i = j
  · subst hj
    have hl : i < σ.length := by
      have := (List.getElem?_eq_some_iff.mp e).1
      rwa [List.length_set] at this
    rw [List.getElem?_set_self hl] at e
    cases e
    rw [List.getElem?_set_self (by rw [← st.len]; exact hl)]
    exact h
  · rw [List.getElem?_set_ne hj] at e
    rw [List.getElem?_set_ne hj]
    exact st.loc j t e
theorem Kp.set {σ : En} {σV : St} {i : Nat} {s : Slot} {v : Option V} (hs : ∀ xs, s ≠ .vw xs) (ht : ∀ xs, s ≠ .ow true xs := by intro xs z; cases z) (hu : ∀ m t, s = .tr m t → m = .own := by intro m t z; cases z) : Kp σ (σ.set i s) σV (σV.set i v) := by
  have key : ∀ (j : Nat) (t : Slot), (σ.set i s)[j]? = some t → t ≠ s → σ[j]? = some t ∧ (σV.set i v)[j]? = σV[j]? := fun j t h hne => by
    by_cases hj : i = j
    · subst hj
      have hl : i < σ.length := by
        have := (List.getElem?_eq_some_iff.mp h).1
        rwa [List.length_set] at this
      rw [List.getElem?_set_self hl] at h
      exact absurd (Option.some.inj h).symm hne
    · rw [List.getElem?_set_ne hj] at h ⊢
      exact ⟨h, rfl⟩
  refine ⟨fun j xs h => key j _ h (fun z => hs xs z.symm), fun j ys h => ?_, fun j m t h hm => ?_⟩
  · obtain ⟨a, b⟩ := key j _ h (fun z => ht ys z.symm)
    exact ⟨⟨ys, a⟩, b⟩
  · obtain ⟨a, b⟩ := key j _ h (fun z => hm (hu m t z.symm))
    exact ⟨⟨t, a, fun _ => rfl⟩, b⟩
/-- a new list becomes i's own -/
theorem S3.own {K : PySem.W.Frag} {mg : Str → Option Value} {O : Ow} {σ : En} {S : Store} {σV : St} {H : Hp} {i : Nat} {a : Addr} {xs : List D} {ys : List V} (st : S3 K mg O σ S σV H) (ht : O a = .tmp) (hl : H a = some (.lst ys)) (hr : RepAll K mg O H xs ys) :
    S3 K mg (updO O a (.loc i)) (σ.set i (.ow false xs)) S (σV.set i (some (.ref a))) H := by
  have ne : ∀ {b : Addr} {w : Own}, O b = w → w ≠ .tmp → updO O a (.loc i) b = w := fun {b w} h hw => by
    rw [updO_ne]; exact h
    rintro rfl; exact hw (h.symm.trans ht)
  have fre : Fre O (updO O a (.loc i)) := ⟨fun b h => ne h (by intro z; cases z)⟩
  have st1 : S3 K mg (updO O a (.loc i)) σ S σV H := by
    refine ⟨⟨fun b hb => ?_, st.dom.tabs⟩, st.len, fun j s e => (st.loc j s e).fre fre (fun b h => ne h (by intro z; cases z)) (fun b h => ne h (by intro z; cases z)) (fun b p h => ne h (by intro z; cases z)), st.emp⟩
    by_cases e : b = a
    · rw [e, hl]; intro z; cases z
    · rw [updO_ne e] at hb; exact st.dom.has b hb
  exact st1.set ⟨a, ys, rfl, updO_same, hl, hr.fre fre⟩
theorem Gs.tmp {O : Ow} {H : Hp} {a : Addr} {w : Own} (ht : O a = .tmp) : Gs O (updO O a w) H H := by
  refine ⟨fun b o e _ _ => e, fun b h f => ?_, fun _ h => h, fun _ ps h => ⟨ps, h⟩, id⟩
  rw [updO_ne]
  rintro rfl
  rw [ht] at f
  rcases f with z | z <;> cases z
theorem set_read {K : PySem.W.Frag} {mg : Str → Option Value} {i : Nat} {te : TE} (hi : ∀ σ H Q, teOf K mg m σ H Q → te σ H Q) : ∀ D σV H, tsOf K mg (cSet i m) D σV H → tAsg te (gName i) D σV H := by
  rintro D σV H ⟨O, σ, S, fl, S', st, h, q⟩
  obtain ⟨r, S1, h1, h⟩ := M.inv h
  obtain ⟨d, S2, h2, h⟩ := M.inv h
  cases h
  refine hi σV H _ ⟨O, σ, S, r, S1, st, h1, fun O1 v H1 g1 st1 rr nn => ?_⟩
  obtain ⟨rd, rfl⟩ := dat_rep (H₀ := H) rr nn h2
  exact q (frz H O1) _ H1 g1.frz.gs ((st1.frz H).set ⟨v, rfl, rd⟩) (Kp.set fun xs z => by cases z)
theorem own_read {K : PySem.W.Frag} {mg : Str → Option Value} {i : Nat} {te : TE} (hi : ∀ σ H Q, teOf K mg m σ H Q → te σ H Q) : ∀ D σV H, tsOf K mg (cOwn i m) D σV H → tAsg te (gName i) D σV H := by
  rintro D σV H ⟨O, σ, S, fl, S', st, h, q⟩
  obtain ⟨r, S1, h1, h⟩ := M.inv h
  split at h
  · rename_i xs
    cases h
    refine hi σV H _ ⟨O, σ, S, _, _, st, h1, fun O1 v H1 g1 st1 rr nn => ?_⟩
    obtain ⟨a, ys, rfl, l, t, ra⟩ := rr
    exact q _ _ H1 (g1.gs.trans (Gs.tmp t)) (st1.own t l ra) (Kp.set fun xs z => by cases z)
  · cases h
variable {i : Nat} {x : Str} {pos' : Pos}
theorem cs_set (hN : X.N.Nodup) (hi : X.N[i]? = some x) (hx : Loc X.env.scope x) (he : CE X e m) (hs : swapsWith e (some (.Name x pos')) pos.line X.env = pure false := by rfl) (hf : X.fn x = true ∨ X.env.scope.names.lookup x = some .local := by first | exact .inl rfl | exact .inr rfl | assumption) :
    CS X (.Assign [.Name x pos'] e pos) (cSet i m) := ps_imp (ps_set hN hi hx he hs hf) (set_read fun _ _ _ h => h)
theorem cs_own (hN : X.N.Nodup) (hi : X.N[i]? = some x) (hx : Loc X.env.scope x) (he : CE X e m) (hs : swapsWith e (some (.Name x pos')) pos.line X.env = pure false := by rfl) (hf : X.fn x = true ∨ X.env.scope.names.lookup x = some .local := by first | exact .inl rfl | exact .inr rfl | assumption) :
    CS X (.Assign [.Name x pos'] e pos) (cOwn i m) := ps_imp (ps_set hN hi hx he hs hf) (own_read fun _ _ _ h => h)
end
/-! ### an own list is changed -/
def cMut (i : Nat) (f : List D → List R → M (R × List D)) (ms : MA) : En → M (R × En) := fun σ => do
  let rs ← ms σ
  match σ[i]? with
  | some (.ow p xs) => do
    let (r, ys) ← f xs rs
    pure (r, σ.set i (.ow p ys))
  | _ => bad
def cMutS (i : Nat) (f : List D → List R → M (R × List D)) (ms : MA) : MS := fun σ => do
  let (_, σ') ← cMut i f ms σ
  pure (.nx σ')
def cMutSet (j i : Nat) (f : List D → List R → M (R × List D)) (ms : MA) : MS := fun σ => do
  let (r, σ') ← cMut i f ms σ
  let d ← r.dat
  pure (.nx (σ'.set j (.val d)))
def uAppend (xs : List D) : List R → M (R × List D)
  | [r] => do
    let d ← r.dat
    chk (xs.length < sizeLine)
    pure (.v .non, xs ++ [d])
  | _ => bad
def uExtend (xs : List D) : List R → M (R × List D)
  | [r] => match r.own with
    | some ys => do
      chk (xs.length + ys.length ≤ sizeLine)
      pure (.v .non, xs ++ ys)
    | none => bad
  | _ => bad
def uPop (xs : List D) : List R → M (R × List D)
  | [] => match xs[xs.length - 1]? with
    | some d => pure (.v d, xs.dropLast)
    | none => bad
  | _ => bad
section
variable {K : PySem.W.Frag} {mg : Str → Option Value} {O : Ow} {H : Hp} {l : Addr} {zs ws : List V}
mutual
theorem Rep.updL (ho : O l ≠ .free) (hl : H l = some (.lst zs)) : ∀ {d : D} {v : V}, Rep K mg O H d v → Rep K mg O (upd H l (.lst ws)) d v
  | .non, _, h => h
  | .bl _, _, h => h
  | .int _, _, h => h
  | .str _, _, h => h
  | .tup _, _, h => by
    obtain ⟨a, ys, q, t, r⟩ := h
    refine ⟨a, ys, q, ?_, RepAll.updL ho hl r⟩
    rcases t with (t | ⟨o, t⟩) | t
    · exact .inl (.inl (by rw [upd_ne (ne_of t hl (by intro z; cases z))]; exact t))
    · exact .inl (.inr ⟨o, by rw [upd_ne (ne_of t hl (by intro z; cases z))]; exact t⟩)
    · exact .inr t
  | .lst _, _, h => by
    obtain ⟨a, ys, q, t, r⟩ := h
    exact ⟨a, ys, q, ⟨by rw [upd_ne (by rintro rfl; exact ho t.2)]; exact t.1, t.2⟩, RepAll.updL ho hl r⟩
  | .dic _ _, _, h => h
  | .fn _, _, h => h
  | .ty _, _, h => h
theorem RepAll.updL (ho : O l ≠ .free) (hl : H l = some (.lst zs)) : ∀ {ds : List D} {ys : List V}, RepAll K mg O H ds ys → RepAll K mg O (upd H l (.lst ws)) ds ys
  | [], _, h => h
  | _ :: _, _, h => by obtain ⟨x, r, q, a, b⟩ := h; exact ⟨x, r, q, Rep.updL ho hl a, RepAll.updL ho hl b⟩
end
theorem LsV.updL {a : Addr} {ys : List V} (ho : O l ≠ .free) (ho' : O l ≠ .out) (h : LsV K O H a ys) : LsV K O (upd H l (.lst ws)) a ys := by
  rcases h with ⟨h, f⟩ | h
  · have ne : a ≠ l := by rintro rfl; exact f.elim ho ho'
    refine .inl ⟨?_, f⟩
    rcases h with h | ⟨o, h⟩
    · exact .inl (by rw [upd_ne ne]; exact h)
    · exact .inr ⟨o, by rw [upd_ne ne]; exact h⟩
  · exact .inr h
theorem SlotR.updL {w : Own} (ho : O l ≠ .free) (ho' : O l ≠ .out) (hw : O l ≠ w) (ht : ∀ p, O l ≠ w.at p) (hl : H l = some (.lst zs)) : ∀ {s : Slot} {u : Option V}, SlotR K mg O H w s u → SlotR K mg O (upd H l (.lst ws)) w s u
  | .emp, _, _ => trivial
  | .val _, _, h => by obtain ⟨v, q, r⟩ := h; exact ⟨v, q, r.updL ho hl⟩
  | .ow _ _, _, h => by obtain ⟨a, ys, q, o, t, r⟩ := h; exact ⟨a, ys, q, o, by rw [upd_ne (by rintro rfl; exact hw o)]; exact t, r.updL ho hl⟩
  | .vw _, _, h => by obtain ⟨a, ys, q, t, r⟩ := h; exact ⟨a, ys, q, t.updL ho ho', r.updL ho hl⟩
  | .dct _, _, h => by obtain ⟨a, ys, q, o, t, r⟩ := h; exact ⟨a, ys, q, o, by rw [upd_ne (by rintro rfl; rw [hl] at t; cases t)]; exact t, r.1, r.2.updL ho hl⟩
  | .vd _, _, h => by
    obtain ⟨a, ys, q, t, r⟩ := h
    refine ⟨a, ys, q, ⟨?_, t.2⟩, r.1, r.2.updL ho hl⟩
    rcases t.1 with t | ⟨o, t⟩
    · exact .inl (by rw [upd_ne (by rintro rfl; rw [hl] at t; cases t)]; exact t)
    · exact .inr ⟨o, by rw [upd_ne (by rintro rfl; rw [hl] at t; cases t)]; exact t⟩
  | .pd _, _, h => by obtain ⟨a, ys, q, o, t, r⟩ := h; exact ⟨a, ys, q, o, by rw [upd_ne (by rintro rfl; rw [hl] at t; cases t)]; exact t, r.1, r.2.all fun _ _ z => Rep.updL ho hl z⟩
  | .vp _, _, h => by
    obtain ⟨a, ys, q, t, r⟩ := h
    refine ⟨a, ys, q, ⟨?_, t.2⟩, r.1, r.2.all fun _ _ z => Rep.updL ho hl z⟩
    rcases t.1 with t | ⟨o, t⟩
    · exact .inl (by rw [upd_ne (by rintro rfl; rw [hl] at t; cases t)]; exact t)
    · exact .inr ⟨o, by rw [upd_ne (by rintro rfl; rw [hl] at t; cases t)]; exact t⟩
  | .tr _ _, _, h => by obtain ⟨v, q, r⟩ := h; exact ⟨v, q, r.all (fun _ _ z => Rep.updL ho hl z) fun a _ p o t _ => ⟨o, by rw [upd_ne (by rintro rfl; exact TM.ne ho' ht p o)]; exact t⟩⟩
theorem Dom.updL (d : Dom O H) (hl : H l = some (.lst zs)) : Dom O (upd H l (.lst ws)) := ⟨fun a ha => by
  by_cases e : a = l
  · rw [e, upd_same]; intro z; cases z
  · rw [upd_ne e]; exact d.has a ha, d.tabs.lst hl _⟩
theorem Gs.updL (ho : O l ≠ .free) (ho' : O l ≠ .out) (hl : H l = some (.lst zs)) : Gs O O H (upd H l (.lst ws)) := by
  refine ⟨fun b o e h _ => ?_, fun _ _ _ => rfl, fun b h => ?_, fun b ps e => ⟨ps, by rw [upd_ne (by rintro rfl; rw [hl] at e; cases e)]; exact e⟩, fun g => g.lst hl _⟩
  · rw [upd_ne]
    · exact e
    · rintro rfl
      rcases h with h | h | ⟨xs, h⟩ | ⟨_, _, h⟩
      · exact ho h
      · exact ho' h
      · subst h; rw [e] at hl; cases hl
      · subst h; rw [e] at hl; cases hl
  · by_cases e : b = l
    · rw [e, upd_same]; intro z; cases z
    · rw [upd_ne e]; exact h
/-- i's own list is rewritten -/
theorem S3.updL {σ : En} {S : Store} {σV : St} {i : Nat} {p : Bool} {xs ys : List D} (st : S3 K mg O σ S σV H) (hi : σ[i]? = some (.ow p xs)) (hv : σV[i]?.join = some (.ref l)) (ho : O l = .loc i) (hl : H l = some (.lst zs)) (hr : RepAll K mg O H ys ws) :
    S3 K mg O (σ.set i (.ow p ys)) S σV (upd H l (.lst ws)) := by
  have ne : ∀ w : Own, w ≠ .loc i → O l ≠ w := fun w hw z => hw (z.symm.trans ho)
  refine ⟨st.dom.updL hl, by rw [List.length_set]; exact st.len, fun j t e => ?_, st.emp⟩
  by_cases hj : i = j
  · subst hj
    have hlt : i < σ.length := (List.getElem?_eq_some_iff.mp hi).1
    rw [List.getElem?_set_self hlt] at e
    cases e
    exact ⟨l, ws, hv, ho, upd_same, hr.updL (ne _ (by intro z; cases z)) hl⟩
  · rw [List.getElem?_set_ne hj] at e
    exact (st.loc j t e).updL (ne _ (by intro z; cases z)) (ne _ (by intro z; cases z)) (ne _ (by intro z; cases z; exact hj rfl)) (fun p => ne _ (by intro z; cases z)) hl
end
/-- how such a method lies over the heap: the list at l is rewritten, all else stands -/
def BinM (K : PySem.W.Frag) (mg : Str → Option Value) (r : V → List V → Hp → VK → Prop) (f : List D → List R → M (R × List D)) : Prop :=
  ∀ O H H₀ l xs zs rs vs S S' r' ys (Q : VK), H l = some (.lst zs) → RepAll K mg O H xs zs → RepRs K mg O H rs vs → NewRs H₀ rs vs → (f xs rs).run S = .ok (r', ys) S' →
    (∀ v ws, S = S' → RepAll K mg (frz H₀ O) H ys ws → (∃ d, r' = .v d ∧ Rep K mg (frz H₀ O) H d v) → Q v (upd H l (.lst ws))) → r (.ref l) vs H Q
section
variable {K : PySem.W.Frag} {mg : Str → Option Value}
theorem mAppend : BinM K mg rAppend uAppend := fun O H H₀ l xs zs rs vs S S' r' ys Q hl hx hr hn h q => by
  unfold uAppend at h
  split at h
  · rename_i r
    obtain ⟨v, rfl, rv⟩ := reps1 hr
    obtain ⟨d, S1, h1, h⟩ := M.inv h
    obtain ⟨_, S2, h2, h⟩ := M.inv h
    obtain ⟨c, rfl⟩ := chk_inv h2
    obtain ⟨rd, rfl⟩ := dat_rep (H₀ := H₀) rv hn.1 h1
    cases h
    exact ⟨l, zs, v, rfl, rfl, hl, by rw [hx.len]; exact c, q .non _ rfl ((hx.fre (frz_fre _ _)).append (.one rd)) ⟨.non, rfl, rfl⟩⟩
  · cases h
variable {f : List D → List R → M (R × List D)} {r : V → List V → Hp → VK → Prop} {ms : MA} {i j : Nat}
theorem mut_read (hf : BinM K mg r f) {O : Ow} {σ σ' : En} {S S' : Store} {σV : St} {H : Hp} {r' : R} {Q : VK} (st : S3 K mg O σ S σV H) (h : (cMut i f ms σ).run S = .ok (r', σ') S')
    (q : ∀ O' v H', Gs O O' H H' → S3 K mg O' σ' S' σV H' → Kp σ σ' σV σV → (∃ d, r' = .v d ∧ Rep K mg O' H' d v) → Q v H') :
    ∃ v, σV[i]? = some (some v) ∧ tyV K "list" v H ∧ taOf K mg ms σV H fun vs H2 => r v vs H2 Q := by
  obtain ⟨rs, S1, h1, h⟩ := M.inv h
  cases e : σ[i]? with
  | none => rw [e] at h; cases h
  | some s =>
    rw [e] at h
    cases s with
    | emp => cases h
    | val _ => cases h
    | vw _ => cases h
    | dct _ => cases h
    | vd _ => cases h
    | pd _ => cases h
    | vp _ => cases h
    | tr _ _ => cases h
    | ow p xs =>
      obtain ⟨⟨r2, ys⟩, S2, h2, h⟩ := M.inv h
      cases h
      obtain ⟨a, zs, e1, e2, e3, e4⟩ := st.loc i _ e
      have ev : σV[i]? = some (some (.ref a)) := by
        cases w : σV[i]? with
        | none => rw [w] at e1; cases e1
        | some y => rw [w] at e1; exact congrArg some e1
      refine ⟨.ref a, ev, .inl ⟨rfl, _, SqL.of e3⟩, O, σ, S, rs, S1, st, h1, fun O1 vs H1 g1 st1 rr nn => ?_⟩
      have e3' := g1.same.at' _ _ e3
      have hn : H a ≠ none := by rw [e3]; intro z; cases z
      have e2' : O1 a = .loc i := (g1.own a hn).trans e2
      refine hf O1 H1 H a xs zs rs vs S1 _ _ ys Q e3' (e4.go g1) rr nn h2 fun v ws es ra ⟨d, ed, rd⟩ => ?_
      subst es
      have o2 : frz H O1 a = .loc i := by rw [frz_old hn]; exact e2'
      have no : ∀ w : Own, w ≠ .loc i → frz H O1 a ≠ w := fun w hw z => hw (z.symm.trans o2)
      refine q (frz H O1) v _ (g1.frz.gs.trans (Gs.updL (no _ (by intro z; cases z)) (no _ (by intro z; cases z)) e3')) ((st1.frz H).updL e (by rw [ev]; rfl) o2 e3' ra) ?_ ⟨d, ed, rd.updL (no _ (by intro z; cases z)) e3'⟩
      have hlt : i < σ.length := (List.getElem?_eq_some_iff.mp e).1
      exact Kp.put e (fun xs z => by cases z) (fun _ z => by cases z; exact ⟨xs, rfl⟩) (fun _ _ z => by cases z)
end
section
variable {X : Cx} {x : Str} {i j : Nat} {p apos cpos pos pos' : Pos} {e : Expr} {es : List Expr} {ms : MA} {name y : Str} {id : String} {f : List D → List R → M (R × List D)} {r : V → List V → Hp → VK → Prop}
theorem cs_mut (slot : PySem.Slot "list" name id) (hty : typeOf (.builtin id) = pure (.type "method_descriptor")) (hm : MtM X id r) (hf : BinM X.K X.mg r f) (ha : CA X (e :: es) ms) (hN : X.N[i]? = some x) (hv : Vis X.env.scope x)
    (hd : (x == ("__debug__" : Str)) = false := by decide) (hcd : (x == ("__classdict__" : Str)) = false := by decide)
    (hbase : attributeBase (.Name x p) name X.env (eval (.Name x p) X.env) = eval (.Name x p) X.env := by rfl)
    (hfew : ((backTo cpos (starEach (e :: es) X.env)).all (fun x => !x.1) && (backToKw cpos (keywordEach [] X.env)).all (fun x => x.1.isSome)
      && decide ((e :: es).length + ([] : List Keyword).length + (if ([] : List Keyword).isEmpty then 0 else 1) < 30)) = true := by rfl)
    (hline : (apos.endLine == cpos.line) = true := by rfl) (hs : starEach (e :: es) X.env = (false, eval e X.env) :: starEach es X.env := by rfl) (hplain : (backTo cpos (starEach es X.env)).any (·.1) = false := by rfl)
    (hsw : swapsWith (.Call (.Attribute (.Name x p) name apos) (e :: es) [] cpos) none pos.line X.env = pure false := by rfl) :
    CS X (.Expr (.Call (.Attribute (.Name x p) name apos) (e :: es) [] cpos) pos) (cMutS i f ms) :=
  ps_imp (ps_expr (pe_bm PySem.F.plainAttrs_list slot hty hm (pe_var hN hv hd hcd) ha hbase hfew hline hs hplain) hsw) fun D σV H ⟨O, σ, S, fl, S', st, h, q⟩ => by
    obtain ⟨⟨r2, σ2⟩, S1, h1, h⟩ := M.inv h
    cases h
    exact mut_read hf st h1 fun O' v H' g st' k _ => q O' σV H' g st' k
end
end L3

set_option Elab.async false
set_option linter.all false
set_option maxRecDepth 100000
set_option maxHeartbeats 1000000
namespace L3
open PySem PySem.Spec L2
variable [L2.TabP]
/-! ### what is walked -/
/-- it gives these, whatever is done that changes nobody's list -/
def ItS (J : It) (O : Ow) (H : Hp) (ys : List V) : Prop := ∀ O2 H2, Gs O O2 H H2 → ∀ i, (i < ys.length → J.go i H2 ∧ ∀ x H', J.yld i H2 x H' → H' = H2 ∧ ys[i]? = some x) ∧ (ys.length ≤ i → J.stop i H2)
abbrev MI := En → M (List D)
/-- for a comprehension -/
def tcOf (K : PySem.W.Frag) (mg : Str → Option Value) (m : MI) : TI := fun σV H R => ∃ O σ S xs S', S3 K mg O σ S σV H ∧ (m σ).run S = .ok xs S' ∧ ∀ O' H' J ys, Go O O' H H' → S3 K mg O' σ S' σV H' → ItOk J H' ys → RepAll K mg O' H' xs ys → R J H'
/-- for a loop -/
def tfOf (K : PySem.W.Frag) (mg : Str → Option Value) (m : MI) : TI := fun σV H R => ∃ O σ S xs S', S3 K mg O σ S σV H ∧ (m σ).run S = .ok xs S' ∧ ∀ O' H' J ys, Go O O' H H' → S3 K mg O' σ S' σV H' → ItS J O' H' ys → RepAll K mg O' H' xs ys → R J H'
abbrev CIc (X : Cx) (tg iter : Expr) (m : MI) : Prop := PI X tg iter (tcOf X.K X.mg m)
abbrev CIf (X : Cx) (tg iter : Expr) (m : MI) : Prop := PI X tg iter (tfOf X.K X.mg m)
theorem pi_imp {X : Cx} {tg e : Expr} {t t' : TI} (h : PI X tg e t) (i : ∀ σ H Q, t' σ H Q → t σ H Q) : PI X tg e t' := fun pins s σ H Q I q => h pins s σ H Q I (i _ _ _ q)
theorem Gs.sqT {K : PySem.W.Frag} {O O' : Ow} {H H' : Hp} (g : Gs O O' H H') {a : Addr} {ys : List V} (h : SqT K H a ys) : SqT K H' a ys := by
  rcases h with (h | ⟨o, h⟩) | h
  · exact .inl (.inl (g.cells _ _ h (.inr (.inr (.inl ⟨_, rfl⟩)))))
  · exact .inl (.inr ⟨o, g.cells _ _ h (.inr (.inr (.inr ⟨_, _, rfl⟩)))⟩)
  · exact .inr h
theorem Gs.lsV {K : PySem.W.Frag} {O O' : Ow} {H H' : Hp} (g : Gs O O' H H') {a : Addr} {ys : List V} (h : LsV K O H a ys) : LsV K O' H' a ys := by
  rcases h with ⟨h, f⟩ | h
  · refine .inl ⟨?_, by rw [g.own a (Rd.some h) f]; exact f⟩
    rcases h with h | ⟨o, h⟩
    · exact .inl (g.cells _ _ h (f.elim .inl fun z => .inr (.inl z)))
    · exact .inr ⟨o, g.cells _ _ h (f.elim .inl fun z => .inr (.inl z))⟩
  · exact .inr h
/-- a tuple's items -/
def iT (m : ME) : MI := fun σ => do
  let r ← m σ
  match r with
  | .v (.tup xs) => pure xs
  | _ => bad
/-- a list's items (in a loop: not one's own) -/
def iL (m : ME) : MI := fun σ => do
  let r ← m σ
  match r with
  | .v (.lst xs) => pure xs
  | .fr xs => pure xs
  | .vw xs => pure xs
  | _ => bad
def iLc (m : ME) : MI := fun σ => do
  let r ← m σ
  match r.lis with
  | some xs => pure xs
  | none => bad
def rngD (lo : Int) (n : Nat) : List D := (List.range n).map fun i => D.int (lo + (i : Nat))
def iR1 (m : MA) : MI := fun σ => do
  let rs ← m σ
  match rs with
  | [.v (.int j)] => if -(2 ^ 62) ≤ j ∧ j < 2 ^ 62 then pure (rngD 0 j.toNat) else bad
  | _ => bad
def iR2 (m : MA) : MI := fun σ => do
  let rs ← m σ
  match rs with
  | [.v (.int i), .v (.int j)] => if -(2 ^ 62) ≤ i ∧ i < 2 ^ 62 ∧ -(2 ^ 62) ≤ j ∧ j < 2 ^ 62 then pure (rngD i (j - i).toNat) else bad
  | _ => bad
section
variable {X : Cx} {tg l : Expr} {m : ME} {e a b : Expr} {ms : MA} {pos p : Pos}
theorem itl_s {K : PySem.W.Frag} {O : Ow} {H : Hp} {a : Addr} {xs : List V} (h : LsV K O H a xs) : ItS (Itl K a) O H xs := fun O2 H2 g i => itl_ok (g.lsV h).sq H2 (Same.refl _) i
theorem cf_list (hl : CE X l m) : CIf X tg l (iL m) := pi_imp (pi_list hl) fun σV H R ⟨O, σ, S, xs, S', st, h, q⟩ => by
  obtain ⟨r, S1, h1, h⟩ := M.inv h
  refine ⟨O, σ, S, r, S1, st, h1, fun O1 v H1 g1 st1 rr nn => ?_⟩
  split at h
  · cases h
    obtain ⟨a, ys, rfl, ls, ra⟩ := rr
    exact ⟨a, rfl, ⟨ys, ls.sq⟩, q O1 H1 (Itl X.K a) ys g1 st1 (itl_s (.inl ⟨.inl ls.1, .inl ls.2⟩)) ra⟩
  · cases h
    obtain ⟨a, ys, rfl, ls, t, ra⟩ := rr
    exact ⟨a, rfl, ⟨ys, SqL.of ls⟩, q (frz H O1) H1 (Itl X.K a) ys g1.frz (st1.frz H) (itl_s (.inl ⟨.inl ls, .inl (frz_tmp (nn a rfl) t)⟩)) (ra.fre (frz_fre _ _))⟩
  · cases h
    obtain ⟨a, ys, rfl, ls, ra⟩ := rr
    exact ⟨a, rfl, ⟨ys, ls.sq⟩, q O1 H1 (Itl X.K a) ys g1 st1 (itl_s ls) ra⟩
  · cases h
theorem cc_tup (hl : CE X l m) : CIc X tg l (iT m) := pi_imp (pi_tup hl) fun σV H R ⟨O, σ, S, xs, S', st, h, q⟩ => by
  obtain ⟨r, S1, h1, h⟩ := M.inv h
  split at h
  · rename_i zs
    cases h
    refine ⟨O, σ, S, _, _, st, h1, fun O1 v H1 g1 st1 rr nn => ?_⟩
    obtain ⟨a, ys, rfl, ls, ra⟩ := rr
    exact ⟨a, rfl, ⟨ys, ls⟩, q O1 H1 (Itt X.K a) ys g1 st1 (itt_ok ls) ra⟩
  · cases h
theorem itt_s {K : PySem.W.Frag} {O : Ow} {H : Hp} {a : Addr} {xs : List V} (h : SqT K H a xs) : ItS (Itt K a) O H xs := fun O2 H2 g i => itt_ok (g.sqT h) H2 (Same.refl _) i
theorem cf_tup (hl : CE X l m) : CIf X tg l (iT m) := pi_imp (pi_tup hl) fun σV H R ⟨O, σ, S, xs, S', st, h, q⟩ => by
  obtain ⟨r, S1, h1, h⟩ := M.inv h
  split at h
  · rename_i zs
    cases h
    refine ⟨O, σ, S, _, _, st, h1, fun O1 v H1 g1 st1 rr nn => ?_⟩
    obtain ⟨a, ys, rfl, ls, ra⟩ := rr
    exact ⟨a, rfl, ⟨ys, ls⟩, q O1 H1 (Itt X.K a) ys g1 st1 (itt_s ls) ra⟩
  · cases h
end
/-! ### loops -/
def fLoop (b : D → MS) : List D → MS
  | [] => fun σ => pure (.nx σ)
  | d :: ds => fun σ => do
    let fl ← b d σ
    match fl with
    | .nx σ' => fLoop b ds σ'
    | .ct σ' => fLoop b ds σ'
    | .bk σ' => pure (.nx σ')
    | .rt r => pure (.rt r)
/-- for x in .. -/
def cFor (i : Nat) (it : MI) (b : MS) : MS := fun σ => do
  let ds ← it σ
  fLoop (fun d σ => b (σ.set i (.val d))) ds σ
def wLoop (c : En → M Bool) (b : MS) : Nat → MS
  | 0 => fun _ => bad
  | n + 1 => fun σ => do
    let t ← c σ
    if t = true then do
      let fl ← b σ
      match fl with
      | .nx σ' => wLoop c b n σ'
      | .ct σ' => wLoop c b n σ'
      | .bk σ' => pure (.nx σ')
      | .rt r => pure (.rt r)
    else pure (.nx σ)
@[irreducible] def wFuel : Nat := 2 ^ 24
def cWhile (c : En → M Bool) (b : MS) : MS := wLoop c b wFuel
theorem S3.val {K : PySem.W.Frag} {mg : Str → Option Value} {O : Ow} {σ : En} {S : Store} {σV : St} {H : Hp} {i : Nat} {d : D} {v : V} (st : S3 K mg O σ S σV H) (h : Rep K mg O H d v) : S3 K mg O (σ.set i (.val d)) S (σV.set i (some v)) H := st.set ⟨v, rfl, h⟩
theorem RepAll.gs {K : PySem.W.Frag} {mg : Str → Option Value} {O O' : Ow} {H H' : Hp} (g : Gs O O' H H') : ∀ {ds : List D} {ys : List V}, RepAll K mg O H ds ys → RepAll K mg O' H' ds ys := by
  have rep : ∀ (d : D) (v : V), Rep K mg O H d v → Rep K mg O' H' d v := by
    intro d
    induction d using D.rec (motive_2 := fun ds => ∀ ys, RepAll K mg O H ds ys → RepAll K mg O' H' ds ys) with
    | non => exact fun v h => h
    | bl _ => exact fun v h => h
    | int _ => exact fun v h => h
    | str _ => exact fun v h => h
    | fn _ => exact fun v h => h
    | ty _ => exact fun v h => h
    | dic l _ _ => exact fun v h => h
    | tup xs ih => exact fun v ⟨a, ys, q, l, r⟩ => ⟨a, ys, q, g.sqT l, ih ys r⟩
    | lst xs ih => exact fun v ⟨a, ys, q, l, r⟩ => ⟨a, ys, q, ⟨g.cells _ _ l.1 (.inl l.2), by rw [g.own a (by rw [l.1]; intro z; cases z) (.inl l.2)]; exact l.2⟩, ih ys r⟩
    | nil => assumption
    | cons x xs ih1 ih2 =>
      rename_i zs hz
      obtain ⟨y, r, q, a, b⟩ := hz
      exact ⟨y, r, q, ih1 y a, ih2 r b⟩
  intro ds
  induction ds with
  | nil => exact fun h => h
  | cons x xs ih => rintro ys ⟨y, r, q, a, b⟩; exact ⟨y, r, q, rep x y a, ih b⟩
section
variable {X : Cx} {tg iter : Expr} {it : MI} {i : Nat} {b : MS} {body : List Stmt} {pos tpos : Pos} {x : Str} {c : Expr} {t : En → M Bool}
theorem RepAll.get' {K : PySem.W.Frag} {mg : Str → Option Value} {O : Ow} {H : Hp} {ds : List D} {ys : List V} {k : Nat} {d : D} {ds' : List D} (h : RepAll K mg O H ds ys) (e : ds.drop k = d :: ds') : ∃ y, ys[k]? = some y ∧ Rep K mg O H d y ∧ ds.drop (k + 1) = ds' := by
  have e1 : ds[k]? = some d := by
    have := congrArg (·[0]?) e
    simpa using this
  obtain ⟨y, q, r⟩ := h.get e1
  refine ⟨y, q, r, ?_⟩
  have := congrArg (List.drop 1) e
  simpa [List.drop_drop] using this
theorem forG_read {K : PySem.W.Frag} {mg : Str → Option Value} {G : TG} {B : L3.D → MS} (hG : ∀ O σ S σV H d y f S2 Q, S3 K mg O σ S σV H → Rep K mg O H d y → (B d σ).run S = .ok f S2 → (∀ σn σVn, S3 K mg O σn S σVn H → Kp σ σn σV σVn → (b σn).run S = .ok f S2 → Q σVn H) → G y σV H Q) :
    ∀ D σV H, tsOf K mg (fun σ => do
      let ds ← it σ
      fLoop B ds σ) D σV H → tFor (tfOf K mg it) G (tsOf K mg b) D σV H := by
  rintro D σV H ⟨O, σ, S, fl, S', st, h, q⟩
  obtain ⟨ds, S1, h1, h⟩ := M.inv h
  refine ⟨O, σ, S, ds, S1, st, h1, fun O1 H1 J ys g1 st1 its ra => ?_⟩
  refine ⟨fun k m σV' H' => m = ys.length - k ∧ k ≤ ys.length ∧ ∃ O' σ' S'', S3 K mg O' σ' S'' σV' H' ∧ Gs O1 O' H1 H' ∧ Kp σ σ' σV σV' ∧ (fLoop B (ds.drop k) σ').run S'' = .ok fl S',
    ⟨_, rfl, Nat.zero_le _, O1, σ, S1, st1, Gs.refl _ _, Kp.refl _ _, h⟩, ?_⟩
  rintro k m σV' H' ⟨rfl, hk, O', σ', S'', st', g', kp, h⟩
  cases e : ds.drop k with
  | nil =>
    have hl : ys.length ≤ k := by
      have := congrArg List.length e
      rw [List.length_drop, List.length_nil] at this
      rw [ra.len]; omega
    rw [e] at h
    cases h
    exact .inl ⟨(its O' H' g' k).2 hl, q O' σV' H' (g1.gs.trans g') st' kp⟩
  | cons d ds' =>
    obtain ⟨y, ey, ry, e'⟩ := (RepAll.gs g' ra).get' e
    have hlt : k < ys.length := (List.getElem?_eq_some_iff.mp ey).1
    obtain ⟨go, yl⟩ := (its O' H' g' k).1 hlt
    rw [e] at h
    obtain ⟨f1, S2, h2, h⟩ := M.inv h
    refine .inr ⟨go, fun σV2 H2 => ∃ O2 σ2 S2, S3 K mg O2 σ2 S2 σV2 H2 ∧ Gs O1 O2 H1 H2 ∧ Kp σ σ2 σV σV2 ∧ (fLoop B (ds.drop (k + 1)) σ2).run S2 = .ok fl S', ?_, fun x H2 yy => ?_⟩
    · rintro σV2 H2 ⟨O2, σ2, S2, a1, a2, a3, a4⟩
      exact ⟨_, by omega, rfl, hlt, O2, σ2, S2, a1, a2, a3, a4⟩
    · obtain ⟨rfl, ex⟩ := yl x H2 yy
      rw [ey] at ex
      cases ex
      refine hG _ _ _ _ _ _ _ _ _ _ st' ry h2 fun σn σVn stn ks hb => ?_
      refine ⟨O', σn, S'', f1, S2, stn, hb, ?_⟩
      cases f1 with
      | nx σ2 => exact fun O2 σV2 H2 g2 st2 k2 => ⟨O2, σ2, S2, st2, g'.trans g2, kp.trans (ks.trans k2), by rw [e']; exact h⟩
      | ct σ2 => exact fun O2 σV2 H2 g2 st2 k2 => ⟨O2, σ2, S2, st2, g'.trans g2, kp.trans (ks.trans k2), by rw [e']; exact h⟩
      | bk σ2 => cases h; exact fun O2 σV2 H2 g2 st2 k2 => q O2 σV2 H2 (g1.gs.trans (g'.trans g2)) st2 (kp.trans (ks.trans k2))
      | rt r => cases h; exact fun O2 v H2 g2 d2 e2 r2 => q O2 v H2 (g1.gs.trans (g'.trans g2)) d2 e2 r2
theorem for_read {K : PySem.W.Frag} {mg : Str → Option Value} : ∀ D σV H, tsOf K mg (cFor i it b) D σV H → tFor (tfOf K mg it) (gName i) (tsOf K mg b) D σV H :=
  forG_read (B := fun d σ => b (σ.set i (.val d))) fun _ _ _ _ _ _ _ _ _ _ st ry h k => k _ _ (st.val ry) (Kp.set fun xs z => by cases z) h
theorem cs_for (hp : PassesOwn (model X.prog X.w) X.A X.env X.xe) (hc : X.calm = true) (hi : CIf X (.Name x tpos) iter it) (hN : X.N.Nodup) (hx : X.N[i]? = some x) (hl : Loc X.env.scope x) (hb : CSs X body b)
    (hs : ∀ x, foldedSetIterable iter X.env x = pure x := by intro _; rfl) (hf : X.fn x = true ∨ X.env.scope.names.lookup x = some .local := by first | exact .inl rfl | exact .inr rfl | assumption) : CS X (.For (.Name x tpos) iter body [] pos) (cFor i it b) :=
  ps_imp (ps_for hp hc hi (pg_name hN hx hl hf) hb hs) for_read
end
/-! ### comprehensions -/
def kLoop (t : En → M Bool) (el : ME) (σ : En) : List D → M (List D)
  | [] => pure []
  | d :: ds => do
    let b ← t (σ.set 0 (.val d))
    if b = true then do
      let r ← el (σ.set 0 (.val d))
      let x ← r.dat
      let xs ← kLoop t el σ ds
      pure (x :: xs)
    else kLoop t el σ ds
def cpSlot : Option Slot → Slot
  | some (.val d) => .val d
  | some (.ow _ xs) => .vw xs
  | some (.vw xs) => .vw xs
  | some (.dct kvs) => .vd kvs
  | some (.vd kvs) => .vd kvs
  | some (.pd kvs) => .vp kvs
  | some (.vp kvs) => .vp kvs
  | _ => .emp
def cpEn (n : Nat) (cap : List Nat) (σ : En) : En := List.replicate n .emp ++ cap.map fun k => cpSlot σ[k]?
def cComp (n : Nat) (cap : List Nat) (it : MI) (t : En → M Bool) (el : ME) : ME := fun σ => do
  let ds ← it σ
  chk (ds.length < sizeLine)
  let xs ← kLoop t el (cpEn n cap σ) ds
  pure (.fr xs)
def tYes : En → M Bool := fun _ => pure true
abbrev CFs (X : Cx) (ifs : List Expr) (t : En → M Bool) : Prop := PIfs X ifs (ttOf X.K X.mg t)
theorem cfs_one {X : Cx} {c : Expr} {t : En → M Bool} (h : CT X c t) : CFs X [c] t := pf_one h
/-- the block's owners: what is a name's own around is others' within -/
def Own.blk : Own → Own
  | .loc _ => .out
  | .tr _ _ => .out
  | .tmp => .out
  | o => o
def blk (O : Ow) : Ow := fun b => (O b).blk
theorem blk_free {O : Ow} {b : Addr} : blk O b = .free ↔ O b = .free := by unfold blk; cases O b <;> simp [Own.blk]
theorem blk_cases (O : Ow) (b : Addr) : blk O b = .free ∨ blk O b = .out := by unfold blk; cases O b <;> simp [Own.blk]
theorem blk_fre (O : Ow) : Fre O (blk O) := ⟨fun _ h => blk_free.mpr h⟩
theorem LsV.blk {K : PySem.W.Frag} {O : Ow} {H : Hp} {a : Addr} {ys : List V} (h : LsV K O H a ys) : LsV K (blk O) H a ys := by
  rcases h with ⟨h, f⟩ | h
  · refine .inl ⟨h, ?_⟩
    rcases f with f | f
    · exact .inl (blk_free.mpr f)
    · exact .inr (by unfold L3.blk; rw [f]; rfl)
  · exact .inr h
theorem S3.blk {K : PySem.W.Frag} {mg : Str → Option Value} {O : Ow} {σ : En} {S : Store} {σV : St} {H : Hp} (st : S3 K mg O σ S σV H) (n : Nat) (cap : List Nat) : S3 K mg (blk O) (cpEn n cap σ) S (cpSt n cap σV) H := by
  refine ⟨⟨fun a ha => st.dom.has a fun z => ha (blk_free.mpr z), st.dom.tabs⟩, ?_, fun i s e => ?_, st.emp⟩
  · unfold cpEn cpSt
    rw [List.length_append, List.length_append, List.length_replicate, List.length_replicate, List.length_map, List.length_map]
  · unfold cpEn at e
    unfold cpSt
    by_cases hi : i < n
    · rw [List.getElem?_append_left (by simpa using hi), List.getElem?_replicate, if_pos hi] at e
      cases e
      exact trivial
    · rw [List.getElem?_append_right (by simpa using hi), List.length_replicate, List.getElem?_map] at e
      rw [List.getElem?_append_right (by simpa using hi), List.length_replicate, List.getElem?_map]
      cases ec : cap[i - n]? with
      | none => rw [ec] at e; cases e
      | some k =>
        rw [ec] at e
        have e' : cpSlot σ[k]? = s := Option.some.inj e
        show SlotR K mg _ H _ s (some (σV[k]?.join)).join
        cases es : σ[k]? with
        | none => rw [es] at e'; subst e'; exact trivial
        | some s0 =>
          rw [es] at e'
          have l := st.loc k s0 es
          cases s0 with
          | emp => subst e'; exact trivial
          | dct _ => subst e'; obtain ⟨a, ys, q, o, l, r⟩ := l; exact ⟨a, ys, q, ⟨.inl l, .inr (by unfold L3.blk; rw [o]; rfl)⟩, r.fre (blk_fre O)⟩
          | pd _ => subst e'; obtain ⟨a, ys, q, o, l, r⟩ := l; exact ⟨a, ys, q, ⟨.inl l, .inr (by unfold L3.blk; rw [o]; rfl)⟩, r.1, r.2.fre (blk_fre O)⟩
          | vp _ => subst e'; obtain ⟨a, ys, q, l, r⟩ := l; exact ⟨a, ys, q, ⟨l.1, l.2.elim (fun f => .inl (blk_free.mpr f)) fun f => .inr (by unfold L3.blk; rw [f]; rfl)⟩, r.1, r.2.fre (blk_fre O)⟩
          | tr _ _ => subst e'; exact trivial
          | vd _ => subst e'; obtain ⟨a, ys, q, l, r⟩ := l; exact ⟨a, ys, q, ⟨l.1, l.2.elim (fun f => .inl (blk_free.mpr f)) fun f => .inr (by unfold L3.blk; rw [f]; rfl)⟩, r.fre (blk_fre O)⟩
          | val d => subst e'; obtain ⟨v, q, r⟩ := l; exact ⟨v, q, r.fre (blk_fre O)⟩
          | vw xs => subst e'; obtain ⟨a, ys, q, l, r⟩ := l; exact ⟨a, ys, q, l.blk, r.fre (blk_fre O)⟩
          | ow p xs => subst e'; obtain ⟨a, ys, q, o, l, r⟩ := l; exact ⟨a, ys, q, .inl ⟨.inl l, .inr (by unfold L3.blk; rw [o]; rfl)⟩, r.fre (blk_fre O)⟩
theorem S3.updT {K : PySem.W.Frag} {mg : Str → Option Value} {O : Ow} {H : Hp} {l : Addr} {zs ws : List V} {σ : En} {S : Store} {σV : St} (st : S3 K mg O σ S σV H) (ho : O l = .tmp) (hl : H l = some (.lst zs)) : S3 K mg O σ S σV (upd H l (.lst ws)) := by
  have ne : ∀ w : Own, w ≠ .tmp → O l ≠ w := fun w hw z => hw (z.symm.trans ho)
  exact ⟨st.dom.updL hl, st.len, fun j t e => (st.loc j t e).updL (ne _ (by intro z; cases z)) (ne _ (by intro z; cases z)) (ne _ (by intro z; cases z)) (fun p => ne _ (by intro z; cases z)) hl, st.emp⟩
section
variable {K : PySem.W.Frag} {mg : Str → Option Value} {n : Nat} {cap : List Nat} {it : MI} {t : En → M Bool} {el : ME}
inductive CompI (K : PySem.W.Frag) (mg : Str → Option Value) (n : Nat) (cap : List Nat) (t : En → M Bool) (el : ME) (O1 : Ow) (σ : En) (S' : Store) (σV : St) (H1 : Hp) (A : Addr) (ds xs : List L3.D) (k : Nat) (zs : List V) (H' : Hp) : Prop
  | mk (O' : Ow) (S'' : Store) (acc xs' : List L3.D) (st' : S3 K mg O' (cpEn n cap σ) S'' (cpSt n cap σV) H') (s' : Same H1 H') (own' : ∀ b, H1 b ≠ none → O' b = blk O1 b) (tD : O' A = .tmp) (hH : H' A = some (.lst zs)) (hz : zs.length ≤ k)
      (rz : RepAll K mg O' H' acc zs) (h : (kLoop t el (cpEn n cap σ) (ds.drop k)).run S'' = .ok xs' S') (ex : acc ++ xs' = xs)
theorem comp_read (hn : 0 < n) : ∀ σV H Q, teOf K mg (cComp n cap it t el) σV H Q → tComp n cap (tcOf K mg it) (gName 0) (ttOf K mg t) (teOf K mg el) σV H Q := by
  rintro σV H Q ⟨O, σ, S, r, S', st, h, q⟩
  obtain ⟨ds, S1, h1, h⟩ := M.inv h
  obtain ⟨_, S2, h2, h⟩ := M.inv h
  obtain ⟨hlen, rfl⟩ := chk_inv h2
  obtain ⟨xs, S3', h3, h⟩ := M.inv h
  cases h
  refine ⟨O, σ, S, ds, S1, st, h1, fun O1 H1 J ys g1 st1 its ra => fun D hD => ?_⟩
  have stb : S3 K mg (updO (blk O1) D .tmp) (cpEn n cap σ) S1 (cpSt n cap σV) (upd H1 D (.lst [])) := (st1.blk n cap).new hD
  refine ⟨fun k m zs H' => m = ys.length - k ∧ k ≤ ys.length ∧ CompI K mg n cap t el O1 σ S' σV H1 D ds xs k zs H',
    ⟨_, rfl, Nat.zero_le _, _, S1, [], xs, stb, same_new hD _, fun b hb => updO_ne (by rintro rfl; exact hb hD), updO_same, upd_same, Nat.le_refl _, rfl, h3, rfl⟩, ?_⟩
  rintro k m zs H' ⟨rfl, hk, O', S'', acc, xs', st', s', own', tD, hH, hz, rz, h, ex⟩
  cases e : ds.drop k with
  | nil =>
    have hl : ys.length ≤ k := by
      have := congrArg List.length e
      rw [List.length_drop, List.length_nil] at this
      rw [ra.len]; omega
    rw [e] at h
    cases h
    rw [List.append_nil] at ex
    subst ex
    refine .inl ⟨(its H' s' k).2 hl, ?_⟩
    let Of : Ow := fun b => match H1 b with | none => O' b | some _ => O1 b
    have ofOld : ∀ b, H1 b ≠ none → Of b = O1 b := fun b hb => by
      show (match H1 b with | none => O' b | some _ => O1 b) = O1 b
      cases e : H1 b with
      | none => exact absurd e hb
      | some _ => rfl
    have ofNew : ∀ b, H1 b = none → Of b = O' b := fun b hb => by
      show (match H1 b with | none => O' b | some _ => O1 b) = O' b
      rw [hb]
    have fre : Fre O' Of := ⟨fun b hb => by
        by_cases hb1 : H1 b = none
        · rw [ofNew b hb1]; exact hb
        · rw [ofOld b hb1]; exact blk_free.mp ((own' b hb1).symm.trans hb)⟩
    have go : Go O1 Of H1 H' := ⟨s', ofOld⟩
    have dom : Dom Of H' := ⟨fun b hb => by
      by_cases hb1 : H1 b = none
      · rw [ofNew b hb1] at hb; exact st'.dom.has b hb
      · exact s'.some hb1, st'.dom.tabs⟩
    have eS : S1 = S' := st1.emp.trans st'.emp.symm
    subst eS
    refine q Of (.ref D) H' (g1.trans go) (st1.go go dom) ⟨D, zs, rfl, hH, (ofNew D hD).trans tD, rz.fre fre⟩ fun a ea => ?_
    cases ea
    exact g1.same.free hD
  | cons d ds' =>
    have raK : RepAll K mg O' H' ds ys := (ra.fre (blk_fre O1)).go ⟨s', own'⟩
    obtain ⟨y, ey, ry, e'⟩ := raK.get' e
    have hlt : k < ys.length := (List.getElem?_eq_some_iff.mp ey).1
    obtain ⟨go, yl⟩ := (its H' s' k).1 hlt
    rw [e] at h
    obtain ⟨b, S2, h2, h⟩ := M.inv h
    refine .inr ⟨go, fun x H2 yy => ?_⟩
    obtain ⟨eH, exx⟩ := yl x H2 yy
    have eH' := eH.symm
    subst eH'
    rw [ey] at exx
    cases exx
    have h0 : (cpSt n cap σV)[0]? = some none := by
      cases n with
      | zero => exact absurd hn (Nat.lt_irrefl _)
      | succ j => rfl
    refine ⟨(Fgt.refl _).set h0, O', _, S'', b, S2, st'.val ry, h2, fun O2 H3 g2 st2 => ?_⟩
    cases b with
    | false =>
      rw [if_neg Bool.false_ne_true] at h
      refine iteF ⟨ys.length - (k + 1), by omega, rfl, hlt, O2, S2, acc, xs', ?_, s'.trans g2.same, fun b hb => (g2.own b (s'.some hb)).trans (own' b hb), (g2.own D (by rw [hH]; intro z; cases z)).trans tD, g2.same.at' _ _ hH, by omega, rz.go g2, by rw [e']; exact h, ex⟩
      have eS : S'' = S2 := st'.emp.trans st2.emp.symm
      exact eS ▸ st'.go g2 st2.dom
    | true =>
      rw [if_pos rfl] at h
      obtain ⟨r, S4, h4, h⟩ := M.inv h
      obtain ⟨x, S5, h5, h⟩ := M.inv h
      obtain ⟨xs2, S6, h6, h⟩ := M.inv h
      cases h
      refine iteT ⟨O2, _, S2, r, S4, st2, h4, fun O3 v H4 g3 st3 rr nn => ?_⟩
      obtain ⟨rx, rfl⟩ := dat_rep (H₀ := H3) rr nn h5
      have G : Go O' (frz H3 O3) H' H4 := g2.trans g3.frz
      have hD4 : H4 D = some (.lst zs) := G.same.at' _ _ hH
      have tD4 : frz H3 O3 D = .tmp := (G.own D (by rw [hH]; intro z; cases z)).trans tD
      have eS : S'' = S4 := st'.emp.trans st3.emp.symm
      refine ⟨hD4, by rw [ra.len] at hlt; omega, ys.length - (k + 1), by omega, rfl, hlt, frz H3 O3, S4, acc ++ [x], xs2, ?_, upd_over hD (s'.trans G.same) hD4 _, fun b hb => (G.own b (s'.some hb)).trans (own' b hb), tD4, upd_same,
        by rw [List.length_append, List.length_singleton]; omega, ((rz.go G).append (.one rx)).updL (by rw [tD4]; intro z; cases z) hD4, by rw [e']; exact h6, by rw [List.append_assoc]; exact ex⟩
      exact eS ▸ (st'.go G (st3.frz H3).dom).updT tD4 hD4
end
section
variable {X : Cx} {scope esc : Scope} {EN N : List Str} {n : Nat} {cap : List Nat} {elt iter : Expr} {ifs : List Expr} {pos tpos : Pos} {x : Str} {it : MI} {t : En → M Bool} {el : ME}
theorem asg_comp {i : Nat} {y : Str} {py spos : Pos} (S : CpScope esc scope EN N n cap) (hNd : X.N.Nodup) (hi' : X.N[i]? = some y) (hy : X.env.scope.names.lookup y = some .local) (hn : 0 < n) (hi : CIc X (.Name x tpos) iter it) (hx : N[0]? = some x) (hlx : ∀ C fp s H, Loc (cxComp X scope N C fp s H).env.scope x ∧ (cxComp X scope N C fp s H).env.scope.names.lookup x = some .local)
    (ht : ∀ C fp s H, CFs (cxComp X scope N C fp s H) ifs t) (hel : ∀ C fp s H, CE (cxComp X scope N C fp s H) elt el)
    (he : X.env.scope = esc := by rfl) (hN : X.N = EN := by rfl) (hc : X.calm = true := by rfl) (hs : ∀ x, foldedSetIterable iter X.env x = pure x := by intro _; rfl)
    (hsw : swapsWith (.ListComp elt [⟨.Name x tpos, iter, ifs, 0⟩] scope pos) (some (.Name y py)) spos.line X.env = pure true := by rfl) :
    PS X (.Assign [.Name y py] (.ListComp elt [⟨.Name x tpos, iter, ifs, 0⟩] scope pos) spos) (tAsg (tComp n cap (tcOf X.K X.mg it) (gName 0) (ttOf X.K X.mg t) (teOf X.K X.mg el)) (gName i)) :=
  ps_comp (wi := tcOf X.K X.mg it) (g := gName 0) (tt := ttOf X.K X.mg t) (te := teOf X.K X.mg el) S hNd hi' hy hi (fun C fp s H => pg_name S.nd hx (hlx C fp s H).1 (.inr (hlx C fp s H).2)) ht hel he hN hc hs hsw
end
/-! ### calls of defs -/
abbrev MF := List D → M R
def ArgR (K : PySem.W.Frag) (mg : Str → Option Value) (O : Ow) (H : Hp) : D → V → Prop
  | .lst xs, v => ∃ a ys, v = .ref a ∧ SqL K H a ys ∧ RepAll K mg O H xs ys
  | .dic ks vs, v => ∃ a kvv, v = .ref a ∧ Rd H a (.dK kvv) ∧ RepKV K mg O H (ks.zip vs) kvv
  | d, v => Rep K mg O H d v
def ArgAll (K : PySem.W.Frag) (mg : Str → Option Value) (O : Ow) (H : Hp) : List D → List V → Prop
  | [], ys => ys = []
  | x :: xs, ys => ∃ y r, ys = y :: r ∧ ArgR K mg O H x y ∧ ArgAll K mg O H xs r
theorem zip_un {α β : Type} : ∀ l : List (α × β), (l.map (·.1)).zip (l.map (·.2)) = l
  | [] => rfl
  | x :: l => by rw [List.map_cons, List.map_cons, List.zip_cons_cons, zip_un l]
def slotOf : D → Slot
  | .lst xs => .vw xs
  | .dic ks vs => .vd (ks.zip vs)
  | d => .val d
theorem arg_of {K : PySem.W.Frag} {mg : Str → Option Value} {O : Ow} {H : Hp} {r : R} {v : V} (h : RepR K mg O H r v) : ArgR K mg O H r.arg v := by
  match r, h with
  | .v (.lst xs), h => obtain ⟨a, ys, q, l, r⟩ := h; exact ⟨a, ys, q, l.sq, r⟩
  | .fr xs, h => obtain ⟨a, ys, q, l, _, r⟩ := h; exact ⟨a, ys, q, SqL.of l, r⟩
  | .vw xs, h => obtain ⟨a, ys, q, l, r⟩ := h; exact ⟨a, ys, q, l.sq, r⟩
  | .mv xs, h => obtain ⟨a, ys, q, l, r⟩ := h; exact ⟨a, ys, q, SqL.of l, r⟩
  | .v .non, h => exact h
  | .v (.bl _), h => exact h
  | .v (.int _), h => exact h
  | .v (.str _), h => exact h
  | .v (.tup _), h => exact h
  | .v (.dic _ _), h => exact False.elim h
  | .dv kvs, h => obtain ⟨a, kvv, q, l, r⟩ := h; exact ⟨a, kvv, q, l, by rw [zip_un]; exact r⟩
  | .v (.fn _), h => exact h
  | .v (.ty _), h => exact h
theorem args_of {K : PySem.W.Frag} {mg : Str → Option Value} {O : Ow} {H : Hp} : ∀ {rs : List R} {vs : List V}, RepRs K mg O H rs vs → ArgAll K mg O H (rs.map R.arg) vs
  | [], _, h => h
  | _ :: _, _, h => by obtain ⟨y, r, q, a, b⟩ := h; exact ⟨y, r, q, arg_of a, args_of b⟩
theorem ArgAll.len {K : PySem.W.Frag} {mg : Str → Option Value} {O : Ow} {H : Hp} : ∀ {ds : List D} {vs : List V}, ArgAll K mg O H ds vs → vs.length = ds.length
  | [], _, h => by cases h; rfl
  | _ :: _, _, h => by obtain ⟨x, r, rfl, _, b⟩ := h; rw [List.length_cons, List.length_cons, ArgAll.len b]
theorem ArgAll.get {K : PySem.W.Frag} {mg : Str → Option Value} {O : Ow} {H : Hp} : ∀ {ds : List D} {xs : List V} {i : Nat} {d : D}, ArgAll K mg O H ds xs → ds[i]? = some d → ∃ x, xs[i]? = some x ∧ ArgR K mg O H d x
  | [], _, _, _, _, e => by simp at e
  | _ :: _, _, 0, d, h, e => by obtain ⟨x, r, rfl, a, _⟩ := h; cases (show some _ = some d from e); exact ⟨x, rfl, a⟩
  | _ :: ds, _, i + 1, d, h, e => by
    obtain ⟨x, r, rfl, _, b⟩ := h
    obtain ⟨y, e1, e2⟩ := ArgAll.get (i := i) b (by simpa using e)
    exact ⟨y, by simpa using e1, e2⟩
def spF (K : PySem.W.Frag) (mg : Str → Option Value) (mf : MF) : Sp := fun vs H Q _ => ∃ O ds r S', Dom O H ∧ ArgAll K mg O H ds vs ∧ (mf ds).run [] = .ok r S' ∧ ∀ O' v H', Go O O' H H' → Dom O' H' → S' = [] → RepR K mg O' H' r v → NewR H r v → Q v H'
def cCall (mf : MF) (ms : MA) : ME := fun σ => do
  let rs ← ms σ
  mf (rs.map R.arg)
section
variable {X : Cx} {x : Str} {ps : List Str} {k : Nat} {mf : MF} {p pos : Pos} {e : Expr} {es : List Expr} {ms : MA}
theorem call_read {K : PySem.W.Frag} {mg : Str → Option Value} : ∀ σV H Q, teOf K mg (cCall mf ms) σV H Q → tFn (spF K mg mf) (taOf K mg ms) σV H Q := by
  rintro σV H Q ⟨O, σ, S, r, S', st, h, q⟩
  obtain ⟨rs, S1, h1, h⟩ := M.inv h
  refine ⟨O, σ, S, rs, S1, st, h1, fun O1 vs H1 g1 st1 rr nn => ?_⟩
  have eS := st1.emp
  subst eS
  refine ⟨O1, _, r, S', st1.dom, args_of rr, h, fun O' v H' g d e r' n' => q O' v H' (g1.trans g) ?_ r' (n'.back g1.same)⟩
  subst e
  exact st1.go g d
theorem ce_call (h : Has X.prog X.w X.K X.mg X.base x ps k (spF X.K X.mg mf)) (hr : Room k X.A) (hg : Gl X x) (ha : CA X (e :: es) ms) (hdb : (x == ("__debug__" : Str)) = false := by decide)
    (he : starEach (e :: es) X.env = (false, eval e X.env) :: starEach es X.env := by rfl) (hpl : (backTo pos (starEach es X.env)).any (·.1) = false := by rfl) : CE X (.Call (.Name x p) (e :: es) [] pos) (cCall mf ms) :=
  pe_imp (pe_fn h hr hg ha hdb he hpl) call_read
end
/-! ### defs -/
def fnOf (n N : Nat) (b : MS) : MF := fun ds => if ds.length = n then do
    let fl ← b (ds.map slotOf ++ List.replicate (N - n) .emp)
    match fl with
    | .rt (.v d) => pure (.v d)
    | .rt (.fr xs) => pure (.fr xs)
    | .nx _ => pure (.v .non)
    | _ => bad
  else bad
/-- a callee's owners: all that is somebody's is others' -/
theorem slot_arg {K : PySem.W.Frag} {mg : Str → Option Value} {O : Ow} {H : Hp} {w : Own} {d : D} {v : V} (h : ArgR K mg O H d v) : SlotR K mg (blk O) H w (slotOf d) (some v) := by
  have val : Rep K mg O H d v → SlotR K mg (blk O) H w (.val d) (some v) := fun h => ⟨v, rfl, h.fre (blk_fre O)⟩
  match d, h, val with
  | .lst xs, h, _ =>
    obtain ⟨a, ys, rfl, l, r⟩ := h
    exact ⟨a, ys, rfl, l.imp (fun z => ⟨z, blk_cases O a⟩) id, r.fre (blk_fre O)⟩
  | .non, h, val => exact val h
  | .bl _, h, val => exact val h
  | .int _, h, val => exact val h
  | .str _, h, val => exact val h
  | .tup _, h, val => exact val h
  | .dic ks vs, h, _ => obtain ⟨a, kvv, rfl, l, r⟩ := h; exact ⟨a, kvv, rfl, ⟨l, blk_cases O a⟩, r.fre (blk_fre O)⟩
  | .fn _, h, val => exact val h
  | .ty _, h, val => exact val h
omit [L2.TabP] in
theorem fnOf_len {n N : Nat} {b : MS} {ds : List D} {S S' : Store} {r : R} (h : (fnOf n N b ds).run S = .ok r S') : ds.length = n := by
  unfold fnOf at h
  by_cases c : ds.length = n
  · exact c
  · rw [if_neg c] at h; cases h
theorem body_read {K : PySem.W.Frag} {mg : Str → Option Value} {ps N : List Str} {mb : MS} {vs : List V} {H : Hp} {Q : VK} {E : XK} (hsp : spF K mg (fnOf ps.length N.length mb) vs H Q E) : tsOf K mg mb { nx := fun _ H' => Q .non H', rt := Q } (L2.start N vs) H := by
  obtain ⟨O, ds, r, S', dm, ar, h, q⟩ := hsp
  have hl := fnOf_len h
  have hlv := ar.len
  unfold fnOf at h
  rw [if_pos hl] at h
  obtain ⟨fl, S1, h1, h⟩ := M.inv h
  have st0 : S3 K mg (blk O) (ds.map slotOf ++ List.replicate (N.length - ps.length) .emp) [] (L2.start N vs) H := by
    refine ⟨⟨fun a ha => dm.has a fun z => ha (blk_free.mpr z), dm.tabs⟩, ?_, fun i s e => ?_, rfl⟩
    · unfold L2.start
      rw [List.length_append, List.length_append, List.length_map, List.length_map, List.length_replicate, List.length_replicate, hlv, hl]
    · by_cases hi : i < ds.length
      · rw [List.getElem?_append_left (by rw [List.length_map]; exact hi), List.getElem?_map] at e
        cases ed : ds[i]? with
        | none => rw [ed] at e; cases e
        | some d =>
          rw [ed] at e
          cases e
          obtain ⟨v, ev, rv⟩ := ar.get ed
          unfold L2.start
          rw [List.getElem?_append_left (by rw [List.length_map, hlv]; exact hi), List.getElem?_map, ev]
          exact slot_arg rv
      · rw [List.getElem?_append_right (by rw [List.length_map]; omega), List.getElem?_replicate] at e
        split at e
        · cases e; exact trivial
        · cases e
  have old : ∀ b, H b ≠ none → blk O b = .free ∨ blk O b = .out := fun b _ => blk_cases O b
  -- the caller's owners behind the call
  have back : ∀ {O' : Ow} {H' : Hp}, Gs (blk O) O' H H' → Dom O' H' → ∃ O2 : Ow, Go O O2 H H' ∧ Dom O2 H' ∧ Fre O' O2 ∧ ∀ b, (O' b = .tmp ∨ ∃ i, O' b = .loc i) → H b = none ∧ O2 b = .tmp := fun {O' H'} g d => by
    refine ⟨fun b => match H b with | some _ => O b | none => (match O' b with | .loc _ => .tmp | o => o), ⟨⟨fun b o e n => g.cells b o e ((old b (by rw [e]; intro z; cases z)).elim .inl fun z => .inr (.inl z)) n, g.tb, g.gd⟩, fun b hb => ?_⟩, ⟨fun b hb => ?_, d.tabs⟩, ⟨fun b hb => ?_⟩, fun b hb => ?_⟩
    · cases e : H b with
      | none => exact absurd e hb
      | some o => rfl
    · cases e : H b with
      | some o => exact g.has b (by rw [e]; intro z; cases z)
      | none =>
        rw [e] at hb
        refine d.has b fun z => hb ?_
        dsimp only
        rw [z]
    · cases e : H b with
      | some o =>
        dsimp only
        have := (g.own b (by rw [e]; intro z; cases z) (blk_cases O b)).symm.trans hb
        exact blk_free.mp this
      | none =>
        dsimp only
        rw [hb]
    · have hn : H b = none := by
        cases e : H b with
        | none => rfl
        | some o =>
          exfalso
          have q1 := g.own b (by rw [e]; intro z; cases z) (blk_cases O b)
          rcases blk_cases O b with z | z <;> rw [z] at q1 <;> rcases hb with w | ⟨i, w⟩ <;> rw [q1] at w <;> cases w
      refine ⟨hn, ?_⟩
      dsimp only
      rw [hn]
      rcases hb with w | ⟨i, w⟩ <;> rw [w]
  refine ⟨blk O, _, [], fl, S1, st0, h1, ?_⟩
  cases fl with
  | nx σ' =>
    cases h
    intro O' σV' H' g st' _
    obtain ⟨O2, g2, d2, f2, _⟩ := back g st'.dom
    exact q O2 .non H' g2 d2 st'.emp rfl trivial
  | bk σ' => cases h
  | ct σ' => cases h
  | rt r' =>
    intro O' v H' g d eS rr
    obtain ⟨O2, g2, d2, f2, t2⟩ := back g d
    cases r' with
    | v dd => cases h; exact q O2 v H' g2 d2 eS (Rep.fre f2 rr) trivial
    | fr xs =>
      cases h
      obtain ⟨a, ys, rfl, l, t, ra⟩ := rr
      obtain ⟨hn, ht⟩ := t2 a t
      exact q O2 _ H' g2 d2 eS ⟨a, ys, rfl, l, ht, ra.fre f2⟩ fun b eb => by cases eb; exact hn
    | vw xs => exact False.elim rr
    | mv xs => exact False.elim rr
    | dv _ => exact False.elim rr
theorem fn_sim {P : Program} {w : World} {K : PySem.W.Frag} {mg : Str → Option Value} {base : Heap} {x qual : Str} {st : Stmt} {ps N : List Str} {k : Nat} {mb : MS} {f : Addr} {fd : FuncData} {n nl : Nat} (F : Fun K x qual st f fd) (Sc : FnScope N ps (defScope st)) (hn : ps.length = n) (hl : N.length = nl)
    (hb : ∀ (cdv : Value) (A : Around) (outer : List Env) (s : Shared) (H : Hp) (E : XK), Room k (A.deeper (PyProof.Rows.envOfC qual (defScope st) s.heap.objs.size f cdv)) →
      CSs (cxOf CX0 P w K mg base N qual (defScope st) f cdv A outer s H E).nox (defBody st) mb) : FnOk P w K mg base CX0 (k + 1) f fd ps (spF K mg (fnOf n nl mb)) := by
  subst hn hl
  exact F.ok Sc (fun vs H Q E ⟨O, ds, r, S', dm, ar, h, q⟩ => ar.len.trans (fnOf_len h)) fun cdv A outer s H vs Q E hr hsp => ⟨_, hb cdv A outer s H E hr, body_read hsp⟩
theorem has_of {P : Program} {w : World} {K : PySem.W.Frag} {mg : Str → Option Value} {base : Heap} {x : Str} {st : Stmt} {ps N : List Str} {k : Nat} {mb : MS} {n nl : Nat} (Df : Df K mg x st ps) (Sc : FnScope N ps (defScope st)) (hn : ps.length = n) (hl : N.length = nl)
    (hb : ∀ (f : Addr) (cdv : Value) (A : Around) (outer : List Env) (s : Shared) (H : Hp) (E : XK), Room k (A.deeper (PyProof.Rows.envOfC x (defScope st) s.heap.objs.size f cdv)) →
      CSs (cxOf CX0 P w K mg base N x (defScope st) f cdv A outer s H E).nox (defBody st) mb) : Has P w K mg base x ps (k + 1) (spF K mg (fnOf n nl mb)) := by
  obtain ⟨f, fd, F, b, m⟩ := Df.ex
  exact ⟨f, fd, fn_sim F Sc hn hl (fun cdv => hb f cdv), b, F.kp, m⟩
/-- the law itself -/
theorem law_of {P : Program} {w : World} {K : PySem.W.Frag} {mg : Str → Option Value} {base : Heap} {f : Addr} {fd : FuncData} {k : Nat} {mf : MF} (F : FnOk P w K mg base CX0 k f fd ["script"] (spF K mg mf))
    (h : ∀ ns : List Int, ns.length ≤ 63 → ∃ S', (mf [.lst (ns.map D.int)]).run [] = .ok (.v (.bl true)) S') :
    FnOk P w K mg base CX0 k f fd ["script"] (fun vs H Q _ => ∃ (a : Addr) (ns : List Int), vs = [.ref a] ∧ SqL K H a (ns.map V.int) ∧ ns.length ≤ 63 ∧ TabsOk H ∧ ∀ H', Q (.bl true) H') := by
  refine F.imp fun vs H Q E ⟨a, ns, e, hS, hn, tb, q⟩ => ?_
  subst e
  obtain ⟨S', h'⟩ := h ns hn
  refine ⟨fun _ => .free, [.lst (ns.map D.int)], _, S', ⟨fun a ha => absurd rfl ha, tb⟩, ⟨_, _, rfl, ⟨a, _, rfl, hS, repAll_ints ns⟩, rfl⟩, h', fun O' v H' _ _ _ rr _ => ?_⟩
  cases (show v = .bl true from rr)
  exact q H'
end L3

set_option Elab.async false
set_option linter.all false
set_option maxRecDepth 100000
set_option maxHeartbeats 1000000
namespace L3
open PySem PySem.Spec L2
variable [L2.TabP]
omit [L2.TabP] in
theorem df_mk {K : PySem.W.Frag} {h : Heap} {mg : Str → Option Value} {x : Str} {st : Stmt} {f : Addr} {ps : List Str} {od an : Option Addr} {sl : Array (Option Value)} {oc kV dc pm cd ct : Value} (X : K.In h) (G : h.Ns mainGlobals mg)
    (a : PySem.W.nsIn K mainGlobals x = some (some (.ref f))) (l : K.lookup f = some ⟨oc, od, .func (PySem.W.fnOf x x (defArgs st) (defBody st) (defScope st) .none kV dc pm an cd ct), sl⟩) (c : PySem.W.codeIn K cd x = true) (k : PySem.W.keepIn K (.ref f) = true)
    (hb : ∀ (kV doc pm : Value) (an : Option Addr) (cdv ct : Value) (us : List Value), us.length = ps.length → bindArgs (PySem.W.fnOf x x (defArgs st) (defBody st) (defScope st) .none kV doc pm an cdv ct) ⟨us, []⟩ = pure (ps.zip us)) : Df K mg x st ps :=
  ⟨f, _, fun_mk (st := st) l c k, (fun_mk (st := st) l c k).binds hb, PySem.W.mg_of X G a⟩
abbrev spLaw (K : PySem.W.Frag) : Sp := fun vs H Q _ => ∃ (a : Addr) (ns : List Int), vs = [.ref a] ∧ SqL K H a (ns.map V.int) ∧ ns.length ≤ 63 ∧ TabsOk H ∧ ∀ H', Q (.bl true) H'
end L3

set_option Elab.async false
set_option linter.all false
set_option maxRecDepth 100000
set_option maxHeartbeats 1000000
namespace L3
open PySem PySem.Spec L2
variable [L2.TabP]
/-! ### big numbers -/
/-- 2 to the 1000 -/
abbrev BIG : Nat := 10715086071862673209484250490600018105614048117055336074437503883703510511249361224931983788156958581275946729175531468251871452856923140435984577574698574803934567774824230985421074605062371141877954182153046474983581941267398767559165543946077062914571196477686542167660429831652624386837205668069376
omit [L2.TabP] in
theorem big_eq : BIG = 2 ^ 1000 := by decide +kernel
omit [L2.TabP] in
theorem natBits {i : Int} (h : i.natAbs < BIG) : Builtin.Int.intBits i ≤ 1000 := by
  unfold Builtin.Int.intBits
  split
  · exact Nat.zero_le _
  · rename_i hz
    have : i.natAbs.log2 < 1000 := (Nat.log2_lt (by simpa using hz)).mpr (big_eq ▸ h)
    omega
def CMulB (i j : Int) : Prop := (-(2 ^ 64) < i ∧ i < 2 ^ 64) ∨ (-(2 ^ 64) < j ∧ j < 2 ^ 64) ∨ (i.natAbs < BIG ∧ j.natAbs < BIG)
omit [L2.TabP] in
theorem CMulB.ok {i j : Int} (h : CMulB i j) : IntMulOk i j := by
  rcases h with h | h | h
  · exact (show CMul i j from .inl h).ok
  · exact (show CMul i j from .inr h).ok
  · have h1 := natBits h.1
    have h2 := natBits h.2
    have hb : Builtin.Int.intTooBig (Builtin.Int.intBits i + Builtin.Int.intBits j) = false := by
      unfold Builtin.Int.intTooBig
      refine decide_eq_false ?_
      have : (2000 : Int) ≤ ((bitsLine : Nat) : Int) := by decide
      omega
    unfold IntMulOk
    rw [hb]
    simp
instance (i j : Int) : Decidable (CMulB i j) := by unfold CMulB; exact inferInstance
theorem op_mulB {X : Cx} : OpR X (binaryOp .Mult) (rI CMulB fun i j => .int (i * j)) := opI fun _ _ _ _ _ _ _ hc q => PyProof.Rows.mul_int q hc.ok
abbrev oMulB := oI CMulB (· * ·)
theorem bMulB {X : Cx} : Bin X.K X.mg (rI CMulB fun i j => .int (i * j)) oMulB := bin_I fun _ _ h => h
def CDivB (_ j : Int) : Prop := 0 < j ∧ j.natAbs < BIG
instance (i j : Int) : Decidable (CDivB i j) := by unfold CDivB; exact inferInstance
theorem op_fdivB {X : Cx} : OpR X (binaryOp .FloorDiv) (rI CDivB fun i j => .int (i / j)) := opI fun i j _ _ _ _ _ hc q => by
  have h1 : (0 : Int) < j := hc.1
  have h2 : j.natAbs < BIG := hc.2
  refine PyProof.Rows.floordiv_int (by omega) (by rw [Int.fdiv_eq_ediv_of_nonneg i (by omega)]; exact q) (.inl (PyProof.noPylong_of_log2 ?_))
  have : j.natAbs.log2 < 1000 := (Nat.log2_lt (by omega)).mpr (big_eq ▸ h2)
  omega
abbrev oDivB := oI CDivB (· / ·)
theorem bDivB {X : Cx} : Bin X.K X.mg (rI CDivB fun i j => .int (i / j)) oDivB := bin_I fun _ _ h => h
def oBits : R → M R
  | .v (.int i) => pure (.v (.int (Builtin.Int.intBits i : Nat)))
  | _ => bad
section
variable {X : Cx} {a : Expr} {ma : ME} {apos cpos : Pos}
end
/-- the built-in names that the text leaves as they are -/
structure Bl3 (mg : Str → Option Value) : Prop where
  len : mg "len" = none
  range : mg "range" = none
  isinstance : mg "isinstance" = none
  max : mg "max" = none
  min : mg "min" = none
  any : mg "any" = none
  all : mg "all" = none
  int' : mg "int" = none
  bool' : mg "bool" = none
  list' : mg "list" = none
  tuple' : mg "tuple" = none
  str' : mg "str" = none
  abs : mg "abs" = none
  sorted : mg "sorted" = none
  sum : mg "sum" = none
  zip : mg "zip" = none
  enumerate : mg "enumerate" = none
  reversed : mg "reversed" = none
  set' : mg "set" = none
end L3

set_option Elab.async false
set_option linter.all false
set_option maxRecDepth 100000
set_option maxHeartbeats 1000000
namespace L3
open PySem PySem.Spec L2
/-! ### evaluation by simp -/
@[simp] theorem e_bad {α β : Type} (f : α → M β) : (bad >>= f) = bad := rfl
@[simp] theorem e_chk {p : Prop} [Decidable p] : chk p = if p then pure () else bad := rfl
@[simp] theorem e_var {i : Nat} {σ : En} : cVar i σ = match σ[i]? with
  | some (.val d) => pure (.v d)
  | some (.ow _ xs) => pure (.mv xs)
  | some (.vw xs) => pure (.vw xs)
  | some (.dct kvs) => pure (.dv kvs)
  | some (.vd kvs) => pure (.dv kvs)
  | _ => bad := rfl
@[simp] theorem e_K {d : D} {σ : En} : cK d σ = pure (.v d) := rfl
@[simp] theorem e_2 {f : R → R → M R} {a b : ME} {σ : En} : c2 f a b σ = (do let x ← a σ; let y ← b σ; f x y) := rfl
@[simp] theorem e_1 {f : R → M R} {a : ME} {σ : En} : c1 f a σ = (do let x ← a σ; f x) := rfl
@[simp] theorem e_tru {b : Bool} : R.tru (.v (.bl b)) = pure b := rfl
@[simp] theorem e_T {m : ME} {σ : En} : cT m σ = (do let x ← m σ; x.tru) := rfl
@[simp] theorem e_3 {f g : R → R → M R} {a b c : ME} {σ : En} : c3 f g a b c σ = (do
  let x ← a σ
  let y ← b σ
  let z ← f x y
  let t ← z.tru
  if t = true then do
    let w ← c σ
    g y w
  else pure (.v (.bl false))) := rfl
@[simp] theorem e_and {a b : ME} {σ : En} : cAnd a b σ = (do
  let x ← a σ
  let t ← x.tru
  if t = true then b σ else pure (.v (.bl false))) := rfl
@[simp] theorem e_or {a b : ME} {σ : En} : cOr a b σ = (do
  let x ← a σ
  let t ← x.tru
  if t = true then pure (.v (.bl true)) else b σ) := rfl
@[simp] theorem e_not {a : ME} {σ : En} : cNot a σ = (do
  let x ← a σ
  let t ← x.tru
  pure (.v (.bl (!t)))) := rfl
@[simp] theorem e_andM {a b : En → M Bool} {σ : En} : tAndM a b σ = (do
  let t ← a σ
  if t = true then b σ else pure false) := rfl
@[simp] theorem e_orM {a b : En → M Bool} {σ : En} : tOrM a b σ = (do
  let t ← a σ
  if t = true then pure true else b σ) := rfl
@[simp] theorem e_notM {a : En → M Bool} {σ : En} : tNotM a σ = (do
  let t ← a σ
  pure (!t)) := rfl
@[simp] theorem e_if {t : En → M Bool} {a b : ME} {σ : En} : cIf t a b σ = (do
  let t ← t σ
  if t = true then a σ else b σ) := rfl
@[simp] theorem e_I0 {g : Int → Int → Int} {i j : Int} : oI0 g (.v (.int i)) (.v (.int j)) = pure (.v (.int (g i j))) := rfl
@[simp] theorem e_I {C : Int → Int → Prop} [∀ i j, Decidable (C i j)] {g : Int → Int → Int} {i j : Int} : oI C g (.v (.int i)) (.v (.int j)) = if C i j then pure (.v (.int (g i j))) else bad := rfl
@[simp] theorem e_B {g : Int → Int → Bool} {i j : Int} : oB g (.v (.int i)) (.v (.int j)) = pure (.v (.bl (g i j))) := rfl
@[simp] theorem e_neg {i : Int} : oNeg (.v (.int i)) = pure (.v (.int (-i))) := rfl
@[simp] theorem e_bits {i : Int} : oBits (.v (.int i)) = pure (.v (.int (Builtin.Int.intBits i : Nat))) := rfl
@[simp] theorem e_nil {σ : En} : cNil σ = pure [] := rfl
@[simp] theorem e_cons {m : ME} {ms : MA} {σ : En} : cCons m ms σ = (do
  let x ← m σ
  let xs ← ms σ
  pure (x :: xs)) := rfl
@[simp] theorem e_datv {d : D} : R.dat (.v d) = pure d := rfl
@[simp] theorem e_datf {xs : List D} : R.dat (.fr xs) = pure (.lst xs) := rfl
@[simp] theorem e_dats0 : dats [] = pure [] := rfl
@[simp] theorem e_dats {r : R} {rs : List R} : dats (r :: rs) = (do
    let d ← r.dat
    let ds ← dats rs
    pure (d :: ds)) := rfl
@[simp] theorem e_tup {ms : MA} {σ : En} : cTup ms σ = (do
  let rs ← ms σ
  let ds ← dats rs
  chk (ds.length ≤ 1000)
  pure (.v (.tup ds))) := rfl
@[simp] theorem e_lst {ms : MA} {σ : En} : cLst ms σ = (do
  let rs ← ms σ
  let ds ← dats rs
  chk (ds.length ≤ 1000)
  pure (.fr ds)) := rfl
@[simp] theorem e_cB {f : List R → M R} {ms : MA} {σ : En} : cB f ms σ = (do
  let rs ← ms σ
  f rs) := rfl
@[simp] theorem e_lisv {xs : List D} : R.lis (.v (.lst xs)) = some xs := rfl
@[simp] theorem e_lisf {xs : List D} : R.lis (.fr xs) = some xs := rfl
@[simp] theorem e_lisw {xs : List D} : R.lis (.vw xs) = some xs := rfl
@[simp] theorem e_lism {xs : List D} : R.lis (.mv xs) = some xs := rfl
@[simp] theorem e_seqv {xs : List D} : R.seq (.v (.lst xs)) = some xs := rfl
@[simp] theorem e_seqt {xs : List D} : R.seq (.v (.tup xs)) = some xs := rfl
@[simp] theorem e_seqf {xs : List D} : R.seq (.fr xs) = some xs := rfl
@[simp] theorem e_seqw {xs : List D} : R.seq (.vw xs) = some xs := rfl
@[simp] theorem e_seqm {xs : List D} : R.seq (.mv xs) = some xs := rfl
@[simp] theorem e_ownv {xs : List D} : R.own (.v (.lst xs)) = some xs := rfl
@[simp] theorem e_ownf {xs : List D} : R.own (.fr xs) = some xs := rfl
@[simp] theorem e_ownm {xs : List D} : R.own (.mv xs) = some xs := rfl
@[simp] theorem e_argv {d : D} : R.arg (.v d) = d := rfl
@[simp] theorem e_argf {xs : List D} : R.arg (.fr xs) = .lst xs := rfl
@[simp] theorem e_argw {xs : List D} : R.arg (.vw xs) = .lst xs := rfl
@[simp] theorem e_argm {xs : List D} : R.arg (.mv xs) = .lst xs := rfl
@[simp] theorem e_len {x : R} : fLen [x] = match x.seq with
    | some xs => pure (.v (.int (xs.length : Nat)))
    | none => bad := rfl
@[simp] theorem e_kn : R.kind (.v .non) = some "NoneType" := rfl
@[simp] theorem e_kb {b : Bool} : R.kind (.v (.bl b)) = some "bool" := rfl
@[simp] theorem e_ki {i : Int} : R.kind (.v (.int i)) = some "int" := rfl
@[simp] theorem e_ks {x : Str} : R.kind (.v (.str x)) = some "str" := rfl
@[simp] theorem e_kt {xs : List D} : R.kind (.v (.tup xs)) = some "tuple" := rfl
@[simp] theorem e_kl {xs : List D} : R.kind (.v (.lst xs)) = some "list" := rfl
@[simp] theorem e_kf {xs : List D} : R.kind (.fr xs) = some "list" := rfl
@[simp] theorem e_kw {xs : List D} : R.kind (.vw xs) = some "list" := rfl
@[simp] theorem e_km {xs : List D} : R.kind (.mv xs) = some "list" := rfl
@[simp] theorem e_isi {x : R} {n : String} : fIsi [x, .v (.ty n)] = match x.kind with
    | some t => if n ∈ ["int", "bool", "tuple", "list", "str"] then pure (.v (.bl (isiB t n))) else bad
    | none => bad := rfl
@[simp] theorem e_isiB {t n : String} : isiB t n = (t == n || (t == "bool" && n == "int")) := rfl
@[simp] theorem e_2I {g : Int → Int → Int} {i j : Int} : f2I g [.v (.int i), .v (.int j)] = pure (.v (.int (g i j))) := rfl
@[simp] theorem e_abs {i : Int} : fAbs [.v (.int i)] = pure (.v (.int (if i < 0 then -i else i))) := rfl
@[simp] theorem e_any {x : R} : fAny [x] = match x.lis.bind bls with
    | some bs => pure (.v (.bl (bs.any id)))
    | none => bad := rfl
@[simp] theorem e_all {x : R} : fAll [x] = match x.lis.bind bls with
    | some bs => pure (.v (.bl (bs.all id)))
    | none => bad := rfl
@[simp] theorem e_inti {i : Int} : fInt [.v (.int i)] = pure (.v (.int i)) := rfl
@[simp] theorem e_intb {b : Bool} : fInt [.v (.bl b)] = pure (.v (.int (if b then 1 else 0))) := rfl
@[simp] theorem e_list {x : R} : fList [x] = match x.seq with
    | some xs => pure (.fr xs)
    | none => bad := rfl
@[simp] theorem e_tuple {x : R} : fTuple [x] = match x.seq with
    | some xs => pure (.v (.tup xs))
    | none => bad := rfl
@[simp] theorem e_ixt {xs : List D} {i : Int} : oIx (.v (.tup xs)) (.v (.int i)) = match atI xs i with
      | some d => pure (.v d)
      | none => bad := rfl
@[simp] theorem e_ixl {xs : List D} {i : Int} : oIx (.v (.lst xs)) (.v (.int i)) = match atI xs i with
      | some d => pure (.v d)
      | none => bad := rfl
@[simp] theorem e_ixf {xs : List D} {i : Int} : oIx (.fr xs) (.v (.int i)) = match atI xs i with
      | some d => pure (.v d)
      | none => bad := rfl
@[simp] theorem e_ixw {xs : List D} {i : Int} : oIx (.vw xs) (.v (.int i)) = match atI xs i with
      | some d => pure (.v d)
      | none => bad := rfl
@[simp] theorem e_ixm {xs : List D} {i : Int} : oIx (.mv xs) (.v (.int i)) = match atI xs i with
      | some d => pure (.v d)
      | none => bad := rfl
theorem at_k {α : Type} {xs : List α} (k : Nat) {v : α} (h : xs[k]? = some v) : atI xs (k : Int) = some v := atI_nat h
@[simp] theorem e_at0 {α : Type} {x : α} {xs : List α} : atI (x :: xs) 0 = some x := at_k 0 rfl
@[simp] theorem e_at1 {α : Type} {x y : α} {xs : List α} : atI (x :: y :: xs) 1 = some y := at_k 1 rfl
@[simp] theorem e_at2 {α : Type} {x y z : α} {xs : List α} : atI (x :: y :: z :: xs) 2 = some z := at_k 2 rfl
@[simp] theorem e_at3 {α : Type} {x y z w : α} {xs : List α} : atI (x :: y :: z :: w :: xs) 3 = some w := at_k 3 rfl
@[simp] theorem e_at4 {α : Type} {x y z w v : α} {xs : List α} : atI (x :: y :: z :: w :: v :: xs) 4 = some v := at_k 4 rfl
@[simp] theorem e_at5 {α : Type} {x y z w v u : α} {xs : List α} : atI (x :: y :: z :: w :: v :: u :: xs) 5 = some u := at_k 5 rfl
@[simp] theorem e_call {mf : MF} {ms : MA} {σ : En} : cCall mf ms σ = (do
  let rs ← ms σ
  mf (rs.map R.arg)) := rfl
@[simp] theorem e_pass {σ : En} : cPass σ = pure (.nx σ) := rfl
@[simp] theorem e_brk {σ : En} : cBrk σ = pure (.bk σ) := rfl
@[simp] theorem e_cnt {σ : En} : cCnt σ = pure (.ct σ) := rfl
@[simp] theorem e_retN {σ : En} : cRetN σ = pure (.rt (.v .non)) := rfl
@[simp] theorem e_seqS {a b : MS} {σ : En} : cSeq a b σ = (do
  let fl ← a σ
  match fl with
  | .nx σ' => b σ'
  | fl => pure fl) := rfl
@[simp] theorem e_ret {m : ME} {σ : En} : cRet m σ = (do
  let r ← m σ
  match r with
  | .v d => pure (.rt (.v d))
  | .fr xs => pure (.rt (.fr xs))
  | _ => bad) := rfl
@[simp] theorem e_retO {i : Nat} {σ : En} : cRetO i σ = match σ[i]? with
  | some (.ow false xs) => pure (.rt (.fr xs))
  | _ => bad := rfl
@[simp] theorem e_ifS {t : En → M Bool} {a b : MS} {σ : En} : cIfS t a b σ = (do
  let t ← t σ
  if t = true then a σ else b σ) := rfl
@[simp] theorem e_drop {m : ME} {σ : En} : cDrop m σ = (do
  let _ ← m σ
  pure (.nx σ)) := rfl
@[simp] theorem e_set {i : Nat} {m : ME} {σ : En} : cSet i m σ = (do
  let r ← m σ
  let d ← r.dat
  pure (.nx (σ.set i (.val d)))) := rfl
@[simp] theorem e_own {i : Nat} {m : ME} {σ : En} : cOwn i m σ = (do
  let r ← m σ
  match r with
  | .fr xs => pure (.nx (σ.set i (.ow false xs)))
  | _ => bad) := rfl
@[simp] theorem e_mut {i : Nat} {f : List D → List R → M (R × List D)} {ms : MA} {σ : En} : cMut i f ms σ = (do
  let rs ← ms σ
  match σ[i]? with
  | some (.ow p xs) => do
    let (r, ys) ← f xs rs
    pure (r, σ.set i (.ow p ys))
  | _ => bad) := rfl
@[simp] theorem e_mutS {i : Nat} {f : List D → List R → M (R × List D)} {ms : MA} {σ : En} : cMutS i f ms σ = (do
  let (_, σ') ← cMut i f ms σ
  pure (.nx σ')) := rfl
@[simp] theorem e_mutSet {j i : Nat} {f : List D → List R → M (R × List D)} {ms : MA} {σ : En} : cMutSet j i f ms σ = (do
  let (r, σ') ← cMut i f ms σ
  let d ← r.dat
  pure (.nx (σ'.set j (.val d)))) := rfl
@[simp] theorem e_append {xs : List D} {r : R} : uAppend xs [r] = (do
    let d ← r.dat
    chk (xs.length < sizeLine)
    pure (.v .non, xs ++ [d])) := rfl
@[simp] theorem e_extend {xs : List D} {r : R} : uExtend xs [r] = match r.own with
    | some ys => do
      chk (xs.length + ys.length ≤ sizeLine)
      pure (.v .non, xs ++ ys)
    | none => bad := rfl
@[simp] theorem e_for {i : Nat} {it : MI} {b : MS} {σ : En} : cFor i it b σ = (do
  let ds ← it σ
  fLoop (fun d σ => b (σ.set i (.val d))) ds σ) := rfl
@[simp] theorem e_iT {m : ME} {σ : En} : iT m σ = (do
  let r ← m σ
  match r with
  | .v (.tup xs) => pure xs
  | _ => bad) := rfl
@[simp] theorem e_iL {m : ME} {σ : En} : iL m σ = (do
  let r ← m σ
  match r with
  | .v (.lst xs) => pure xs
  | .fr xs => pure xs
  | .vw xs => pure xs
  | _ => bad) := rfl
@[simp] theorem e_iLc {m : ME} {σ : En} : iLc m σ = (do
  let r ← m σ
  match r.lis with
  | some xs => pure xs
  | none => bad) := rfl
@[simp] theorem e_iR1 {m : MA} {σ : En} : iR1 m σ = (do
  let rs ← m σ
  match rs with
  | [.v (.int j)] => if -(2 ^ 62) ≤ j ∧ j < 2 ^ 62 then pure (rngD 0 j.toNat) else bad
  | _ => bad) := rfl
@[simp] theorem e_iR2 {m : MA} {σ : En} : iR2 m σ = (do
  let rs ← m σ
  match rs with
  | [.v (.int i), .v (.int j)] => if -(2 ^ 62) ≤ i ∧ i < 2 ^ 62 ∧ -(2 ^ 62) ≤ j ∧ j < 2 ^ 62 then pure (rngD i (j - i).toNat) else bad
  | _ => bad) := rfl
@[simp] theorem e_sl {a : ME} {lo hi : MO} {σ : En} : cSl a lo hi σ = (do
  let x ← a σ
  let l ← lo σ
  let h ← hi σ
  oSl x l h) := rfl
@[simp] theorem e_noPart {σ : En} : cNoPart σ = pure none := rfl
@[simp] theorem e_part {m : ME} {σ : En} : cPart m σ = (do
  let r ← m σ
  match r with
  | .v (.int i) => pure (some i)
  | _ => bad) := rfl
@[simp] theorem e_slf {xs : List D} {l h : Option Int} : oSl (.fr xs) l h = pure (.fr (cutD xs l h)) := rfl
@[simp] theorem e_slw {xs : List D} {l h : Option Int} : oSl (.vw xs) l h = pure (.fr (cutD xs l h)) := rfl
@[simp] theorem e_slm {xs : List D} {l h : Option Int} : oSl (.mv xs) l h = pure (.fr (cutD xs l h)) := rfl
@[simp] theorem e_sll {xs : List D} {l h : Option Int} : oSl (.v (.lst xs)) l h = pure (.fr (cutD xs l h)) := rfl
@[simp] theorem e_slt {xs : List D} {l h : Option Int} : oSl (.v (.tup xs)) l h = if HT.sIx xs.length 0 l = 0 ∧ HT.sIx xs.length xs.length h = xs.length then bad else pure (.v (.tup (cutD xs l h))) := rfl
@[simp] theorem e_comp {n : Nat} {cap : List Nat} {it : MI} {t : En → M Bool} {el : ME} {σ : En} : cComp n cap it t el σ = (do
  let ds ← it σ
  chk (ds.length < sizeLine)
  let xs ← kLoop t el (cpEn n cap σ) ds
  pure (.fr xs)) := rfl
@[simp] theorem e_cpEn {n : Nat} {cap : List Nat} {σ : En} : cpEn n cap σ = List.replicate n .emp ++ cap.map fun k => cpSlot σ[k]? := rfl
@[simp] theorem e_cpv {d : D} : cpSlot (some (.val d)) = .val d := rfl
@[simp] theorem e_cpo {p : Bool} {xs : List D} : cpSlot (some (.ow p xs)) = .vw xs := rfl
@[simp] theorem e_cpw {xs : List D} : cpSlot (some (.vw xs)) = .vw xs := rfl
@[simp] theorem e_yes {σ : En} : tYes σ = pure true := rfl
@[simp] theorem e_isN {x : R} : oIsN x (.v .non) = pure (.v (.bl x.isN)) := rfl
@[simp] theorem e_notN {x : R} : oNotN x (.v .non) = pure (.v (.bl (!x.isN))) := rfl
@[simp] theorem e_isn : R.isN (.v .non) = true := rfl
@[simp] theorem e_isni {i : Int} : R.isN (.v (.int i)) = false := rfl
@[simp] theorem e_isnt {xs : List D} : R.isN (.v (.tup xs)) = false := rfl
@[simp] theorem e_isnf {xs : List D} : R.isN (.fr xs) = false := rfl
@[simp] theorem e_isns {x : Str} : R.isN (.v (.str x)) = false := rfl
@[simp] theorem e_isB {a b : Bool} : oIsB (.v (.bl a)) (.v (.bl b)) = pure (.v (.bl (decide (a = b)))) := rfl
@[simp] theorem e_notB {a b : Bool} : oNotB (.v (.bl a)) (.v (.bl b)) = pure (.v (.bl (!decide (a = b)))) := rfl
@[simp] theorem e_eqii {i j : Int} : oEq (.v (.int i)) (.v (.int j)) = pure (.v (.bl (i == j))) := rfl
@[simp] theorem e_neii {i j : Int} : oNe (.v (.int i)) (.v (.int j)) = pure (.v (.bl (!(i == j)))) := rfl
theorem e_eq {x y : R} (hx : x.arg.gd 64 = true) (hy : y.arg.gd 64 = true) : oEq x y = pure (.v (.bl (peq x.arg y.arg))) := if_pos ⟨hx, hy⟩
theorem e_ne {x y : R} (hx : x.arg.gd 64 = true) (hy : y.arg.gd 64 = true) : oNe x y = pure (.v (.bl (!peq x.arg y.arg))) := if_pos ⟨hx, hy⟩
@[simp] theorem e_slotl {xs : List D} : slotOf (.lst xs) = .vw xs := rfl
@[simp] theorem e_sloti {i : Int} : slotOf (.int i) = .val (.int i) := rfl
@[simp] theorem e_slott {xs : List D} : slotOf (.tup xs) = .val (.tup xs) := rfl
@[simp] theorem e_slots {x : Str} : slotOf (.str x) = .val (.str x) := rfl
@[simp] theorem e_slotn : slotOf .non = .val .non := rfl
@[simp] theorem e_slotb {b : Bool} : slotOf (.bl b) = .val (.bl b) := rfl
@[simp] theorem e_fn {n N : Nat} {b : MS} {ds : List D} : fnOf n N b ds = if ds.length = n then (do
    let fl ← b (ds.map slotOf ++ List.replicate (N - n) .emp)
    match fl with
    | .rt (.v d) => pure (.v d)
    | .rt (.fr xs) => pure (.fr xs)
    | .nx _ => pure (.v .non)
    | _ => bad) else bad := rfl
/-! loops -/
theorem fLoop_inv {b : D → MS} (I : Nat → En → Prop) : ∀ (ds : List D) (k : Nat) (σ : En), I k σ → (∀ i d σ, ds[i]? = some d → I (k + i) σ → ∃ σ', (b d σ = pure (.nx σ') ∨ b d σ = pure (.ct σ')) ∧ I (k + i + 1) σ') →
    ∃ σ', fLoop b ds σ = pure (.nx σ') ∧ I (k + ds.length) σ'
  | [], k, σ, h0, _ => ⟨σ, rfl, h0⟩
  | d :: ds, k, σ, h0, step => by
    obtain ⟨σ1, e, h1⟩ := step 0 d σ rfl h0
    obtain ⟨σ2, e2, h2⟩ := fLoop_inv I ds (k + 1) σ1 h1 fun i d' σ' hd hI => by
      have := step (i + 1) d' σ' (by simpa using hd) (by rw [show k + (i + 1) = k + 1 + i by omega]; exact hI)
      rw [show k + (i + 1) + 1 = k + 1 + i + 1 by omega] at this
      exact this
    refine ⟨σ2, ?_, by rw [List.length_cons, show k + (ds.length + 1) = k + 1 + ds.length by omega]; exact h2⟩
    show (b d σ >>= _) = _
    rcases e with e | e <;> rw [e] <;> exact e2
/-- a loop by what holds between two turns -/
theorem for_inv {b : D → MS} {ds : List D} {σ : En} (I : Nat → En → Prop) (h0 : I 0 σ) (step : ∀ i d σ, ds[i]? = some d → I i σ → ∃ σ', (b d σ = pure (.nx σ') ∨ b d σ = pure (.ct σ')) ∧ I (i + 1) σ') :
    ∃ σ', fLoop b ds σ = pure (.nx σ') ∧ I ds.length σ' := by
  obtain ⟨σ', e, h⟩ := fLoop_inv I ds 0 σ h0 fun i d σ hd hI => by
    rw [Nat.zero_add] at hI ⊢
    exact step i d σ hd hI
  exact ⟨σ', e, by rw [Nat.zero_add] at h; exact h⟩
end L3

set_option Elab.async false
set_option linter.all false
set_option maxRecDepth 100000
set_option maxHeartbeats 1000000
namespace L3
open PySem PySem.Spec L2
/-! ### what the laws' small helpers are worth -/
theorem at_ints {ns : List Int} {k : Nat} (h : k < ns.length) : atI (ns.map D.int) (k : Int) = some (.int (ns.getD k 0)) := by
  refine at_k k ?_
  rw [List.getElem?_map, List.getElem?_eq_getElem h]
  simp [List.getD_eq_getElem?_getD, h]
theorem mod_lt {a b : Int} (h : 0 < b) : 0 ≤ a % b ∧ a % b < b := ⟨Int.emod_nonneg _ (by omega), Int.emod_lt_of_pos _ h⟩
theorem lt_big {i : Int} (h1 : -(10 ^ 200) < i) (h2 : i < 10 ^ 200) : i.natAbs < BIG := by
  unfold BIG
  omega
theorem mulS {i j : Int} (h1 : -(2 ^ 64) < i) (h2 : i < 2 ^ 64) : CMulB i j := .inl ⟨h1, h2⟩
theorem divB {i j : Int} (h1 : 0 < j) (h2 : j < 10 ^ 200) : CDivB i j := ⟨h1, lt_big (by omega) h2⟩
end L3

set_option Elab.async false
set_option linter.all false
set_option maxRecDepth 100000
set_option maxHeartbeats 1000000
namespace L3
open PySem PySem.Spec L2
variable [L2.TabP]
/-! ### a def that changes the list that is its first parameter -/
structure GoA (a : Addr) (O O' : Ow) (H H' : Hp) : Prop where
  cells : ∀ b o, b ≠ a → H b = some o → (h : nT o := by exact trivial) → H' b = some o
  tb : ∀ b ps, H b = some (.tbl ps) → ∃ ps', H' b = some (.tbl ps')
  gd : TabsOk H → TabsOk H'
  own : ∀ b, b ≠ a → H b ≠ none → O' b = O b
  owa : O' a = O a
section
variable {K : PySem.W.Frag} {mg : Str → Option Value} {O O' : Ow} {H H' : Hp} {a : Addr} {zs : List V}
mutual
theorem Rep.goA (g : GoA a O O' H H') (ho : O a ≠ .free) (hl : H a = some (.lst zs)) : ∀ {d : D} {v : V}, Rep K mg O H d v → Rep K mg O' H' d v
  | .non, _, h => h
  | .bl _, _, h => h
  | .int _, _, h => h
  | .str _, _, h => h
  | .tup _, _, h => by
    obtain ⟨b, ys, q, t, r⟩ := h
    refine ⟨b, ys, q, ?_, RepAll.goA g ho hl r⟩
    rcases t with (t | ⟨o, t⟩) | t
    · exact .inl (.inl (g.cells _ _ (ne_of t hl (by intro z; cases z)) t))
    · exact .inl (.inr ⟨o, g.cells _ _ (ne_of t hl (by intro z; cases z)) t⟩)
    · exact .inr t
  | .lst _, _, h => by
    obtain ⟨b, ys, q, t, r⟩ := h
    have nb : b ≠ a := by rintro rfl; exact ho t.2
    exact ⟨b, ys, q, ⟨g.cells _ _ nb t.1, (g.own b nb (by rw [t.1]; intro z; cases z)).trans t.2⟩, RepAll.goA g ho hl r⟩
  | .dic _ _, _, h => h
  | .fn _, _, h => h
  | .ty _, _, h => h
theorem RepAll.goA (g : GoA a O O' H H') (ho : O a ≠ .free) (hl : H a = some (.lst zs)) : ∀ {ds : List D} {ys : List V}, RepAll K mg O H ds ys → RepAll K mg O' H' ds ys
  | [], _, h => h
  | _ :: _, _, h => by obtain ⟨x, r, q, a, b⟩ := h; exact ⟨x, r, q, Rep.goA g ho hl a, RepAll.goA g ho hl b⟩
end
end
abbrev MIO := List D → M (List D)
def ioEnd (σ' : En) : M (List D) := match (σ'[(0 : Nat)]? : Option Slot) with
  | some (.ow true ys) => pure ys
  | _ => bad
def fnIO (n N : Nat) (b : MS) : MIO := fun ds => match ds with
  | .lst xs :: ds' => if ds'.length + 1 = n then do
      let fl ← b (.ow true xs :: ds'.map slotOf ++ List.replicate (N - n) .emp)
      match fl with
      | .nx σ' => ioEnd σ'
      | _ => bad
    else bad
  | _ => bad
def R.noMv : R → Bool
  | .mv _ => false
  | _ => true
def cIO (i : Nat) (mf : MIO) (ms : MA) : MS := fun σ => do
  let rs ← ms σ
  match σ[i]? with
  | some (.ow p xs) => (if rs.all R.noMv = true then (do
      let ys ← mf (.lst xs :: rs.map R.arg)
      pure (.nx (σ.set i (.ow p ys)))) else bad)
  | _ => bad
section
variable {X : Cx} {x y : Str} {ps : List Str} {k i : Nat} {mf : MIO} {p q pos pos' : Pos} {es : List Expr} {ms : MA}
end
/-! ### for x in xs, xs one's own list that the body leaves -/
omit [L2.TabP] in
@[simp] theorem e_noMvv {d : D} : R.noMv (.v d) = true := rfl
omit [L2.TabP] in
@[simp] theorem e_noMvf {xs : List D} : R.noMv (.fr xs) = true := rfl
omit [L2.TabP] in
@[simp] theorem e_noMvw {xs : List D} : R.noMv (.vw xs) = true := rfl
omit [L2.TabP] in
@[simp] theorem e_io {i : Nat} {mf : MIO} {ms : MA} {σ : En} : cIO i mf ms σ = (do
  let rs ← ms σ
  match σ[i]? with
  | some (.ow p xs) => (if rs.all R.noMv = true then (do
      let ys ← mf (.lst xs :: rs.map R.arg)
      pure (.nx (σ.set i (.ow p ys)))) else bad)
  | _ => bad) := rfl
omit [L2.TabP] in
@[simp] theorem e_ioEnd {σ : En} : ioEnd σ = match (σ[(0 : Nat)]? : Option Slot) with
  | some (.ow true ys) => pure ys
  | _ => bad := rfl
omit [L2.TabP] in
@[simp] theorem e_fnIO {n N : Nat} {b : MS} {xs ds : List D} : fnIO n N b (.lst xs :: ds) = if ds.length + 1 = n then (do
      let fl ← b (.ow true xs :: ds.map slotOf ++ List.replicate (N - n) .emp)
      match fl with
      | .nx σ' => ioEnd σ'
      | _ => bad) else bad := rfl
omit [L2.TabP] in
@[simp] theorem e_pop {xs : List D} : uPop xs [] = match xs[xs.length - 1]? with
    | some d => pure (.v d, xs.dropLast)
    | none => bad := rfl
omit [L2.TabP] in
@[simp] theorem e_catL {x y : R} : oCatL x y = match x.own, y.own with
  | some xs, some ys => if xs.length + ys.length ≤ sizeLine then pure (.fr (xs ++ ys)) else bad
  | _, _ => bad := rfl
omit [L2.TabP] in
@[simp] theorem e_catT {xs ys : List D} : oCatT (.v (.tup xs)) (.v (.tup ys)) = if xs.length + ys.length ≤ sizeLine then pure (.v (.tup (xs ++ ys))) else bad := rfl
omit [L2.TabP] in
@[simp] theorem e_while {c : En → M Bool} {b : MS} {σ : En} : cWhile c b σ = wLoop c b wFuel σ := rfl
omit [L2.TabP] in
@[simp] theorem s_div {i j : Int} (h1 : 0 < j) (h2 : j < 10 ^ 200) : CDivB i j := divB h1 h2
omit [L2.TabP] in
theorem atI_mem {α : Type} {xs : List α} {i : Int} {v : α} (h : atI xs i = some v) : v ∈ xs := by
  obtain ⟨j, _, e, _⟩ := atI_get h
  exact List.mem_of_getElem? e
omit [L2.TabP] in
theorem atI_some {α : Type} {xs : List α} {i : Int} (h0 : 0 ≤ i) (h1 : i < xs.length) : ∃ v, atI xs i = some v := by
  have hl : i.toNat < xs.length := by omega
  refine ⟨xs[i.toNat], ?_⟩
  have := at_k (xs := xs) i.toNat (v := xs[i.toNat]) (by simp [hl])
  rwa [Int.toNat_of_nonneg h0] at this
end L3

set_option Elab.async false
set_option linter.all false
set_option maxRecDepth 100000
set_option maxHeartbeats 1000000
namespace L3
open PySem PySem.Spec L2
variable [L2.TabP]
/-! ### a, b = e and for a, b in e -/
def setsD : List Nat → List D → En → En
  | i :: is, d :: ds, σ => setsD is ds (σ.set i (.val d))
  | _, _, σ => σ
def gNames : List Nat → TGs
  | [] => gNil
  | i :: is => gCons (gName i) (gNames is)
def cUnp (is : List Nat) (m : ME) : MS := fun σ => do
  let r ← m σ
  match r with
  | .v (.tup ds) => if ds.length = is.length then pure (.nx (setsD is ds σ)) else bad
  | _ => bad
theorem unp_sim {K : PySem.W.Frag} {mg : Str → Option Value} {O : Ow} {S : Store} {H : Hp} : ∀ {is : List Nat} {ds : List D} {xs : List V} {σ : En} {σV : St} {Q : St → Hp → Prop}, S3 K mg O σ S σV H → RepAll K mg O H ds xs → ds.length = is.length →
    (∀ σV', S3 K mg O (setsD is ds σ) S σV' H → Kp σ (setsD is ds σ) σV σV' → Q σV' H) → gNames is xs σV H Q
  | [], [], xs, σ, σV, Q, st, ra, hl, q => ⟨ra, q σV st (Kp.refl _ _)⟩
  | [], _ :: _, xs, σ, σV, Q, st, ra, hl, q => by cases hl
  | _ :: _, [], xs, σ, σV, Q, st, ra, hl, q => by cases hl
  | i :: is, d :: ds, xs, σ, σV, Q, st, ra, hl, q => by
    obtain ⟨y, r, e, ry, rr⟩ := ra
    refine ⟨y, r, e, ?_⟩
    exact unp_sim (is := is) (st.val ry) rr (by simpa using hl) fun σV' st' k => q σV' st' (Kp.trans (Kp.set fun xs z => by cases z) k)
section
variable {X : Cx} {pos tpos : Pos} {is : List Nat} {e : Expr} {m : ME} {es : List Expr} {k : Nat} {iter : Expr} {it : MI} {body : List Stmt} {b : MS}
theorem pgs_names_cons {i : Nat} {x : Str} {p : Pos} (hN : X.N.Nodup) (hi : X.N[i]? = some x) (hx : Loc X.env.scope x) (h : PGs X es (gNames is)) (hs : (assignEach (.Name x p :: es) X.env).map (·.2) = assign (.Name x p) X.env :: (assignEach es X.env).map (·.2) := by rfl)
    (hf : X.fn x = true ∨ X.env.scope.names.lookup x = some .local := by first | exact .inl rfl | exact .inr rfl | assumption) : PGs X (.Name x p :: es) (gNames (i :: is)) := pgs_cons (pg_name hN hi hx hf) h hs
theorem pgs_names_nil : PGs X [] (gNames []) := pgs_nil
theorem cs_unp (hc : X.calm = true) (hg : PGs X es (gNames is)) (he : CE X e m) (hn : (assignEach es X.env).length = is.length := by rfl) (hst : (assignEach es X.env).findIdx? (·.1) = none := by rfl)
    (hs : swapsWithSole [.Tuple es k tpos] e pos.line X.env = pure false := by rfl) (hw : swappedStores [.Tuple es k tpos] e X.env = pure none := by rfl) (h1 : (assignEach [.Tuple es k tpos] X.env).map (·.2) = [assign (.Tuple es k tpos) X.env] := by rfl) :
    CS X (.Assign [.Tuple es k tpos] e pos) (cUnp is m) := ps_imp (ps_asg he (pg_tup hc hg hn hst) hs hw h1) fun D σV H ⟨O, σ, S, fl, S', st, h, q⟩ => by
  obtain ⟨r, S1, h1, h⟩ := M.inv h
  split at h
  · rename_i ds
    by_cases c : ds.length = is.length
    · rw [if_pos c] at h
      cases h
      refine ⟨O, σ, S, _, _, st, h1, fun O1 v H1 g1 st1 rr nn => ?_⟩
      obtain ⟨a, ys, rfl, t, ra⟩ := rr
      refine ⟨a, ys, rfl, t, by rw [ra.len, c], unp_sim st1 ra c fun σV' st' k => q O1 σV' H1 g1.gs st' k⟩
    · rw [if_neg c] at h; cases h
  · cases h
def cForT (is : List Nat) (it : MI) (b : MS) : MS := fun σ => do
  let ds ← it σ
  fLoop (fun d σ => match d with
    | .tup es => if es.length = is.length then b (setsD is es σ) else bad
    | _ => bad) ds σ
end
omit [L2.TabP] in
@[simp] theorem e_unp {is : List Nat} {m : ME} {σ : En} : cUnp is m σ = (do
  let r ← m σ
  match r with
  | .v (.tup ds) => if ds.length = is.length then pure (.nx (setsD is ds σ)) else bad
  | _ => bad) := rfl
omit [L2.TabP] in
@[simp] theorem e_sets {i : Nat} {is : List Nat} {d : D} {ds : List D} {σ : En} : setsD (i :: is) (d :: ds) σ = setsD is ds (σ.set i (.val d)) := rfl
omit [L2.TabP] in
@[simp] theorem e_sets0 {ds : List D} {σ : En} : setsD [] ds σ = σ := by cases ds <;> rfl
omit [L2.TabP] in
@[simp] theorem e_forT {is : List Nat} {it : MI} {b : MS} {σ : En} : cForT is it b σ = (do
  let ds ← it σ
  fLoop (fun d σ => match d with
    | .tup es => if es.length = is.length then b (setsD is es σ) else bad
    | _ => bad) ds σ) := rfl
end L3

set_option Elab.async false
set_option linter.all false
set_option maxRecDepth 100000
set_option maxHeartbeats 1000000
namespace L3
open PySem PySem.Spec L2
variable [L2.TabP]
/-! ### an own list is lent while a statement runs: looked at only -/
def lendEnd (j : Nat) (p : Bool) (xs : List D) : Fl → M Fl
  | .nx σ' => match (σ'[j]? : Option Slot) with
    | some (.vw _) => pure (.nx (σ'.set j (.ow p xs)))
    | _ => bad
  | .rt r => pure (.rt r)
  | _ => bad
def cLend (j : Nat) (m : MS) : MS := fun σ => match σ[j]? with
  | some (.ow p xs) => do
    let fl ← m (σ.set j (.vw xs))
    lendEnd j p xs fl
  | _ => bad
section
variable {K : PySem.W.Frag} {mg : Str → Option Value} {O : Ow} {H : Hp}
end
omit [L2.TabP] in
@[simp] theorem e_lend {j : Nat} {m : MS} {σ : En} : cLend j m σ = match σ[j]? with
  | some (.ow p xs) => do
    let fl ← m (σ.set j (.vw xs))
    lendEnd j p xs fl
  | _ => bad := rfl
omit [L2.TabP] in
@[simp] theorem e_lendr {j : Nat} {p : Bool} {xs : List D} {r : R} : lendEnd j p xs (.rt r) = pure (.rt r) := rfl
omit [L2.TabP] in
@[simp] theorem e_lendn {j : Nat} {p : Bool} {xs : List D} {σ' : En} : lendEnd j p xs (.nx σ') = match (σ'[j]? : Option Slot) with
    | some (.vw _) => pure (.nx (σ'.set j (.ow p xs)))
    | _ => bad := rfl
end L3

set_option Elab.async false
set_option linter.all false
set_option maxRecDepth 100000
set_option maxHeartbeats 1000000
namespace L2
open PySem PySem.Spec PyProof.Rows
variable [L2.TabP]
/-! ### sum of a list of ints -/
end L2
namespace L3
open PySem PySem.Spec L2
variable [L2.TabP]
def nums : List D → Option (List Int)
  | [] => some []
  | .int b :: r => (nums r).map (b :: ·)
  | _ => none
def fSum : List R → M R
  | [x] => match x.lis.bind nums with
    | some bs => pure (.v (.int bs.sum))
    | none => bad
  | _ => bad
section
variable {K : PySem.W.Frag} {mg : Str → Option Value}
theorem nums_rep {O : Ow} {H : Hp} : ∀ {ds : List D} {ys : List V} {bs : List Int}, RepAll K mg O H ds ys → nums ds = some bs → ys = bs.map V.int
  | [], ys, bs, h, e => by cases e; exact h
  | d :: ds, ys, bs, h, e => by
    cases d with
    | int b =>
      have e : (nums ds).map (b :: ·) = some bs := e
      obtain ⟨cs, e1, rfl⟩ := Option.map_eq_some_iff.mp e
      obtain ⟨y, r, rfl, h1, h2⟩ := h
      rw [nums_rep h2 e1, show y = .int b from h1]; rfl
    | _ => exact absurd (show (none : Option (List Int)) = some bs from e) (by intro z; cases z)
end
omit [L2.TabP] in
@[simp] theorem e_sum {x : R} : fSum [x] = match x.lis.bind nums with
    | some bs => pure (.v (.int bs.sum))
    | none => bad := rfl
end L3

set_option Elab.async false
set_option linter.all false
set_option maxRecDepth 100000
set_option maxHeartbeats 1000000
namespace L3
open PySem PySem.Spec L2
/-! ### the rules over judgements that stay shut -/
section
variable [L2.TabP] (X : Cx)
structure WE (e : Expr) (m : ME) : Prop where
  un : CE X e m
structure WT (e : Expr) (m : En → M Bool) : Prop where
  un : CT X e m
structure WW (e : Expr) (m : En → M Bool) : Prop where
  un : CW X e m
structure WA (e : List Expr) (m : MA) : Prop where
  un : CA X e m
structure WO (e : Option Expr) (m : MO) : Prop where
  un : CO X e m
structure WS (e : Stmt) (m : MS) : Prop where
  un : CS X e m
structure WSs (e : List Stmt) (m : MS) : Prop where
  un : CSs X e m
structure WIc (tg e : Expr) (m : MI) : Prop where
  un : CIc X tg e m
structure WIf (tg e : Expr) (m : MI) : Prop where
  un : CIf X tg e m
structure WFs (e : List Expr) (m : En → M Bool) : Prop where
  un : CFs X e m
end
section
variable [L2.TabP]
variable {X : Cx} {a b c e : Expr} {ma mb mc m : ME} {ta tb : En → M Bool} {pos : Pos}
theorem we_var (i : Nat) {x : Str} {pos : Pos} (hN : X.N[i]? = some x := by rfl) (hv : Vis X.env.scope x := by first | exact Or.inl rfl | exact Or.inr (Or.inl rfl) | exact Or.inr (Or.inr rfl)) (hd : (x == ("__debug__" : Str)) = false := by decide) (hcd : (x == ("__classdict__" : Str)) = false := by decide) : WE X (.Name x pos) (cVar i) := ⟨ce_var i hN hv hd hcd⟩
end
section
variable [L2.TabP]
variable {X : Cx} {e : Expr} {es : List Expr} {m : ME} {ms : MA} {pos : Pos}
theorem wa_cons (ha : WE X e m) (hr : WA X es ms) (hs : starEach (e :: es) X.env = (false, eval e X.env) :: starEach es X.env := by rfl) : WA X (e :: es) (cCons m ms) := ⟨ca_cons ha.un hr.un hs⟩
end
section
variable [L2.TabP]
variable {X : Cx} {a b c e : Expr} {ma mb mc m : ME} {ta tb : En → M Bool} {pos : Pos}
theorem we_int {i j pos} : WE X (.Constant (.int i) j pos) (cK (.int i)) := ⟨ce_int⟩
end
section
variable [L2.TabP]
variable {X : Cx} {e : Expr} {es : List Expr} {m : ME} {ms : MA} {pos : Pos}
theorem wa_nil  : WA X [] cNil := ⟨ca_nil⟩
end
section
variable [L2.TabP]
variable {X : Cx} {a b c e : Expr} {ma mb mc m : ME} {ta tb : En → M Bool} {pos : Pos}
theorem we_op {op : Operator} {r : R2} {f : R → R → M R} (ho : OpR X (binaryOp op) r) (hf : Bin X.K X.mg r f) (ha : WE X a ma) (hb : WE X b mb) : WE X (.BinOp a op b pos) (c2 f ma mb) := ⟨ce_op ho hf ha.un hb.un⟩
end
section
variable [L2.TabP]
variable {X : Cx} {st : Stmt} {rest : List Stmt} {pos : Pos} {a b : MS} {e : Expr} {m : ME}
theorem wss_cons (h1 : WS X st a) (h2 : WSs X rest b) : WSs X (st :: rest) (cSeq a b) := ⟨css_cons h1.un h2.un⟩
end
section
variable [L2.TabP]
variable {X : Cx} {st : Stmt} {rest : List Stmt} {pos : Pos} {a b : MS} {e : Expr} {m : ME}
theorem wss_one (h : WS X st a) : WSs X [st] a := ⟨css_one h.un⟩
end
section
variable [L2.TabP]
variable {X : Cx} {a b c e : Expr} {ma mb mc m : ME} {ta tb : En → M Bool} {pos : Pos}
theorem we_ix {r : R2} {f : R → R → M R} (ho : IxR X r) (hf : Bin X.K X.mg r f) (ha : WE X a ma) (hb : WE X b mb) (hs : PlainIx b) : WE X (.Subscript a b pos) (c2 f ma mb) := ⟨ce_ix ho hf ha.un hb.un hs⟩
end
section
variable [L2.TabP]
variable {X : Cx} {st : Stmt} {rest : List Stmt} {pos : Pos} {a b : MS} {e : Expr} {m : ME}
theorem ws_ret (he : WE X e m) : WS X (.Return (some e) pos) (cRet m) := ⟨cs_ret he.un⟩
end
section
variable [L2.TabP]
variable {X : Cx} {e : Expr} {es : List Expr} {m : ME} {ms : MA} {pos : Pos}
theorem we_tup {x1} (h : WA X es ms) : WE X (.Tuple es x1 pos) (cTup ms) := ⟨ce_tup h.un⟩
end
section
variable [L2.TabP]
variable {X : Cx} {st : Stmt} {rest : List Stmt} {pos : Pos} {a b : MS} {e : Expr} {m : ME}
variable {i : Nat} {x : Str} {pos' : Pos}
theorem ws_set (hN : X.N.Nodup) (hi : X.N[i]? = some x) (hx : Loc X.env.scope x) (he : WE X e m) (hs : swapsWith e (some (.Name x pos')) pos.line X.env = pure false := by rfl) (hf : X.fn x = true ∨ X.env.scope.names.lookup x = some .local := by first | exact .inl rfl | exact .inr rfl | assumption) : WS X (.Assign [.Name x pos'] e pos) (cSet i m) := ⟨cs_set hN hi hx he.un hs hf⟩
end
section
variable [L2.TabP]
variable {X : Cx} {x : Str} {ps : List Str} {k : Nat} {mf : MF} {p pos : Pos} {e : Expr} {es : List Expr} {ms : MA}
theorem we_call (h : Has X.prog X.w X.K X.mg X.base x ps k (spF X.K X.mg mf)) (hr : Room k X.A) (hg : Gl X x) (ha : WA X (e :: es) ms) (hdb : (x == ("__debug__" : Str)) = false := by decide) (he : starEach (e :: es) X.env = (false, eval e X.env) :: starEach es X.env := by rfl) (hpl : (backTo pos (starEach es X.env)).any (·.1) = false := by rfl) : WE X (.Call (.Name x p) (e :: es) [] pos) (cCall mf ms) := ⟨ce_call h hr hg ha.un hdb he hpl⟩
end
section
variable [L2.TabP]
variable {X : Cx} {x : Str} {ps : List Str} {k : Nat} {mf : MF} {p pos : Pos} {e : Expr} {es : List Expr} {ms : MA}
end
section
variable [L2.TabP]
variable {X : Cx} {e : Expr} {es : List Expr} {ms : MA} {pos p : Pos} {x : Str} {id T : String} {r : List V → Hp → VK → Prop} {f : List R → M R}
theorem we_callB (hc : CallR X (.builtin id) r) (hf : BinC X.K X.mg r f) (hg : Gl X x) (hm : X.mg x = none) (hv : bootBuiltins x = some (.builtin id)) (ha : WA X (e :: es) ms) (hn : x ≠ "__name__" := by decide) (hdb : (x == ("__debug__" : Str)) = false := by decide) (he : starEach (e :: es) X.env = (false, eval e X.env) :: starEach es X.env := by rfl) (hpl : (backTo pos (starEach es X.env)).any (·.1) = false := by rfl) : WE X (.Call (.Name x p) (e :: es) [] pos) (cB f ms) := ⟨ce_callB hc hf hg hm hv ha.un hn hdb he hpl⟩
end
section
variable [L2.TabP]
variable {X : Cx} {st : Stmt} {rest : List Stmt} {pos : Pos} {a b : MS} {e : Expr} {m : ME}
theorem ws_if {c : Expr} {A B : List Stmt} {t : En → M Bool} (hc : WT X c t) (ha : WSs X A a) (hb : WSs X B b) : WS X (.If c A B pos) (cIfS t a b) := ⟨cs_if hc.un ha.un hb.un⟩
end
section
variable [L2.TabP]
variable {X : Cx} {st : Stmt} {rest : List Stmt} {pos : Pos} {a b : MS} {e : Expr} {m : ME}
theorem wss_nil  : WSs X [] cPass := ⟨css_nil⟩
end
section
variable [L2.TabP]
variable {X : Cx} {a b c e : Expr} {ma mb mc m : ME} {ta tb : En → M Bool} {pos : Pos}
theorem wt_cmp {op : CmpOp} {r : R2} {f : R → R → M R} (ho : OpR X (compareOp op) r) (hf : Bin X.K X.mg r f) (ha : WE X a ma) (hb : WE X b mb) (hm : behindInMarks op b = false) : WT X (.Compare a [op] [b] pos) (cT (c2 f ma mb)) := ⟨ct_cmp ho hf ha.un hb.un hm⟩
end
section
variable [L2.TabP]
variable {X : Cx} {a b c e : Expr} {ma mb mc m : ME} {ta tb : En → M Bool} {pos : Pos}
variable {rest : List Expr}
end
section
variable [L2.TabP]
variable {X : Cx} {a b c e : Expr} {ma mb mc m : ME} {ta tb : En → M Bool} {pos : Pos}
end
section
variable [L2.TabP]
variable {X : Cx} {e : Expr} {es : List Expr} {m : ME} {ms : MA} {pos : Pos}
theorem we_lst (h : WA X es ms) : WE X (.List es pos) (cLst ms) := ⟨ce_lst h.un⟩
end
section
variable [L2.TabP]
variable {X : Cx} {a b c e : Expr} {ma mb mc m : ME} {ta tb : En → M Bool} {pos : Pos}
theorem we_bl {b j pos} : WE X (.Constant (.bool b) j pos) (cK (.bl b)) := ⟨ce_bl⟩
end
section
variable [L2.TabP]
variable {X : Cx} {a b c e : Expr} {ma mb mc m : ME} {ta tb : En → M Bool} {pos : Pos}
variable {rest : List Expr}
end
section
variable [L2.TabP]
variable {X : Cx} {a b c e : Expr} {ma mb mc m : ME} {ta tb : En → M Bool} {pos : Pos}
variable {rest : List Expr}
theorem ww_or (ha : WT X a ta) (hb : WW X (.BoolOp .Or (b :: rest) pos) tb) : WW X (.BoolOp .Or (a :: b :: rest) pos) (tOrM ta tb) := ⟨cw_or ha.un hb.un⟩
end
section
variable [L2.TabP]
variable {X : Cx} {a b c e : Expr} {ma mb mc m : ME} {ta tb : En → M Bool} {pos : Pos}
theorem we_str {x j pos} : WE X (.Constant (.str x) j pos) (cK (.str x)) := ⟨ce_str⟩
end
section
variable [L2.TabP]
variable {X : Cx} {a b c e : Expr} {ma mb mc m : ME} {ta tb : En → M Bool} {pos : Pos}
theorem we_non {j pos} : WE X (.Constant .none j pos) (cK .non) := ⟨ce_non⟩
end
section
variable [L2.TabP]
variable {X : Cx} {a b c e : Expr} {ma mb mc m : ME} {ta tb : En → M Bool} {pos : Pos}
theorem we_cmp {op : CmpOp} {r : R2} {f : R → R → M R} (ho : OpR X (compareOp op) r) (hf : Bin X.K X.mg r f) (ha : WE X a ma) (hb : WE X b mb) (hm : behindInMarks op b = false) : WE X (.Compare a [op] [b] pos) (c2 f ma mb) := ⟨ce_cmp ho hf ha.un hb.un hm⟩
end
section
variable [L2.TabP]
variable {X : Cx} {tg iter : Expr} {it : MI} {i : Nat} {b : MS} {body : List Stmt} {pos tpos : Pos} {x : Str} {c : Expr} {t : En → M Bool}
theorem ws_for (hp : PassesOwn (model X.prog X.w) X.A X.env X.xe) (hc : X.calm = true) (hi : WIf X (.Name x tpos) iter it) (hN : X.N.Nodup) (hx : X.N[i]? = some x) (hl : Loc X.env.scope x) (hb : WSs X body b) (hs : ∀ x, foldedSetIterable iter X.env x = pure x := by intro _; rfl) (hf : X.fn x = true ∨ X.env.scope.names.lookup x = some .local := by first | exact .inl rfl | exact .inr rfl | assumption) : WS X (.For (.Name x tpos) iter body [] pos) (cFor i it b) := ⟨cs_for hp hc hi.un hN hx hl hb.un hs hf⟩
end
section
variable [L2.TabP]
variable {X : Cx} {a b c e : Expr} {ma mb mc m : ME} {ta tb : En → M Bool} {pos : Pos}
variable {rest : List Expr}
end
section
variable [L2.TabP]
variable {X : Cx} {a b c e : Expr} {ma mb mc m : ME} {ta tb : En → M Bool} {pos : Pos}
variable {rest : List Expr}
end
section
variable [L2.TabP]
variable {X : Cx} {a b c e : Expr} {ma mb mc m : ME} {ta tb : En → M Bool} {pos : Pos}
variable {rest : List Expr}
theorem ww_or1 (ha : WT X a ta) : WW X (.BoolOp .Or [a] pos) ta := ⟨cw_or1 ha.un⟩
end
section
variable [L2.TabP]
variable {X : Cx} {a b c e : Expr} {ma mb mc m : ME} {ta tb : En → M Bool} {pos : Pos}
variable {rest : List Expr}
theorem ww_and (ha : WT X a ta) (hb : WW X (.BoolOp .And (b :: rest) pos) tb) : WW X (.BoolOp .And (a :: b :: rest) pos) (tAndM ta tb) := ⟨cw_and ha.un hb.un⟩
end
section
variable [L2.TabP]
variable {X : Cx} {e : Expr} {m : ME} {lo hi : Option Expr} {ml mh : MO} {pos p2 : Pos}
theorem wo_some (he : WE X e m) : WO X (some e) (cPart m) := ⟨co_some he.un⟩
end
section
variable [L2.TabP]
variable {X : Cx} {e : Expr} {m : ME} {lo hi : Option Expr} {ml mh : MO} {pos p2 : Pos}
theorem wo_none  : WO X none cNoPart := ⟨co_none⟩
end
section
variable [L2.TabP]
variable {X : Cx} {e : Expr} {m : ME} {lo hi : Option Expr} {ml mh : MO} {pos p2 : Pos}
theorem we_slice (he : WE X e m) (hl : WO X lo ml) (hu : WO X hi mh) : WE X (.Subscript e (.Slice lo hi none p2) pos) (cSl m ml mh) := ⟨ce_slice he.un hl.un hu.un⟩
end
section
variable [L2.TabP]
variable {X : Cx} {a b c e : Expr} {ma mb mc m : ME} {ta tb : En → M Bool} {pos : Pos}
variable {rest : List Expr}
end
section
variable [L2.TabP]
variable {X : Cx} {scope esc : Scope} {EN N : List Str} {n : Nat} {cap : List Nat} {elt iter : Expr} {ifs : List Expr} {pos tpos : Pos} {x : Str} {it : MI} {t : En → M Bool} {el : ME}
end
section
variable [L2.TabP]
variable {X : Cx} {x : Str} {i j : Nat} {p apos cpos pos pos' : Pos} {e : Expr} {es : List Expr} {ms : MA} {name y : Str} {id : String} {f : List D → List R → M (R × List D)} {r : V → List V → Hp → VK → Prop}
theorem ws_mut (slot : PySem.Slot "list" name id) (hty : typeOf (.builtin id) = pure (.type "method_descriptor")) (hm : MtM X id r) (hf : BinM X.K X.mg r f) (ha : WA X (e :: es) ms) (hN : X.N[i]? = some x) (hv : Vis X.env.scope x) (hd : (x == ("__debug__" : Str)) = false := by decide) (hcd : (x == ("__classdict__" : Str)) = false := by decide) (hbase : attributeBase (.Name x p) name X.env (eval (.Name x p) X.env) = eval (.Name x p) X.env := by rfl) (hfew : ((backTo cpos (starEach (e :: es) X.env)).all (fun x => !x.1) && (backToKw cpos (keywordEach [] X.env)).all (fun x => x.1.isSome)
      && decide ((e :: es).length + ([] : List Keyword).length + (if ([] : List Keyword).isEmpty then 0 else 1) < 30)) = true := by rfl) (hline : (apos.endLine == cpos.line) = true := by rfl) (hs : starEach (e :: es) X.env = (false, eval e X.env) :: starEach es X.env := by rfl) (hplain : (backTo cpos (starEach es X.env)).any (·.1) = false := by rfl) (hsw : swapsWith (.Call (.Attribute (.Name x p) name apos) (e :: es) [] cpos) none pos.line X.env = pure false := by rfl) : WS X (.Expr (.Call (.Attribute (.Name x p) name apos) (e :: es) [] cpos) pos) (cMutS i f ms) := ⟨cs_mut slot hty hm hf ha.un hN hv hd hcd hbase hfew hline hs hplain hsw⟩
end
section
variable [L2.TabP]
variable {X : Cx} {x : Str} {i j : Nat} {p apos cpos pos pos' : Pos} {e : Expr} {es : List Expr} {ms : MA} {name y : Str} {id : String} {f : List D → List R → M (R × List D)} {r : V → List V → Hp → VK → Prop}
end
section
variable [L2.TabP]
variable {X : Cx} {a b c e : Expr} {ma mb mc m : ME} {ta tb : En → M Bool} {pos : Pos}
variable {rest : List Expr}
theorem ww_and1 (ha : WT X a ta) : WW X (.BoolOp .And [a] pos) ta := ⟨cw_and1 ha.un⟩
end
section
variable [L2.TabP]
variable {X : Cx} {tg l : Expr} {m : ME} {e a b : Expr} {ms : MA} {pos p : Pos}
theorem wf_list (hl : WE X l m) : WIf X tg l (iL m) := ⟨cf_list hl.un⟩
end
section
variable [L2.TabP]
end
section
variable [L2.TabP]
variable {X : Cx} {st : Stmt} {rest : List Stmt} {pos : Pos} {a b : MS} {e : Expr} {m : ME}
variable {i : Nat} {x : Str} {pos' : Pos}
theorem ws_own (hN : X.N.Nodup) (hi : X.N[i]? = some x) (hx : Loc X.env.scope x) (he : WE X e m) (hs : swapsWith e (some (.Name x pos')) pos.line X.env = pure false := by rfl) (hf : X.fn x = true ∨ X.env.scope.names.lookup x = some .local := by first | exact .inl rfl | exact .inr rfl | assumption) : WS X (.Assign [.Name x pos'] e pos) (cOwn i m) := ⟨cs_own hN hi hx he.un hs hf⟩
end
section
variable [L2.TabP]
end
section
variable [L2.TabP]
variable {X : Cx} {a b c e : Expr} {ma mb mc m : ME} {ta tb : En → M Bool} {pos : Pos}
variable {rest : List Expr}
theorem we_not (ha : WE X a ma) : WE X (.UnaryOp .Not a pos) (cNot ma) := ⟨ce_not ha.un⟩
end
section
variable [L2.TabP]
variable {X : Cx} {a b c e : Expr} {ma mb mc m : ME} {ta tb : En → M Bool} {pos : Pos}
variable {rest : List Expr}
end
section
variable [L2.TabP]
variable {X : Cx} {e : Expr} {es : List Expr} {ms : MA} {pos p : Pos} {x : Str} {id T : String} {r : List V → Hp → VK → Prop} {f : List R → M R}
theorem we_callTy (hc : CallR X (.type T) r) (hf : BinC X.K X.mg r f) (hg : Gl X x) (hm : X.mg x = none) (hv : bootBuiltins x = some (.type T)) (ha : WA X (e :: es) ms) (hn : x ≠ "__name__" := by decide) (hdb : (x == ("__debug__" : Str)) = false := by decide) (he : starEach (e :: es) X.env = (false, eval e X.env) :: starEach es X.env := by rfl) (hpl : (backTo pos (starEach es X.env)).any (·.1) = false := by rfl) : WE X (.Call (.Name x p) (e :: es) [] pos) (cB f ms) := ⟨ce_callTy hc hf hg hm hv ha.un hn hdb he hpl⟩
end
section
variable [L2.TabP]
theorem wfs_one {X : Cx} {c : Expr} {t : En → M Bool} (h : WT X c t) : WFs X [c] t := ⟨cfs_one h.un⟩
end
section
variable [L2.TabP]
variable {X : Cx} {tg l : Expr} {m : ME} {e a b : Expr} {ms : MA} {pos p : Pos}
end
section
variable [L2.TabP]
variable {X : Cx} {tg l : Expr} {m : ME} {e a b : Expr} {ms : MA} {pos p : Pos}
end
section
variable [L2.TabP]
variable {X : Cx} {a b c e : Expr} {ma mb mc m : ME} {ta tb : En → M Bool} {pos : Pos}
end
section
variable [L2.TabP]
variable {X : Cx} {x y : Str} {ps : List Str} {k i : Nat} {mf : MIO} {p q pos pos' : Pos} {es : List Expr} {ms : MA}
end
section
variable [L2.TabP]
variable {X : Cx} {tg l : Expr} {m : ME} {e a b : Expr} {ms : MA} {pos p : Pos}
theorem wc_tup (hl : WE X l m) : WIc X tg l (iT m) := ⟨cc_tup hl.un⟩
end
section
variable [L2.TabP]
variable {X : Cx} {tg l : Expr} {m : ME} {e a b : Expr} {ms : MA} {pos p : Pos}
end
section
variable [L2.TabP]
variable {X : Cx} {tg iter : Expr} {it : MI} {i : Nat} {b : MS} {body : List Stmt} {pos tpos : Pos} {x : Str} {c : Expr} {t : En → M Bool}
end
section
variable [L2.TabP]
variable {X : Cx} {tg l : Expr} {m : ME} {e a b : Expr} {ms : MA} {pos p : Pos}
theorem wf_tup (hl : WE X l m) : WIf X tg l (iT m) := ⟨cf_tup hl.un⟩
end
section
variable [L2.TabP]
variable {X : Cx} {tg l : Expr} {m : ME} {e a b : Expr} {ms : MA} {pos p : Pos}
end
section
variable [L2.TabP]
variable {X : Cx} {tg l : Expr} {m : ME} {e a b : Expr} {ms : MA} {pos p : Pos}
end
section
variable [L2.TabP]
variable {X : Cx} {st : Stmt} {rest : List Stmt} {pos : Pos} {a b : MS} {e : Expr} {m : ME}
theorem ws_retO (i : Nat) {x : Str} {p : Pos} (hN : X.N[i]? = some x := by rfl) (hv : Vis X.env.scope x := by first | exact Or.inl rfl | exact Or.inr (Or.inl rfl) | exact Or.inr (Or.inr rfl)) (hd : (x == ("__debug__" : Str)) = false := by decide) (hcd : (x == ("__classdict__" : Str)) = false := by decide) : WS X (.Return (some (.Name x p)) pos) (cRetO i) := ⟨cs_retO i hN hv hd hcd⟩
end
section
variable [L2.TabP]
variable {X : Cx} {st : Stmt} {rest : List Stmt} {pos : Pos} {a b : MS} {e : Expr} {m : ME}
end
section
variable [L2.TabP]
variable {X : Cx} {x : Str} {i j : Nat} {p apos cpos pos pos' : Pos} {e : Expr} {es : List Expr} {ms : MA} {name y : Str} {id : String} {f : List D → List R → M (R × List D)} {r : V → List V → Hp → VK → Prop}
end
section
variable [L2.TabP]
variable {X : Cx} {a b c e : Expr} {ma mb mc m : ME} {ta tb : En → M Bool} {pos : Pos}
end
section
variable [L2.TabP]
variable {X : Cx} {pos tpos : Pos} {is : List Nat} {e : Expr} {m : ME} {es : List Expr} {k : Nat} {iter : Expr} {it : MI} {body : List Stmt} {b : MS}
theorem ws_unp (hc : X.calm = true) (hg : PGs X es (gNames is)) (he : WE X e m) (hn : (assignEach es X.env).length = is.length := by rfl) (hst : (assignEach es X.env).findIdx? (·.1) = none := by rfl) (hs : swapsWithSole [.Tuple es k tpos] e pos.line X.env = pure false := by rfl) (hw : swappedStores [.Tuple es k tpos] e X.env = pure none := by rfl) (h1 : (assignEach [.Tuple es k tpos] X.env).map (·.2) = [assign (.Tuple es k tpos) X.env] := by rfl) : WS X (.Assign [.Tuple es k tpos] e pos) (cUnp is m) := ⟨cs_unp hc hg he.un hn hst hs hw h1⟩
end
section
variable [L2.TabP]
variable {X : Cx} {pos tpos : Pos} {is : List Nat} {e : Expr} {m : ME} {es : List Expr} {k : Nat} {iter : Expr} {it : MI} {body : List Stmt} {b : MS}
end
section
variable [L2.TabP]
variable {X : Cx} {a : Expr} {ma : ME} {apos cpos : Pos}
end
section
variable [L2.TabP]
variable {X : Cx} {st : Stmt} {rest : List Stmt} {pos : Pos} {a b : MS} {e : Expr} {m : ME}
end
section
variable [L2.TabP]
variable {X : Cx} {st : Stmt} {rest : List Stmt} {pos : Pos} {a b : MS} {e : Expr} {m : ME}
end
section
variable [L2.TabP]
variable {X : Cx} {st : Stmt} {rest : List Stmt} {pos : Pos} {a b : MS} {e : Expr} {m : ME}
end
section
variable [L2.TabP]
variable {X : Cx} {st : Stmt} {rest : List Stmt} {pos : Pos} {a b : MS} {e : Expr} {m : ME}
end
section
variable [L2.TabP]
variable {X : Cx} {st : Stmt} {rest : List Stmt} {pos : Pos} {a b : MS} {e : Expr} {m : ME}
end
section
variable [L2.TabP]
variable {K : PySem.W.Frag} {mg : Str → Option Value} {O : Ow} {H : Hp}
end
section
variable [L2.TabP]
variable {X : Cx} {a b c e : Expr} {ma mb mc m : ME} {ta tb : En → M Bool} {pos : Pos}
variable {rest : List Expr}
theorem WW.ct (h : WW X a ta) : WT X a ta := ⟨CW.ct h.un⟩
end
section
variable [L2.TabP]
variable {X : Cx} {scope esc : Scope} {EN N : List Str} {n : Nat} {cap : List Nat} {elt iter : Expr} {ifs : List Expr} {pos tpos : Pos} {x : Str} {it : MI} {t : En → M Bool} {el : ME}
theorem ws_asgO {i : Nat} {y : Str} {py spos : Pos} (S : CpScope esc scope EN N n cap) (hNd : X.N.Nodup) (hi' : X.N[i]? = some y) (hy : X.env.scope.names.lookup y = some .local) (hn : 0 < n) (hi : WIc X (.Name x tpos) iter it) (hx : N[0]? = some x) (hlx : ∀ C fp s H, Loc (cxComp X scope N C fp s H).env.scope x ∧ (cxComp X scope N C fp s H).env.scope.names.lookup x = some .local) (ht : ∀ C fp s H, WFs (cxComp X scope N C fp s H) ifs t) (hel : ∀ C fp s H, WE (cxComp X scope N C fp s H) elt el) (he : X.env.scope = esc := by rfl) (hN : X.N = EN := by rfl) (hc : X.calm = true := by rfl) (hs : ∀ x, foldedSetIterable iter X.env x = pure x := by intro _; rfl) (hsw : swapsWith (.ListComp elt [⟨.Name x tpos, iter, ifs, 0⟩] scope pos) (some (.Name y py)) spos.line X.env = pure true := by rfl) : WS X (.Assign [.Name y py] (.ListComp elt [⟨.Name x tpos, iter, ifs, 0⟩] scope pos) spos) (cOwn i (cComp n cap it t el)) := ⟨ps_imp (asg_comp S hNd hi' hy hn hi.un hx hlx (fun C fp s H => (ht C fp s H).un) (fun C fp s H => (hel C fp s H).un) he hN hc hs hsw) (own_read (comp_read hn))⟩
end
section
variable [L2.TabP]
variable {X : Cx} {scope esc : Scope} {EN N : List Str} {n : Nat} {cap : List Nat} {elt iter : Expr} {ifs : List Expr} {pos tpos : Pos} {x : Str} {it : MI} {t : En → M Bool} {el : ME}
end
end L3

set_option Elab.async false
set_option linter.all false
set_option maxRecDepth 100000
set_option maxHeartbeats 1000000
namespace L3
open PySem PySem.Spec L2 PyProof.Rows
/-! ### sorting by keys -/
@[reducible] def intKK : PyProof.Rows.KeyKind where
  α := Int
  blt a b := decide (a < b)
  irrefl a := by simp
  trans a b c h1 h2 := by simp only [decide_eq_true_eq] at *; omega
  negTrans a b c h := by simp only [decide_eq_true_eq] at *; omega
  total a b h1 h2 := by simp only [decide_eq_false_iff_not] at *; omega
  keyOf v := match v with | .int i _ => some i | _ => none
  dflt := 0
theorem intKK_one : intKK.OneLt := by
  intro prog w A E s x y a b Q ha hb h
  cases x <;> simp only [intKK, reduceCtorEq, Option.some.injEq] at ha
  cases y <;> simp only [intKK, reduceCtorEq, Option.some.injEq] at hb
  cases ha; cases hb
  exact oneLt_int h
/-- keys of one kind, as data -/
structure KO where
  κ : PyProof.Rows.KeyKind
  kd : κ.α → D
  un : D → Option κ.α
structure KO.Ok (Z : KO) : Prop where
  one : Z.κ.OneLt
  un_kd : ∀ d a, Z.un d = some a → d = Z.kd a
  key : ∀ (a : Z.κ.α) (K : PySem.W.Frag) (mg : Str → Option Value) (O : Ow) (H : Hp) (v : V) (u : Value), Rep K mg O H (Z.kd a) v → RelV v u → Z.κ.keyOf u = some a
  kind : ∀ (v₁ v₂ : Value) (vs : List Value), (∀ v ∈ v₁ :: v₂ :: vs, ∃ a, Z.κ.keyOf v = some a) → keyKind' (v₁ :: v₂ :: vs).toArray = pure oneType'
@[reducible] def koInt : KO where
  κ := intKK
  kd := D.int
  un d := match d with | .int i => some i | _ => none
theorem koInt_ok : koInt.Ok where
  one := intKK_one
  un_kd := fun d a h => by cases d <;> first | (cases h; rfl) | cases h
  key := fun a K mg O H v u h r => by
    cases (show v = .int a from h)
    obtain ⟨t, rfl⟩ := r
    rfl
  kind := fun v₁ v₂ vs h => by
    refine keyKind_ints (ns := (v₁ :: v₂ :: vs).map numOf) (intsAre_map _ fun v hv => ?_)
    obtain ⟨a, ha⟩ := h v hv
    cases v <;> first | (cases ha; exact ⟨_, _, rfl⟩) | cases ha
/-! the sorted list, in plain -/
section
variable {β : Type}
def insB (blt : β → β → Bool) (p : β × D) : List (β × D) → List (β × D)
  | [] => [p]
  | q :: r => if blt q.1 p.1 then q :: insB blt p r else p :: q :: r
def sortB (blt : β → β → Bool) : List (β × D) → List (β × D)
  | [] => []
  | p :: r => insB blt p (sortB blt r)
theorem insB_perm (blt : β → β → Bool) (p : β × D) : ∀ l, (insB blt p l).Perm (p :: l)
  | [] => .refl _
  | q :: r => by
    unfold insB
    split
    · exact ((insB_perm blt p r).cons q).trans (.swap p q r)
    · exact .refl _
theorem sortB_perm (blt : β → β → Bool) : ∀ l, (sortB blt l).Perm l
  | [] => .refl _
  | p :: r => (insB_perm blt p _).trans ((sortB_perm blt r).cons p)
end
theorem insB_sorted (O : PyProof.Rows.KeyOrd) (p : O.α × D) : ∀ l : List (O.α × D), l.Pairwise (fun a b => O.blt a.1 b.1 = true) → (∀ q ∈ l, q.1 ≠ p.1) → (insB O.blt p l).Pairwise (fun a b => O.blt a.1 b.1 = true)
  | [], _, _ => List.pairwise_singleton _ _
  | q :: r, h, hn => by
    rw [List.pairwise_cons] at h
    unfold insB
    cases e : O.blt q.1 p.1 with
    | true =>
      rw [if_pos rfl, List.pairwise_cons]
      refine ⟨fun x hx => ?_, insB_sorted O p r h.2 fun x hx => hn x (List.mem_cons_of_mem _ hx)⟩
      rcases List.mem_cons.mp ((insB_perm O.blt p r).mem_iff.mp hx) with rfl | hx
      · exact e
      · exact h.1 x hx
    | false =>
      rw [if_neg Bool.false_ne_true, List.pairwise_cons, List.pairwise_cons]
      have hpq : O.blt p.1 q.1 = true := by
        cases e2 : O.blt p.1 q.1 with
        | true => rfl
        | false => exact absurd (O.total _ _ e e2) (hn q List.mem_cons_self)
      refine ⟨fun x hx => ?_, h.1, h.2⟩
      rcases List.mem_cons.mp hx with rfl | hx
      · exact hpq
      · exact O.trans _ _ _ hpq (h.1 x hx)
theorem sortB_sorted (O : PyProof.Rows.KeyOrd) : ∀ l : List (O.α × D), (l.map (·.1)).Nodup → (sortB O.blt l).Pairwise (fun a b => O.blt a.1 b.1 = true)
  | [], _ => .nil
  | p :: r, h => by
    rw [List.map_cons, List.nodup_cons] at h
    refine insB_sorted O p _ (sortB_sorted O r h.2) fun q hq e => h.1 ?_
    rw [← e]
    exact List.mem_map_of_mem ((sortB_perm O.blt r).mem_iff.mp hq)
/-- two strictly rising lists of the same things are one -/
theorem rising_one {γ : Type} {lt : γ → γ → Prop} (irr : ∀ a, ¬ lt a a) (tr : ∀ a b c, lt a b → lt b c → lt a c) : ∀ {l₁ l₂ : List γ}, l₁.Perm l₂ → l₁.Pairwise lt → l₂.Pairwise lt → l₁ = l₂
  | [], l₂, p, _, _ => (List.nil_perm.mp p).symm
  | a :: l₁, [], p, _, _ => (List.nil_perm.mp p.symm)
  | a :: l₁, b :: l₂, p, h1, h2 => by
    rw [List.pairwise_cons] at h1 h2
    have e : a = b := by
      rcases List.mem_cons.mp (p.mem_iff.mp List.mem_cons_self) with h | h
      · exact h
      · rcases List.mem_cons.mp (p.mem_iff.mpr List.mem_cons_self) with h' | h'
        · exact h'.symm
        · exact (irr _ (tr _ _ _ (h1.1 b h') (h2.1 a h))).elim
    subst e
    rw [rising_one irr tr (List.Perm.cons_inv p) h1.2 h2.2]
/-- what the sort gives is the sorted list -/
theorem sort_one (O : PyProof.Rows.KeyOrd) {l ps : List (O.α × D)} (hn : (l.map (·.1)).Nodup) (hp : ps.Perm l) (hs : ps.Pairwise (fun a b => O.blt a.1 b.1 = true)) : ps = sortB O.blt l :=
  rising_one (lt := fun a b => O.blt a.1 b.1 = true) (fun a => by rw [O.irrefl]; exact Bool.false_ne_true) (fun a b c => O.trans _ _ _) (hp.trans (sortB_perm O.blt l).symm) hs (sortB_sorted O l hn)
theorem strict_of (O : PyProof.Rows.KeyOrd) {ps : List (O.α × D)} (hn : (ps.map (·.1)).Nodup) (h : ps.Pairwise (fun a b => O.blt b.1 a.1 = false)) : ps.Pairwise (fun a b => O.blt a.1 b.1 = true) := by
  induction ps with
  | nil => exact .nil
  | cons p r ih =>
    rw [List.map_cons, List.nodup_cons] at hn
    rw [List.pairwise_cons] at h ⊢
    refine ⟨fun q hq => ?_, ih hn.2 h.2⟩
    cases e : O.blt p.1 q.1 with
    | true => rfl
    | false => exact absurd (List.mem_map_of_mem (f := fun x : O.α × D => x.1) hq) (by rw [← O.total _ _ e (h.1 q hq)]; exact hn.1)
end L3

set_option Elab.async false
set_option linter.all false
set_option maxRecDepth 100000
set_option maxHeartbeats 1000000
namespace L3
open PySem PySem.Spec L2 PyProof.Rows
variable [L2.TabP]
/-- a key's call: f may be called wherever G holds, and is worth what mf says -/
def KeyC (X : Cx) (k : Nat) (f : Addr) (G : Hp → Prop) (mf : MF) : Prop :=
  (∀ H H', Same H H' → G H → G H') ∧ (∀ H p zs o, H p = some (.lst zs) → G H → G (upd H p o)) ∧ ∀ (A : Around) (s : Shared) (H : Hp) (u : Value) (v : V) (Q : VK), Room k A → Env0 X.prog X.w X.K X.mg X.base A X.stack s H → G H → RelV v u → spF X.K X.mg mf [v] H Q E0 →
    codeAny (model X.prog X.w) A (.call (.ref f) ⟨[u], []⟩) (CR CX0 X.stack X.prog X.w H s Q E0) s
def lstP (a : Addr) (e : Nat) : Heap → Prop := fun h => h.get? a = some (seqObj "list" #[] e)
/-- the state between two keys -/
structure KSt (X : Cx) (pins : List (Addr × Obj)) (σ : L2.St) (G : Hp → Prop) (O : Ow) (H : Hp) (a kS : Addr) (e1 : Nat) (ks : List D) (s' : Shared) : Prop where
  ex : ∃ O' H' ys, Inv X pins σ H' s' ∧ Go O O' H H' ∧ Dom O' H' ∧ G H' ∧ H' a = some (.ext (lstP a e1)) ∧ H' kS = some (.lst ys) ∧ RepAll X.K X.mg O' H' ks ys ∧ O' kS = .tmp
section
variable {X : Cx} {pins : List (Addr × Obj)} {σ : L2.St} {H : Hp} {s : Shared} {G : Hp → Prop} {mf : MF} {f a kS : Addr} {k : Nat} {O : Ow} {e1 : Nat}
theorem lst_ext {prog : Program} {w : World} {H : Hp} {h : Heap} (e : h.get? a = some (seqObj "list" #[] e1)) : ObjOk prog w H h a (.ext (lstP a e1)) :=
  ⟨e, ⟨_, e⟩, fun h1 h2 p q => q _ p⟩
theorem ext_ne {H' : Hp} {s' : Shared} (I : Inv X pins σ H' s') (ha : H' a = some (.ext (lstP a e1))) (q : Str) : H' a ≠ some (.ext (cdP a q)) := fun z => by
  obtain ⟨p, _⟩ := I.hok a _ ha
  obtain ⟨p2, _⟩ := I.hok a _ z
  obtain ⟨c, o, vs, t, e1, e2, e3, _⟩ := p2
  cases e1
  have p : s'.heap.get? a = _ := p
  rw [p] at e2
  cases e2
  cases e3
/-- one key -/
theorem key_turn {ks : List D} {d kx : D} {u : Value} {v : V} {s' : Shared} (hC : KeyC X k f G mf) (hr : Room k X.A.in1.in1) (hna : H a = none) (hnk : H kS = none) (hak : kS ≠ a) (rd : Rep X.K X.mg O H d v) (ru : RelV v u) (hd : (mf [d]).run [] = .ok (.v kx) []) (hks : ks.length < 64) (S : KSt X pins σ G O H a kS e1 ks s') :
    wpAny (model X.prog X.w) X.A.in1.in1 (call (.ref f) [u]) (fun u' s2 => ∃ (O' : Ow) (H' : Hp) (ys : List V) (v' : V), Inv X pins σ H' s2 ∧ Go O O' H H' ∧ Dom O' H' ∧ G H' ∧ H' a = some (.ext (lstP a e1)) ∧ H' kS = some (.lst ys) ∧ RepAll X.K X.mg O' H' ks ys ∧ Rep X.K X.mg O' H' kx v' ∧ RelV v' u' ∧ O' kS = .tmp) (fun _ _ => False) s' := by
  obtain ⟨O1, H1, ys, I1, g1, d1, G1, ha, hk, ra, ot⟩ := S.ex
  refine wpAny_call (codeAny_mono (hC.2.2 X.A.in1.in1 s' H1 u v (fun v' H' => ∃ O', Go O1 O' H1 H' ∧ Dom O' H' ∧ Rep X.K X.mg O' H' kx v') hr I1.env0.in1.in1 G1 ru ?_) fun r s2 hq => ?_)
  · refine ⟨O1, [d], .v kx, [], d1, ⟨v, [], rfl, ?_, rfl⟩, hd, fun O' v' H' g dm _ rr _ => ⟨O', g, dm, rr⟩⟩
    have rd1 := rd.go g1
    cases d <;> first | exact rd1 | exact False.elim rd1 | skip
    obtain ⟨x, zs, q, l, r⟩ := rd1
    exact ⟨x, zs, q, l.sq, r⟩
  · cases r with
    | error e => exact False.elim hq
    | ok fl =>
      cases fl with
      | ret u' =>
        obtain ⟨v', H2, I2, rv, O2, g2, d2, r2⟩ := I1.after hq
        exact ⟨O2, H2, ys, v', I2, g1.trans g2, d2, hC.1 _ _ g2.same G1, g2.same.at' _ _ ha, g2.same.at' _ _ hk, ra.go g2, r2, rv, (g2.own kS (by rw [hk]; intro z; cases z)).trans ot⟩
      | next => exact False.elim hq
      | brk => exact False.elim hq
      | cont => exact False.elim hq
/-- the loop over the items, then the rest -/
theorem sort_rest {Z : KO} (hZ : Z.Ok) {ds : List D} {ka : List Z.κ.α} {xs : List V} {us : List Value} {P : PySem.Fin → Shared → Prop} {E : Value → Shared → Prop} (hC : KeyC X k f G mf) (hr : Room k X.A.in1.in1) (hna : H a = none) (hnk : H kS = none) (hak : kS ≠ a)
    (ra : RepAll X.K X.mg O H ds xs) (rv : Vals xs us) (hks : ∀ (i : Nat) (d : D), ds[i]? = some d → ∃ κ, ka[i]? = some κ ∧ (mf [d]).run [] = .ok (.v (Z.kd κ)) []) (hlen : ka.length = ds.length) (h64 : ds.length < 64) (S : KSt X pins σ G O H a kS e1 [] s)
    (fin : ∀ (s' : Shared) (keys : Array Value), KSt X pins σ G O H a kS e1 (ka.map Z.kd) s' → keys.toList.map Z.κ.keyOf = ka.map some → wpAny (model X.prog X.w) X.A.in1.in1 (ksk_end a false us.toArray e1 (.ref kS) keys) P E s') :
    wpAny (model X.prog X.w) X.A.in1.in1 (ksk_rest a (.ref f) false us.toArray e1 (.ref kS)) P E s := by
  have lx := ra.len
  have lu := rv.length
  unfold ksk_rest
  refine wpAny_bind (wpAny_rule ?_)
  first
    | rw [List.forIn_toArray]
    | (rw [← Array.forIn_toList]; simp only [List.toList_toArray])
    | rw [← Array.forIn_toList]
  refine wpAny_bind (ksk_fold (fun i s' => KSt X pins σ G O H a kS e1 ((ka.take i).map Z.kd) s') us 0 s (by rw [List.take_zero]; exact S) ?step ?done)
  case step =>
    intro j u s' hu S'
    simp only [Nat.zero_add] at S' ⊢
    have hj : j < us.length := (List.getElem?_eq_some_iff.mp hu).1
    obtain ⟨v, hv, ru⟩ : ∃ v, xs[j]? = some v ∧ RelV v u := by
      have hv : xs[j]? = some xs[j] := List.getElem?_eq_getElem (by omega)
      obtain ⟨u', hu', r⟩ := rv.get hv
      rw [hu] at hu'; cases hu'
      exact ⟨_, hv, r⟩
    obtain ⟨d, hd, rd⟩ := ra.getV hv
    obtain ⟨κ, hκ, hm⟩ := hks j d hd
    have hz : ((ka.take j).map Z.kd).length < 64 := by rw [List.length_map, List.length_take]; omega
    refine wpAny_bind (wpAny_attempt (wpAny_mono (key_turn hC hr hna hnk hak rd ru hm hz S') (fun u' s2 he => ?_) fun _ _ hF => hF.elim))
    obtain ⟨O2, H2, ys, v', I2, g2, d2, G2, ha2, hk2, ra2, rk2, rv2, ot2⟩ := he
    try dsimp only
    obtain ⟨hsz, its, n, vals, hget⟩ := I2.hok kS _ hk2
    have hil : its.length = (ka.take j).length := by rw [← vals.length, ra2.len, List.length_map]
    have hil2 : its.length < 64 := by rw [hil, List.length_take]; omega
    have s1 := Heap.SameBut.update s2.heap kS (Obj.mapSeq (·.push u'))
    obtain ⟨c2, hc2⟩ : ∃ c2, (s2.heap.update kS (Obj.mapSeq (·.push u'))).get? kS = some (seqObj "list" (its.toArray.push u') c2) := ⟨_, get?_update_seq hget (·.push u')⟩
    refine wpAny_bind (listUpdate_at hget rfl ?_ (by rw [List.size_toArray, sizeLine_eq]; omega) (Nat.le_trans (Nat.le_of_eq (Array.size_push ..)) (by rw [List.size_toArray, sizeLine_eq]; omega)))
    refine wpAny_pure ⟨rfl, ⟨O2, upd H2 kS (.lst (ys ++ [v'])), ys ++ [v'], ?_, ⟨upd_over hnk g2.same hk2 _, g2.own⟩, d2.updL hk2, hC.2.1 _ _ _ _ hk2 G2, by rw [upd_ne hak.symm]; exact ha2, upd_same, ?_, ot2⟩⟩
    · refine I2.write (x := kS) (e := kS) (t' := s2.toks) (by rw [hk2]; trivial) (.inl rfl) (fun b o hb e => (s1.2 b hb).trans e) ⟨_, hc2⟩ ⟨?_, its ++ [u'], c2, vals.append (.cons rv2 .nil), ?_⟩
      · rw [List.length_append, vals.length]; rw [sizeLine_eq]; simp; omega
      · rw [hc2]; simp [seqObj]
    · have ek : ka.take (j + 1) = ka.take j ++ [κ] := by rw [List.take_add_one, hκ]; rfl
      rw [ek, List.map_append]
      exact (ra2.append (.one rk2)).updL (by rw [ot2]; intro z; cases z) hk2
  case done =>
    intro s' S'
    have e3 : ka.take (0 + us.length) = ka := List.take_of_length_le (by omega)
    rw [e3] at S'
    obtain ⟨O2, H2, ys, I2, g2, d2, G2, ha2, hk2, ra2, ot2⟩ := id S'.ex
    obtain ⟨hsz, its, n, vals, hget⟩ := I2.hok kS _ hk2
    refine wpAny_bind (listItems_at hget rfl ?_)
    refine fin s' its.toArray S' ?_
    have key : ∀ (ka : List Z.κ.α) (ys : List V) (its : List Value), RepAll X.K X.mg O2 H2 (ka.map Z.kd) ys → Vals ys its → its.map Z.κ.keyOf = ka.map some := by
      intro ka
      induction ka with
      | nil => intro ys its h r; cases h; cases r; rfl
      | cons κ ka ih =>
        intro ys its h r
        obtain ⟨y, t, rfl, h1, h2⟩ := h
        cases r with
        | cons r1 r2 =>
          rw [List.map_cons, List.map_cons, ih _ _ h2 r2, hZ.key κ _ _ _ _ _ _ h1 r1]
    exact key _ _ _ ra2 vals
end
end L3

set_option Elab.async false
set_option linter.all false
set_option maxRecDepth 100000
set_option maxHeartbeats 1000000
namespace L3
open PySem PySem.Spec L2 PyProof.Rows
theorem perm_lift {α β : Type} (f : α → β) : ∀ {L M : List β}, L.Perm M → ∀ {Q : List α}, M = Q.map f → ∃ Q' : List α, Q'.Perm Q ∧ L = Q'.map f := by
  intro L M h
  induction h with
  | nil =>
    intro Q e
    cases Q with
    | nil => exact ⟨[], .refl _, rfl⟩
    | cons q Q => cases e
  | cons x _ ih =>
    intro Q e
    cases Q with
    | nil => cases e
    | cons q Q =>
      rw [List.map_cons] at e
      injection e with e1 e2
      obtain ⟨Q', p, e3⟩ := ih e2
      exact ⟨q :: Q', p.cons q, by rw [e1, e3]; rfl⟩
  | swap x y l =>
    intro Q e
    cases Q with
    | nil => cases e
    | cons q Q =>
      cases Q with
      | nil => rw [List.map_cons] at e; injection e with _ e2; cases e2
      | cons r Q =>
        rw [List.map_cons, List.map_cons] at e
        injection e with e1 e2
        injection e2 with e2 e3
        exact ⟨r :: q :: Q, .swap _ _ _, by rw [e1, e2, e3]; rfl⟩
  | trans _ _ ih1 ih2 =>
    intro Q e
    obtain ⟨Q1, p1, e1⟩ := ih2 e
    obtain ⟨Q2, p2, e2⟩ := ih1 e1
    exact ⟨Q2, p2.trans p1, e2⟩
variable [L2.TabP]
/-- an item with all that stands for it -/
abbrev Quad (Z : KO) := (Value × Value) × (Z.κ.α × (D × V))
section
variable {K : PySem.W.Frag} {mg : Str → Option Value} {O : Ow} {H : Hp} {Z : KO}
theorem quads {ds : List D} : ∀ {xs : List V} {us keys : List Value} {ka : List Z.κ.α}, RepAll K mg O H ds xs → Vals xs us → keys.map Z.κ.keyOf = ka.map some → ka.length = ds.length →
    ∃ Q : List (Quad Z), Q.map (·.1) = keys.zip us ∧ Q.map (fun q => (q.2.1, q.2.2.1)) = ka.zip ds ∧ ∀ q ∈ Q, Z.κ.keyOf q.1.1 = some q.2.1 ∧ Rep K mg O H q.2.2.1 q.2.2.2 ∧ RelV q.2.2.2 q.1.2 := by
  induction ds with
  | nil =>
    intro xs us keys ka h r e l
    cases h
    cases r
    rw [List.length_eq_zero_iff.mp l] at e ⊢
    have : keys = [] := by cases keys with | nil => rfl | cons => cases e
    subst this
    exact ⟨[], rfl, rfl, fun _ h => (nomatch h)⟩
  | cons d ds ih =>
    intro xs us keys ka h r e l
    obtain ⟨x, t, rfl, h1, h2⟩ := h
    cases r with
    | @cons _ u _ us r1 r2 =>
      cases ka with
      | nil => cases l
      | cons κ ka =>
        cases keys with
        | nil => cases e
        | cons kv keys =>
          rw [List.map_cons, List.map_cons] at e
          injection e with e1 e2
          obtain ⟨Q, q1, q2, q3⟩ := ih h2 r2 e2 (by simpa using l)
          refine ⟨((kv, u), (κ, (d, x))) :: Q, ?_, ?_, fun q hq => ?_⟩
          · rw [List.map_cons, q1]; rfl
          · rw [List.map_cons, q2]; rfl
          · rcases List.mem_cons.mp hq with rfl | hq
            · exact ⟨e1, h1, r1⟩
            · exact q3 q hq
theorem rep_map {α : Type} (f : α → D) (g : α → V) : ∀ l : List α, (∀ q ∈ l, Rep K mg O H (f q) (g q)) → RepAll K mg O H (l.map f) (l.map g)
  | [], _ => rfl
  | q :: l, h => ⟨_, _, rfl, h q List.mem_cons_self, rep_map f g l fun x hx => h x (List.mem_cons_of_mem _ hx)⟩
omit [L2.TabP] in
theorem vals_map {α : Type} (f : α → V) (g : α → Value) : ∀ l : List α, (∀ q ∈ l, RelV (f q) (g q)) → Vals (l.map f) (l.map g)
  | [], _ => .nil
  | q :: l, h => .cons (h q List.mem_cons_self) (vals_map f g l fun x hx => h x (List.mem_cons_of_mem _ hx))
/-- what a sorted array is, in plain -/
theorem sorted_out {ds : List D} {xs : List V} {us : List Value} {keys : Array Value} {ka : List Z.κ.α} (ra : RepAll K mg O H ds xs) (rv : Vals xs us) (hk : keys.toList.map Z.κ.keyOf = ka.map some) (hl : ka.length = ds.length) (hn : ka.Nodup)
    {ar : Array Keyed} (hp : ar.Perm (keys.zip us.toArray)) (hs : SortedToK Z.κ ar ar.size) :
    ∃ ys, Vals ys (ar.map (·.2)).toList ∧ ys.length = ds.length ∧ RepAll K mg O H ((sortB Z.κ.blt (ka.zip ds)).map (·.2)) ys := by
  obtain ⟨Q, q1, q2, q3⟩ := quads ra rv hk hl
  have hp' : ar.toList.Perm (Q.map (·.1)) := by
    rw [q1, ← ksk_zip]
    exact Array.perm_iff_toList_perm.mp hp
  obtain ⟨Q', p', e'⟩ := perm_lift (fun q : Quad Z => q.1) hp' rfl
  have q3' : ∀ q ∈ Q', Z.κ.keyOf q.1.1 = some q.2.1 ∧ Rep K mg O H q.2.2.1 q.2.2.2 ∧ RelV q.2.2.2 q.1.2 := fun q hq => q3 q (p'.mem_iff.mp hq)
  have zl : (ka.zip ds).map (·.1) = ka := by rw [List.map_fst_zip]; omega
  have perm : (Q'.map fun q => (q.2.1, q.2.2.1)).Perm (ka.zip ds) := by rw [← q2]; exact p'.map _
  have nd : ((Q'.map fun q : Quad Z => (q.2.1, q.2.2.1)).map (·.1)).Nodup := by
    have := perm.map (fun p : Z.κ.α × D => p.1)
    rw [zl] at this
    exact this.nodup_iff.mpr hn
  have srt : (Q'.map fun q : Quad Z => (q.2.1, q.2.2.1)).Pairwise (fun a b => Z.κ.blt b.1 a.1 = false) := by
    rw [List.pairwise_map, List.pairwise_iff_getElem]
    intro i j hi hj hij
    have lar : ar.toList.length = Q'.length := by rw [e', List.length_map]
    have hi' : i < ar.size := by rw [Array.length_toList] at lar; omega
    have hj' : j < ar.size := by rw [Array.length_toList] at lar; omega
    have := hs i j (Nat.le_of_lt hij) hj'
    have at' : ∀ (m : Nat) (hm : m < Q'.length) (hm' : m < ar.size), KK Z.κ ar m = Q'[m].2.1 := fun m hm hm' => by
      have e1 : ar[m]? = some Q'[m].1 := by
        have : ar.toList[m]? = some Q'[m].1 := by rw [e', List.getElem?_map, List.getElem?_eq_getElem hm]; rfl
        rwa [Array.getElem?_toList] at this
      unfold KK
      rw [e1]
      show (Z.κ.keyOf Q'[m].1.1).getD Z.κ.dflt = _
      rw [(q3' _ (List.getElem_mem hm)).1]; rfl
    rw [at' i hi hi', at' j hj hj'] at this
    exact this
  have one := sort_one Z.κ.toKeyOrd (by rw [zl]; exact hn) perm (strict_of Z.κ.toKeyOrd nd srt)
  refine ⟨Q'.map fun q => q.2.2.2, ?_, ?_, ?_⟩
  · have : (ar.map (·.2)).toList = Q'.map fun q => q.1.2 := by
      rw [Array.toList_map, e', List.map_map]; rfl
    rw [this]
    exact vals_map _ _ _ fun q hq => (q3' q hq).2.2
  · rw [List.length_map, p'.length_eq]
    have := congrArg List.length q2
    rw [List.length_map, List.length_zip, hl, Nat.min_self] at this
    exact this
  · rw [← one, List.map_map]
    exact rep_map _ _ _ fun q hq => (q3' q hq).2.1
end
section
variable {X : Cx} {pins : List (Addr × Obj)} {σ : L2.St} {H : Hp} {s : Shared} {G : Hp → Prop} {mf : MF} {f a kS : Addr} {k : Nat} {O : Ow} {e1 : Nat} {Z : KO} {ds : List D} {ka : List Z.κ.α} {xs : List V} {us : List Value} {E : Value → Shared → Prop} {keys : Array Value}
/-- what is wanted behind the sort -/
def SortQ (X : Cx) (pins : List (Addr × Obj)) (σ : L2.St) (O : Ow) (H : Hp) (a : Addr) (out : List D) (s' : Shared) : Prop :=
  ∃ O' H' ys, Inv X pins σ H' s' ∧ Go O O' H H' ∧ Dom O' H' ∧ H' a = some (.lst ys) ∧ O' a = .tmp ∧ RepAll X.K X.mg O' H' out ys
theorem sort_tail {A : Around} {st : SortSt} (hna : H a = none) (hnk : H kS = none) (hak : kS ≠ a) (ra : RepAll X.K X.mg O H ds xs) (rv : Vals xs us) (hk : keys.toList.map Z.κ.keyOf = ka.map some) (hl : ka.length = ds.length) (hn : ka.Nodup) (h64 : ds.length < 64)
    (S : KSt X pins σ G O H a kS e1 (ka.map Z.kd) s) (hp : (arrOf st).Perm (keys.zip us.toArray)) (hs : SortedToK Z.κ (arrOf st) (arrOf st).size) (hfl : failedOf st = none) :
    wpAny (model X.prog X.w) A (ksk_tail a false e1 (.ref kS) st) (fun r s' => r = .done (.ret .none) ∧ SortQ X pins σ O H a ((sortB Z.κ.blt (ka.zip ds)).map (·.2)) s') E s := by
  obtain ⟨O2, H2, ys2, I2, g2, d2, G2, ha2, hk2, ra2, ot2⟩ := S.ex
  obtain ⟨_, its, n, vals, hget⟩ := I2.hok kS _ hk2
  have hga : s.heap.get? a = some (seqObj "list" #[] e1) := (I2.hok a _ ha2).1
  obtain ⟨zs, zv, zl, zr⟩ := sorted_out ra rv hk hl hn hp hs
  have hsz : (arrOf st).size = ds.length := by
    have h1 := zv.length
    have h2 : ((arrOf st).map (·.2)).toList.length = (arrOf st).size := by rw [Array.length_toList, Array.size_map]
    omega
  have itl : its.length = ds.length := by rw [← vals.length, ra2.len, List.length_map, hl]
  have s1 := Heap.SameBut.update s.heap kS (Obj.mapSeq fun _ => (#[] : Array Value))
  obtain ⟨c1, hc1⟩ : ∃ c1, (s.heap.update kS (Obj.mapSeq fun _ => (#[] : Array Value))).get? kS = some (seqObj "list" #[] c1) := ⟨_, get?_update_seq hget fun _ => #[]⟩
  have na1 : (s.heap.update kS (Obj.mapSeq fun _ => (#[] : Array Value))).get? a = some (seqObj "list" #[] e1) := (s1.2 a hak.symm).trans hga
  have I3 : Inv X pins σ (upd H2 kS (.lst [])) { s with heap := s.heap.update kS (Obj.mapSeq fun _ => (#[] : Array Value)) } :=
    I2.write (x := kS) (e := kS) (t' := s.toks) (by rw [hk2]; trivial) (.inl rfl) (fun b o hb e => (s1.2 b hb).trans e) ⟨_, hc1⟩ ⟨Nat.zero_le _, [], c1, .nil, hc1⟩
  have s2 := Heap.SameBut.update (s.heap.update kS (Obj.mapSeq fun _ => (#[] : Array Value))) a (Obj.mapSeq fun _ => (arrOf st).map (·.2))
  obtain ⟨c2, hc2⟩ : ∃ c2, ((s.heap.update kS (Obj.mapSeq fun _ => (#[] : Array Value))).update a (Obj.mapSeq fun _ => (arrOf st).map (·.2))).get? a = some (seqObj "list" ((arrOf st).map (·.2)) c2) := ⟨_, get?_update_seq na1 fun _ => (arrOf st).map (·.2)⟩
  have ha3 : upd H2 kS (.lst []) a = some (.ext (lstP a e1)) := by rw [upd_ne hak.symm]; exact ha2
  unfold ksk_tail
  try dsimp only
  simp only [Bool.false_eq_true, if_false]
  refine wpAny_bind (listUpdate_at hget rfl ?_ (by rw [List.size_toArray, sizeLine_eq]; omega) (Nat.zero_le _))
  refine wpAny_bind (wpAny_letGo ?_)
  refine wpAny_bind (seqEpoch_at na1 rfl ?_)
  refine wpAny_bind (listUpdate_at na1 rfl ?_ (Nat.zero_le _) (Nat.le_trans (Nat.le_of_eq (Array.size_map ..)) (by rw [hsz, sizeLine_eq]; omega)))
  rw [hfl]
  simp only [bne_self_eq_false, Bool.false_eq_true, if_false]
  have same : Same H (upd (upd H2 kS (.lst [])) a (.lst zs)) := by
    have u1 := upd_over hnk g2.same hk2 (.lst [])
    refine ⟨fun b o e n => by rw [upd_ne (ne_of_none e hna)]; exact u1.at' b o e n, fun b ps e => by rw [upd_ne (ne_of_none e hna)]; exact u1.tb b ps e, fun g => ?_⟩
    exact (u1.gd g).put _ (fun ps => by rw [ha3]; intro z; cases z) (ext_ne I3 ha3)
  have go : Go O (updO O2 a .tmp) H (upd (upd H2 kS (.lst [])) a (.lst zs)) := ⟨same, fun b hb => by
    rw [updO_ne (by rintro rfl; exact hb hna)]; exact g2.own b hb⟩
  refine wpAny_pure ⟨rfl, updO O2 a .tmp, _, zs, ?_, go, ⟨fun b hb => ?_, ?_⟩, upd_same, updO_same, zr.go go⟩
  · refine I3.write (x := a) (e := a) (t' := s.toks) (by rw [ha3]; trivial) (.inl rfl) (fun b o hb e => (s2.2 b hb).trans e) ⟨_, hc2⟩ ⟨?_, _, c2, zv, ?_⟩
    · rw [zl, sizeLine_eq]; omega
    · rw [hc2, Array.toArray_toList]
  · by_cases e : b = a
    · rw [e, upd_same]; intro z; cases z
    · rw [upd_ne e]
      rw [updO_ne e] at hb
      by_cases e' : b = kS
      · rw [e', upd_same]; intro z; cases z
      · rw [upd_ne e']; exact d2.has b hb
  · exact (d2.tabs.lst hk2 _).put _ (fun ps => by rw [ha3]; intro z; cases z) (ext_ne I3 ha3)
theorem sort_end {A : Around} (hZ : Z.Ok) (hna : H a = none) (hnk : H kS = none) (hak : kS ≠ a) (ra : RepAll X.K X.mg O H ds xs) (rv : Vals xs us) (hk : keys.toList.map Z.κ.keyOf = ka.map some) (hl : ka.length = ds.length) (hn : ka.Nodup) (h64 : ds.length < 64)
    (S : KSt X pins σ G O H a kS e1 (ka.map Z.kd) s) :
    wpAny (model X.prog X.w) A (ksk_end a false us.toArray e1 (.ref kS) keys) (fun r s' => r = .done (.ret .none) ∧ SortQ X pins σ O H a ((sortB Z.κ.blt (ka.zip ds)).map (·.2)) s') E s := by
  have lu : us.length = ds.length := by rw [← rv.length, ra.len]
  have lk : keys.size = ds.length := by
    have := congrArg List.length hk
    rw [List.length_map, List.length_map, Array.length_toList] at this
    omega
  have hzs : (keys.zip us.toArray).size = ds.length := by rw [Array.size_zip, lk, List.size_toArray, lu, Nat.min_self]
  have hkey : ∀ v ∈ keys.toList, ∃ κ, Z.κ.keyOf v = some κ := fun v hv => by
    have : Z.κ.keyOf v ∈ ka.map some := by rw [← hk]; exact List.mem_map_of_mem hv
    obtain ⟨κ, _, e⟩ := List.mem_map.mp this
    exact ⟨κ, e.symm⟩
  unfold ksk_end
  try dsimp only
  simp only [Bool.false_eq_true, if_false]
  by_cases h2 : us.toArray.size < 2
  · rw [if_pos h2, if_pos h2]
    refine wpAny_bind (wpAny_pure ?_)
    rw [StateT.run_pure]
    refine wpAny_bind (wpAny_pure ?_)
    try dsimp only
    refine sort_tail (st := SortSt.mk' general' (keys.zip us.toArray) #[] 7 none) hna hnk hak ra rv hk hl hn h64 S (Array.Perm.refl _) ?_ rfl
    intro i j hij hj
    have hj2 : j < (keys.zip us.toArray).size := hj
    rw [hzs] at hj2
    rw [List.size_toArray] at h2
    have : i = j := by omega
    subst this
    exact PyProof.Rows.KeyOrd.kle_refl _
  · rw [if_neg h2, if_neg h2]
    rw [List.size_toArray] at h2
    have hz2 : 2 ≤ (keys.zip us.toArray).size := by
      have h3 : 2 ≤ us.length := Nat.le_of_not_lt h2
      rw [hzs]; omega
    have kk : keyKind' keys = pure oneType' := by
      cases e : keys.toList with
      | nil => have h5 : keys.size = 0 := by rw [← Array.length_toList, e]; rfl
               omega
      | cons v₁ r =>
        cases r with
        | nil => have h5 : keys.size = 1 := by rw [← Array.length_toList, e]; rfl
                 omega
        | cons v₂ r =>
          have ek : keys = (v₁ :: v₂ :: r).toArray := by rw [← e, Array.toArray_toList]
          rw [ek]
          exact hZ.kind v₁ v₂ r fun v hv => hkey v (by rw [e]; exact hv)
    rw [kk]
    refine wpAny_bind (wpAny_pure ?_)
    refine wpAny_bind (wpAny_mono (wpS_sortRunsK (κ := Z.κ) hZ.one (a₀ := keys.zip us.toArray) (st := SortSt.mk' oneType' (keys.zip us.toArray) #[] 7 none)
      (Q := fun _ st' => (arrOf st').Perm (keys.zip us.toArray) ∧ failedOf st' = none ∧ SortedToK Z.κ (arrOf st') (keys.zip us.toArray).size)
      (fun p hp => ?_) ⟨Array.Perm.refl _, rfl, rfl, rfl⟩ hz2 (by rw [hzs]; exact h64) fun st' a1 a2 a3 => ⟨a1, a2, a3⟩) ?_ fun _ _ e => e)
    · rw [ksk_zip] at hp
      exact hkey _ (List.of_mem_zip hp).1
    rintro ⟨⟨⟩, st'⟩ s' ⟨rfl, hp, hf, hs⟩
    try dsimp only
    exact sort_tail hna hnk hak ra rv hk hl hn h64 S hp (by rw [hp.size_eq]; exact hs) hf
end
end L3

set_option Elab.async false
set_option linter.all false
set_option maxRecDepth 100000
set_option maxHeartbeats 1000000
namespace L3
open PySem PySem.Spec L2 PyProof.Rows
variable [L2.TabP]
section
variable {X : Cx} {pins : List (Addr × Obj)} {σ : L2.St} {H : Hp} {s : Shared} {G : Hp → Prop} {mf : MF} {f l : Addr} {k : Nat} {O : Ow} {Z : KO} {ds : List D} {ka : List Z.κ.α} {xs : List V} {E : Value → Shared → Prop}
/-- sorted(l, key = f) -/
theorem sort_call (hZ : Z.Ok) (I : Inv X pins σ H s) (dm : Dom O H) (ra : RepAll X.K X.mg O H ds xs) (hS : SqL X.K H l xs) (hC : KeyC X k f G mf) (g0 : G H) (hr : Room (k + 2) X.A)
    (hks : ∀ (i : Nat) (d : D), ds[i]? = some d → ∃ κ, ka[i]? = some κ ∧ (mf [d]).run [] = .ok (.v (Z.kd κ)) []) (hlen : ka.length = ds.length) (hn : ka.Nodup) (h64 : ds.length < 64) :
    wpAny (model X.prog X.w) X.A (call (.builtin "sorted") [.ref l] [(Str.ofString "key", .ref f)]) (fun u s' => ∃ a, u = .ref a ∧ H a = none ∧ SortQ X pins σ O H a ((sortB Z.κ.blt (ka.zip ds)).map (·.2)) s') E s := by
  obtain ⟨us, rv, pl, _⟩ := I.list hS
  have hl : s.heap.IsList l us.toArray := pl.isList
  have lu : us.length = ds.length := by rw [← rv.length, ra.len]
  have fr1 : H (s.heap.objs.size + 1) = none := I.hok.fresh (Nat.le_succ _)
  refine call_function_entry_kw kind_sorted plain_sorted entry_sorted (ksk_s1 _ _) ?_
  unfold Builtin.«sorted»
  refine wpAny_bind (m := checkCount "sorted" 1 1 _) (wpAny_pure ?_)
  refine wpAny_bind (collect_list hl ?_ (by rw [sizeLine_eq]; omega))
  refine wpAny_bind (wpAny_newList ?_ (by rw [sizeLine_eq]; omega))
  have hsz : ((s.heap.push (seqObj "list" #[] 0)).update s.heap.objs.size (Obj.mapSeq (· ++ us.toArray))).objs.size = s.heap.objs.size + 1 := by
    rw [Heap.size_update, size_push']
  have hoL : (((s.heap.push (seqObj "list" #[] 0)).update s.heap.objs.size (Obj.mapSeq (· ++ us.toArray))).push (seqObj "list" us.toArray 0)).get? (s.heap.objs.size + 1) = some (seqObj "list" us.toArray 0) := by
    rw [← hsz]; exact Heap.get?_push_size _ rfl
  have keep : ∀ b o, s.heap.get? b = some o → (((s.heap.push (seqObj "list" #[] 0)).update s.heap.objs.size (Obj.mapSeq (· ++ us.toArray))).push (seqObj "list" us.toArray 0)).get? b = some o := fun b o q => by
    have hlt : b < s.heap.objs.size := Heap.lt_size q
    rw [Heap.get?_push_ne _ _ _ (by rw [hsz]; exact Nat.ne_of_lt (Nat.lt_succ_of_lt hlt)), Heap.get?_update_ne _ _ _ _ (Nat.ne_of_lt hlt), Heap.get?_push_ne _ _ _ (Nat.ne_of_lt hlt)]
    exact q
  have I1 : Inv X pins σ (upd H (s.heap.objs.size + 1) (.lst xs)) { s with heap := ((s.heap.push (seqObj "list" #[] 0)).update s.heap.objs.size (Obj.mapSeq (· ++ us.toArray))).push (seqObj "list" us.toArray 0) } :=
    I.laid (t' := s.toks) keep (Nat.le_succ _) ⟨by rw [ra.len, sizeLine_eq]; omega, us, 0, rv, hoL⟩
  have go1 : Go O O H (upd H (s.heap.objs.size + 1) (.lst xs)) := Go.new0 fr1
  have dm1 : Dom O (upd H (s.heap.objs.size + 1) (.lst xs)) := dm.same go1.same
  show wpAny _ _ _ _ _ { s with heap := ((s.heap.push (seqObj "list" #[] 0)).update s.heap.objs.size (Obj.mapSeq (· ++ us.toArray))).push (seqObj "list" us.toArray 0) }
  rw [hsz]
  refine wpAny_bind (wpAny_holding (wpAny_call_entry_kw slot_list_sort ⟨_, hoL, rfl⟩ entry_list_sort ?body (ksk_l1 _ _)))
  case body =>
    show wpAny (model X.prog X.w) X.A.in1.in1 (Builtin.«list.sort» ⟨[.ref (s.heap.objs.size + 1)], [(Str.ofString "key", .ref f)]⟩) _ _ _
    rw [ksk_t1]
    generalize hA : s.heap.objs.size + 1 = a at *
    generalize ((s.heap.push (seqObj "list" #[] 0)).update s.heap.objs.size (Obj.mapSeq (· ++ us.toArray))).push (seqObj "list" us.toArray 0) = h1 at *
    have s1 := Heap.SameBut.update h1 a (Obj.mapSeq fun _ => (#[] : Array Value))
    obtain ⟨e1, ho1⟩ : ∃ e1, (h1.update a (Obj.mapSeq fun _ => (#[] : Array Value))).get? a = some (seqObj "list" #[] e1) := ⟨_, get?_update_seq hoL fun _ => #[]⟩
    have I2 : Inv X pins σ (upd (upd H a (.lst xs)) a (.ext (lstP a e1))) { s with heap := h1.update a (Obj.mapSeq fun _ => (#[] : Array Value)) } :=
      I1.write (x := a) (e := a) (t' := s.toks) (by rw [upd_same]; trivial) (.inl rfl) (fun b o hb e => (s1.2 b hb).trans e) ⟨_, ho1⟩ (lst_ext ho1)
    rw [upd_upd] at I2
    unfold ksk_tree
    refine wpAny_bind (listItems_at hoL rfl ?_)
    refine wpAny_bind (listUpdate_at hoL rfl ?_ (by rw [List.size_toArray, sizeLine_eq]; omega) (Nat.zero_le _))
    refine wpAny_bind (seqEpoch_at ho1 rfl ?_)
    refine wpAny_bind (wpAny_newTuple ?_ (by show us.length ≤ _; rw [sizeLine_eq]; omega))
    refine wpAny_bind (wpAny_newList ?_ (Nat.zero_le _))
    refine wpAny_holding ?_
    have I3 : Inv X pins σ (upd H a (.ext (lstP a e1))) { s with heap := (h1.update a (Obj.mapSeq fun _ => (#[] : Array Value))).push (seqObj "tuple" us.toArray 0) } :=
      I2.kept (t' := s.toks) fun b o e => Heap.get?_push_of_some _ e
    generalize hh2 : (h1.update a (Obj.mapSeq fun _ => (#[] : Array Value))).push (seqObj "tuple" us.toArray 0) = h2 at *
    have frk : upd H a (.ext (lstP a e1)) h2.objs.size = none := I3.hok.fresh (Nat.le_refl _)
    have nek : h2.objs.size ≠ a := by
      intro z
      rw [z, upd_same] at frk
      cases frk
    have hnk : H h2.objs.size = none := by rw [upd_ne nek] at frk; exact frk
    have I4 : Inv X pins σ (upd (upd H a (.ext (lstP a e1))) h2.objs.size (.lst [])) { s with heap := h2.push (seqObj "list" #[] 0) } :=
      I3.laid (t' := s.toks) (fun b o e => Heap.get?_push_of_some _ e) (Nat.le_refl _) ⟨Nat.zero_le _, [], 0, .nil, Heap.get?_push_size _ rfl⟩
    have go4 : Go O (updO O h2.objs.size .tmp) H (upd (upd H a (.ext (lstP a e1))) h2.objs.size (.lst [])) := (Go.new0 fr1).trans (Go.new frk)
    have dm4 : Dom (updO O h2.objs.size .tmp) (upd (upd H a (.ext (lstP a e1))) h2.objs.size (.lst [])) := (dm.same (Go.new0 (O := O) fr1).same).new frk
    have S0 : KSt X pins σ G O H a h2.objs.size e1 [] { s with heap := h2.push (seqObj "list" #[] 0) } :=
      ⟨updO O h2.objs.size .tmp, _, [], I4, go4, dm4, hC.1 _ _ go4.same g0, by rw [upd_ne nek.symm]; exact upd_same, upd_same, rfl, updO_same⟩
    refine wpAny_mono (sort_rest (E := E) hZ hC (hr.in1.in1) fr1 hnk nek ra rv hks hlen h64 S0 fun s' keys S' hkk => sort_end hZ fr1 hnk nek ra rv hkk hlen hn h64 S') (fun r s' hq => ?_) fun _ _ e => e
    obtain ⟨rfl, hq⟩ := hq
    exact ⟨_, rfl, wpAny_pure ⟨_, rfl, a, rfl, fr1, hq⟩⟩
end
end L3

set_option Elab.async false
set_option linter.all false
set_option maxRecDepth 100000
set_option maxHeartbeats 1000000
namespace L3
open PySem PySem.Spec L2 PyProof.Rows
variable [L2.TabP]
/-! ### lambdas -/
/-- the code and the table of the def in which a lambda stands -/
structure Lm (K : PySem.W.Frag) (c P : Addr) (q : Str) : Prop where
  hd : ∀ h, K.In h → PySem.W.CodeHd h c P
  tp : TabP.tp P
  ql : TabP.ql P = q
structure Bm (base : Heap) (mg : Str → Option Value) : Prop where
  ex : ∃ bm o, mg (Str.ofString "__builtins__") = some (Value.ref bm) ∧ bm ≠ builtinsNs ∧ bm ≠ mainGlobals ∧ base.get? bm = some o ∧ o.cls = Value.type "module" ∧ o.dict = some builtinsNs ∧ o.data = Data.plain
def obP (f : Addr) (ob : Obj) : Heap → Prop := fun h => h.get? f = some ob
/-- what must stand for f to be called -/
def LamG (f c : Addr) (q : Str) (ob : Obj) : Hp → Prop := fun H => H f = some (.ext (obP f ob)) ∧ H c = some (.ext (cdP c q))
theorem LamG.mono {f c : Addr} {q : Str} {ob : Obj} (H H' : Hp) (s : Same H H') (g : LamG f c q ob H) : LamG f c q ob H' := ⟨s.at' _ _ g.1, s.at' _ _ g.2⟩
theorem LamG.upd {f c : Addr} {q : Str} {ob : Obj} (H : Hp) (p : Addr) (zs : List V) (o : HO) (h : H p = some (.lst zs)) (g : LamG f c q ob H) : LamG f c q ob (upd H p o) :=
  ⟨by rw [upd_ne (by rintro rfl; have := g.1; rw [h] at this; cases this)]; exact g.1, by rw [upd_ne (by rintro rfl; have := g.2; rw [h] at this; cases this)]; exact g.2⟩
theorem fn_body {K : PySem.W.Frag} {mg : Str → Option Value} {N ps : List Str} {m : ME} {vs : List V} {H : Hp} {Q : VK} (h : spF K mg (fnOf ps.length N.length (cRet m)) vs H Q E0) : teOf K mg m (L2.start N vs) H Q := by
  obtain ⟨O, ds, r, S', dm, ar, h, q⟩ := h
  have hl := fnOf_len h
  have hlv := ar.len
  unfold fnOf at h
  rw [if_pos hl] at h
  obtain ⟨fl, S1, h1, h⟩ := M.inv h
  have st0 : S3 K mg (blk O) (ds.map slotOf ++ List.replicate (N.length - ps.length) .emp) [] (L2.start N vs) H := by
    refine ⟨⟨fun a ha => dm.has a fun z => ha (blk_free.mpr z), dm.tabs⟩, ?_, fun i s e => ?_, rfl⟩
    · unfold L2.start
      rw [List.length_append, List.length_append, List.length_map, List.length_map, List.length_replicate, List.length_replicate, hlv, hl]
    · by_cases hi : i < ds.length
      · rw [List.getElem?_append_left (by rw [List.length_map]; exact hi), List.getElem?_map] at e
        cases ed : ds[i]? with
        | none => rw [ed] at e; cases e
        | some d =>
          rw [ed] at e
          cases e
          obtain ⟨v, ev, rv⟩ := ar.get ed
          unfold L2.start
          rw [List.getElem?_append_left (by rw [List.length_map, hlv]; exact hi), List.getElem?_map, ev]
          exact slot_arg rv
      · rw [List.getElem?_append_right (by rw [List.length_map]; omega), List.getElem?_replicate] at e
        split at e
        · cases e; exact trivial
        · cases e
  obtain ⟨r0, S2, h2, h3⟩ := M.inv h1
  refine ⟨blk O, _, [], r0, S2, st0, h2, fun O' v H' g st' rr nn => ?_⟩
  let O2 : Ow := fun b => match H b with | some _ => O b | none => O' b
  have o2o : ∀ b, H b ≠ none → O2 b = O b := fun b hb => by
    show (match H b with | some _ => O b | none => O' b) = O b
    cases e : H b with
    | none => exact absurd e hb
    | some o => rfl
  have o2n : ∀ b, H b = none → O2 b = O' b := fun b hb => by
    show (match H b with | some _ => O b | none => O' b) = O' b
    rw [hb]
  have fre : Fre O' O2 := ⟨fun b hb => by
    by_cases hn : H b = none
    · rw [o2n b hn]; exact hb
    · rw [o2o b hn]; exact blk_free.mp ((g.own b hn).symm.trans hb)⟩
  have go : Go O O2 H H' := ⟨g.same, fun b hb => o2o b hb⟩
  have dom : Dom O2 H' := ⟨fun b hb => by
    by_cases hn : H b = none
    · rw [o2n b hn] at hb; exact st'.dom.has b hb
    · exact g.same.some hn, st'.dom.tabs⟩
  cases r0 with
  | v d =>
    cases h3
    cases h
    exact q O2 v H' go dom st'.emp (Rep.fre fre rr) trivial
  | fr zs =>
    cases h3
    cases h
    obtain ⟨a, ys, rfl, l, t, ra⟩ := rr
    have hn := nn a rfl
    exact q O2 _ H' go dom st'.emp ⟨a, ys, rfl, l, (o2n a hn).trans t, ra.fre fre⟩ nn
  | vw zs => cases h3
  | mv zs => cases h3
  | dv zs => cases h3
section
variable {X : Cx} {k : Nat} {f c : Addr} {name q : Str} {params : Arguments} {body : Expr} {scope : Scope} {pm ctv : Value} {N ps : List Str} {m : ME}
/-- a lambda may be called -/
theorem lam_key {p1 : Str} (Sc : FnScope N [p1] scope) (hbind : ∀ (u : Value), bindArgs (PySem.W.kla_fn name q params body scope [] pm (.ref c) ctv) ⟨[u], []⟩ = pure [(p1, u)])
    (hb : ∀ (A : Around) (s : Shared) (H : Hp), Room k (A.deeper (envOfC q scope s.heap.objs.size f (.ref c))) → CE (cxOf CX0 X.prog X.w X.K X.mg X.base N q scope f (.ref c) A X.stack s H E0).nox body m) :
    KeyC X (k + 1) f (LamG f c q (PySem.W.kla_obj name q params body scope [] pm c ctv)) (fnOf 1 N.length (cRet m)) := by
  refine ⟨LamG.mono, LamG.upd, fun A s H u v Q hr e0 g ru hsp => ?_⟩
  obtain ⟨g1, _⟩ := e0.hok f _ g.1
  obtain ⟨g2, _⟩ := e0.hok c _ g.2
  have lim : s.heap.NoLimit := e0.mod.nolimit.keeps fun b o e => (e0.bs b o e).1
  have hkind : ∀ y ∈ [p1].zip [u], scope.names.lookup y.1 = some .local ∨ (scope.names.lookup y.1 = some .cell ∧ ((cellsFrom (s.heap.objs.size + 1) scope.names []).lookup y.1).isSome = true) := fun ⟨n, v⟩ hy => by
    rcases Sc.par n (List.of_mem_zip hy).1 with q | q
    · exact .inl q
    · exact .inr ⟨q, PySem.W.cellsFrom_some _ _ _ (.inl q)⟩
  refine PySem.W.kla_callFunE hr.depth g1 rfl Sc.co Sc.gen rfl g2 ?_
  rw [hbind]
  refine wpAny_pure ?_
  refine wpAny_newFunctionEnv_cells Sc.kind hkind fun env he s1 x => ?_
  subst he
  refine ⟨lim.keeps x.toInCall.keep, PySem.W.kla_codeExpr ?_⟩
  have I : Inv (cxOf CX0 X.prog X.w X.K X.mg X.base N q scope f (.ref c) A X.stack s H E0) [] (L2.start N [v]) H s1 := inv_start Sc hr.hd e0 rfl (.cons ru .nil) x
  refine wpAny_mono ((PE.nox (hb A s H (hr.deeper _))) [] s1 (L2.start N [v]) H _ I (fn_body (ps := [p1]) hsp)) (fun u' s' hs => ?_) fun e s' hs => hs
  obtain ⟨v', H', J, rv, q'⟩ := hs
  exact ⟨v', H', J.os, J.bare, J.base, J.hok, rv, q'⟩
end
end L3

set_option Elab.async false
set_option linter.all false
set_option maxRecDepth 100000
set_option maxHeartbeats 1000000
namespace L3
open PySem PySem.Spec L2 PyProof.Rows
theorem triples_snoc {a b : Int} {c : Value} : ∀ l : List Value, TriplesOk l → TriplesOk (l ++ [rawInt a, rawInt b, c])
  | [], _ => trivial
  | .int _ _ :: .int _ _ :: _ :: rest, h => triples_snoc rest h
theorem among_snoc {pos pos' : Pos} {c cv : Value} : ∀ l : List Value, TriplesOk l → codeAmong pos' (l ++ [rawInt pos.line, rawInt pos.col, c]) = some cv → codeAmong pos' l = some cv ∨ cv = c
  | [], _, h => by
    right
    have h : (if ((pos.line : Int) == pos'.line && (pos.col : Int) == pos'.col) = true then some c else none) = some cv := h
    split at h
    · cases h; rfl
    · cases h
  | .int a _ :: .int b _ :: d :: rest, t, h => by
    have h : (if (a == pos'.line && b == pos'.col) = true then some d else codeAmong pos' (rest ++ [rawInt pos.line, rawInt pos.col, c])) = some cv := h
    show (if (a == pos'.line && b == pos'.col) = true then some d else codeAmong pos' rest) = some cv ∨ _
    split at h
    · rename_i hc; rw [if_pos hc]; exact .inl h
    · rename_i hc; rw [if_neg hc]; exact among_snoc rest t h
variable [L2.TabP]
section
variable {X : Cx} {pins : List (Addr × Obj)} {σ : L2.St} {H : Hp} {s : Shared} {O : Ow} {c P : Addr} {q : Str} {params : Arguments} {body : Expr} {scope : Scope} {pos : Pos}
/-- a lambda is made -/
theorem lam_eval (I : Inv X pins σ H s) (dm : Dom O H) (L : Lm X.K c P q) (B : Bm X.base X.mg) (hcode : X.env.code = .ref c) (hq : X.env.qual ++ Str.ofString "<lambda>" = q) (hdef : defaultsOf params X.env = ([], [])) (hcl : closureFor scope X.env = pure []) :
    wpAny (model X.prog X.w) X.A (eval (.Lambda params body scope pos) X.env) (fun u s' => ∃ (f c' : Addr) (pm ctv : Value) (H' : Hp), u = .ref f ∧ Inv X pins σ H' s' ∧ Go O O H H' ∧ Dom O H' ∧ LamG f c' q (PySem.W.kla_obj (Str.ofString "<lambda>") q params body scope [] pm c' ctv) H') X.xe s := by
  obtain ⟨ps, hP, tr, cod⟩ := dm.tabs P L.tp
  rw [L.ql] at cod
  have gP : s.heap.get? P = some (PySem.W.tabObj ps) := I.hok P _ hP
  have base0 : ∀ b o, X.base.get? b = some o → b ≠ P := fun b o e z => by
    subst z
    have := (I.bs b o e).2
    rw [hP] at this; cases this
  have hG : s.heap.Ns mainGlobals X.mg := I.mod.glob.keeps I.bk
  have hgP : mainGlobals ≠ P := by
    obtain ⟨o, es, ep, e, _⟩ := I.mod.glob
    exact base0 _ _ e
  have hB : s.heap.BuiltinsAt X.mg P := by
    obtain ⟨bm, o, b1, b2, b3, b4, b5⟩ := B.ex
    exact ⟨bm, o, b1, b2, b3, base0 _ _ b4, I.bk _ _ b4, b5⟩
  have C := L.hd _ I.kIn
  refine PySem.W.kla_eval hdef ?_
  rw [hq]
  cases ec : codeAmong pos ps.toList with
  | some cv =>
    obtain ⟨c', rfl, hc'⟩ := cod pos cv ec
    refine PySem.W.kla_makeFunctionHit hcl I.ok.glob hG hcode C gP tr ec hB fun ctv h' tk hk hsz => ?_
    have hn : H h'.objs.size = none := I.hok.fresh hsz
    have go : Go O O H (upd H h'.objs.size (.ext (obP h'.objs.size (PySem.W.kla_obj (Str.ofString "<lambda>") q params body scope [] ((X.mg (Str.ofString "__name__")).getD .none) c' ctv)))) := Go.new0 hn
    refine ⟨h'.objs.size, c', _, ctv, _, rfl, I.laid (t' := tk) (fun b o e => Heap.get?_push_of_some _ (hk b o e)) hsz ?_, go, dm.same go.same, upd_same, go.same.at' _ _ hc'⟩
    exact ⟨Heap.get?_push_size _ rfl, ⟨_, Heap.get?_push_size _ rfl⟩, fun h1 h2 p r => r _ p⟩
  | none =>
    refine PySem.W.kla_makeFunction hcl I.ok.glob hG hcode C gP tr ec hgP hB fun c' ctv h' tk hx hge hlt hrec htb => ?_
    have hnc : H c' = none := I.hok.fresh hge
    have neP : c' ≠ P := (ne_of_none hP hnc).symm
    let ps' := ps ++ #[rawInt pos.line, rawInt pos.col, .ref c']
    let H1 := upd (upd H P (.tbl ps')) c' (.ext (cdP c' q))
    have at1 : ∀ {b : Addr}, b ≠ P → b ≠ c' → H1 b = H b := fun h1 h2 => by show upd _ _ _ _ = _; rw [upd_ne h2, upd_ne h1]
    have atP : H1 P = some (.tbl ps') := by show upd _ _ _ _ = _; rw [upd_ne neP.symm]; exact upd_same
    have atc : H1 c' = some (.ext (cdP c' q)) := upd_same
    have neo : ∀ {b : Addr} {o : Obj}, s.heap.get? b = some o → b ≠ c' := fun e => Nat.ne_of_lt (Nat.lt_of_lt_of_le (Heap.lt_size e) hge)
    have neH : ∀ {b : Addr} {o : HO}, H b = some o → b ≠ c' := fun e => ne_of_none e hnc
    have un : Un X.fs [] H H1 s.heap h' := by
      refine ⟨fun b o e n _ _ => hx b o (by rintro rfl; rw [hP] at n; cases n) e, fun b o e n _ _ => ⟨o.slots, hx b o (by rintro rfl; rw [hP] at n; cases n) e⟩,
        fun b o e n _ => by rw [at1 (by rintro rfl; rw [hP] at n; cases n) (neo e)]; exact n, fun b o e _ => ?_, fun b xs e => ?_, fun b o u e => ?_, fun b zs e => ?_⟩
      · by_cases hb : b = P
        · rw [hb]; exact ⟨_, htb⟩
        · exact ⟨o, hx b o hb e⟩
      · rw [at1 (by rintro rfl; rw [hP] at e; cases e) (neH e)]; exact e
      · rw [at1 (by rintro rfl; rw [hP] at e; cases e) (neH e)]; exact e
      · by_cases hb : b = P
        · subst hb
          rw [hP] at e; cases e
          exact ⟨_, atP⟩
        · exact ⟨#[], by rw [at1 hb (neH e), e]; simp⟩
    have hok : HOk X.prog X.w H1 h' := fun b u e => by
      by_cases h1 : b = c'
      · subst h1
        rw [atc] at e; cases e
        obtain ⟨c2, oc, vs, t, z1, z2, z3, z4⟩ := hrec
        cases z1
        exact ⟨⟨_, oc, vs, t, rfl, z2, z3, z4⟩, ⟨_, z2⟩, fun h1 h2 ⟨c3, oc3, vs3, t3, y1, y2, y3, y4⟩ r => by cases y1; exact ⟨_, oc3, vs3, t3, rfl, r _ y2, y3, y4⟩⟩
      · by_cases h2 : b = P
        · subst h2
          rw [atP] at e; cases e
          exact htb
        · rw [at1 h2 h1] at e
          refine (I.hok b u e).stay (fun d o hd eo => hx d o (fun z => ?_) eo) (fun d ed => ?_) fun d xs ed => ?_
          · rcases hd with rfl | hd
            · exact h2 z
            · rw [z, hP] at hd; cases hd
          · rw [at1 (by rintro rfl; rw [hP] at ed; cases ed) (neH ed)]; exact ed
          · rw [at1 (by rintro rfl; rw [hP] at ed; cases ed) (neH ed)]; exact ed
    have I1 : Inv X pins σ H1 { s with heap := h', toks := tk } := I.un (t' := tk) un hok
    have hn : H1 h'.objs.size = none := hok.fresh (Nat.le_refl _)
    have same1 : Same H H1 := by
      refine ⟨fun b o e n => by rw [at1 (by rintro rfl; rw [hP] at e; cases e; exact n) (neH e)]; exact e, fun b zs e => ?_, fun g P' hP' => ?_⟩
      · by_cases hb : b = P
        · exact ⟨ps', by rw [hb]; exact atP⟩
        · exact ⟨zs, by rw [at1 hb (neH e)]; exact e⟩
      · obtain ⟨zs, e1, e2, e3⟩ := g P' hP'
        by_cases hb : P' = P
        · subst hb
          refine ⟨ps', atP, ?_, fun pos' cv hcv => ?_⟩
          · show TriplesOk (ps ++ #[rawInt pos.line, rawInt pos.col, .ref c']).toList
            rw [Array.toList_append]
            exact triples_snoc _ tr
          · have hcv : codeAmong pos' (ps ++ #[rawInt pos.line, rawInt pos.col, .ref c']).toList = some cv := hcv
            rw [Array.toList_append] at hcv
            rw [L.ql]
            rcases among_snoc _ tr hcv with h | h
            · obtain ⟨c2, rfl, h2⟩ := cod pos' cv h
              exact ⟨c2, rfl, by rw [at1 (by rintro rfl; rw [hP] at h2; cases h2) (neH h2)]; exact h2⟩
            · exact ⟨c', h, atc⟩
        · refine ⟨zs, by rw [at1 hb (neH e1)]; exact e1, e2, fun pos' cv hcv => ?_⟩
          obtain ⟨c2, h1, h2⟩ := e3 pos' cv hcv
          exact ⟨c2, h1, by rw [at1 (by rintro rfl; rw [hP] at h2; cases h2) (neH h2)]; exact h2⟩
    have go : Go O O H (upd H1 h'.objs.size (.ext (obP h'.objs.size (PySem.W.kla_obj (Str.ofString "<lambda>") q params body scope [] ((X.mg (Str.ofString "__name__")).getD .none) c' ctv)))) := (⟨same1, fun _ _ => rfl⟩ : Go O O H H1).trans (Go.new0 hn)
    refine ⟨h'.objs.size, c', _, ctv, _, rfl, I1.laid (t' := tk) (fun b o e => Heap.get?_push_of_some _ e) (Nat.le_refl _) ?_, go, dm.same go.same, upd_same, (same_new hn _).at' _ _ atc⟩
    exact ⟨Heap.get?_push_size _ rfl, ⟨_, Heap.get?_push_size _ rfl⟩, fun h1 h2 p r => r _ p⟩
end
end L3

set_option Elab.async false
set_option linter.all false
set_option maxRecDepth 100000
set_option maxHeartbeats 1000000
namespace L3
open PySem PySem.Spec L2 PyProof.Rows
theorem bt_sorted : bootBuiltins "sorted" = some (.builtin "sorted") := by decide +kernel
/-! ### sorted(.., key = ..) -/
def keyAt (Z : KO) (mf : MF) (d : D) : Option Z.κ.α := match (mf [d]).run [] with
  | .ok (.v x) [] => Z.un x
  | _ => none
def keysOf (Z : KO) (mf : MF) : List D → Option (List Z.κ.α)
  | [] => some []
  | d :: ds => match keyAt Z mf d, keysOf Z mf ds with
    | some a, some as => some (a :: as)
    | _, _ => none
def apartK {α : Type} (blt : α → α → Bool) : List α → Bool
  | [] => true
  | a :: r => r.all (fun b => blt a b || blt b a) && apartK blt r
def fSortK (Z : KO) (mf : MF) (x : R) : M R := match x.lis with
  | some ds => match keysOf Z mf ds with
    | some ka => if apartK Z.κ.blt ka = true ∧ ds.length < 64 then pure (.fr ((sortB Z.κ.blt (ka.zip ds)).map (·.2))) else bad
    | none => bad
  | none => bad
def cSortK (Z : KO) (mf : MF) (ma : ME) : ME := fun σ => do
  let x ← ma σ
  fSortK Z mf x
theorem keysOf_spec {Z : KO} {mf : MF} (un_kd : ∀ d a, Z.un d = some a → d = Z.kd a) : ∀ {ds : List D} {ka : List Z.κ.α}, keysOf Z mf ds = some ka → ka.length = ds.length ∧ ∀ (i : Nat) (d : D), ds[i]? = some d → ∃ κ, ka[i]? = some κ ∧ (mf [d]).run [] = .ok (.v (Z.kd κ)) []
  | [], ka, h => by cases h; exact ⟨rfl, fun i d h => by simp at h⟩
  | d :: ds, ka, h => by
    unfold keysOf at h
    split at h
    · rename_i a as h1 h2
      cases h
      obtain ⟨l, r⟩ := keysOf_spec un_kd h2
      refine ⟨by rw [List.length_cons, List.length_cons, l], fun i e he => ?_⟩
      cases i with
      | zero =>
        cases (show some d = some e from he)
        refine ⟨a, rfl, ?_⟩
        unfold keyAt at h1
        split at h1
        · rename_i x hx
          rw [hx, un_kd x a h1]
        · cases h1
      | succ i =>
        obtain ⟨κ, e1, e2⟩ := r i e (by simpa using he)
        exact ⟨κ, by simpa using e1, e2⟩
    · cases h
theorem apartK_nodup (Q : PyProof.Rows.KeyOrd) : ∀ {l : List Q.α}, apartK Q.blt l = true → l.Nodup
  | [], _ => .nil
  | a :: r, h => by
    unfold apartK at h
    rw [Bool.and_eq_true, List.all_eq_true] at h
    rw [List.nodup_cons]
    refine ⟨fun hm => ?_, apartK_nodup Q h.2⟩
    have := h.1 a hm
    rw [Q.irrefl] at this
    cases this
variable [L2.TabP]
section
variable {X : Cx} {k : Nat} {e : Expr} {ma : ME} {Z : KO} {p pos kp : Pos} {kx : Expr} {mf : MF} {G : Addr → Hp → Prop}
/-- the common way: KX says what the key's expression gives -/
theorem ce_sort (hZ : Z.Ok) (hg : Gl X "sorted") (hm : X.mg "sorted" = none) (hr : Room (k + 2) X.A) (ha : CE X e ma)
    (KX : ∀ (pins : List (Addr × Obj)) (s : Shared) (σ : L2.St) (O : Ow) (H : Hp), Inv X pins σ H s → Dom O H →
      wpAny (model X.prog X.w) X.A (eval kx X.env) (fun u s' => ∃ (f : Addr) (H' : Hp) (G : Hp → Prop), u = .ref f ∧ Inv X pins σ H' s' ∧ Go O O H H' ∧ Dom O H' ∧ G H' ∧ KeyC X k f G mf) X.xe s)
    (he : backTo pos (starEach [e] X.env) = (false, eval e X.env) :: backTo pos (starEach [] X.env) := by rfl)
    (hs : starEach [e] X.env = (false, eval e X.env) :: starEach [] X.env := by rfl)
    (hplain : (backTo pos (starEach [e] X.env)).any (·.1) = false := by rfl) :
    CE X (.Call (.Name "sorted" p) [e] [⟨some (Str.ofString "key"), kx, kp⟩] pos) (cSortK Z mf ma) := by
  intro pins s σ H Q I ⟨O, σE, S, r, S', st, h, q⟩
  obtain ⟨x, S1, h1, h⟩ := M.inv h
  obtain ⟨ds, ka, hds, hka, hap, h64, rfl, rfl⟩ : ∃ ds ka, x.lis = some ds ∧ keysOf Z mf ds = some ka ∧ apartK Z.κ.blt ka = true ∧ ds.length < 64 ∧ r = .fr ((sortB Z.κ.blt (ka.zip ds)).map (·.2)) ∧ S1 = S' := by
    unfold fSortK at h
    split at h
    · rename_i ds e1
      split at h
      · rename_i ka e2
        by_cases c : apartK Z.κ.blt ka = true ∧ ds.length < 64
        · rw [if_pos c] at h
          cases h
          exact ⟨ds, ka, e1, e2, c.1, c.2, rfl, rfl⟩
        · rw [if_neg c] at h; cases h
      · cases h
    · cases h
  obtain ⟨hlen, hks⟩ := keysOf_spec hZ.un_kd hka
  refine wpAny_Call_Name_kw (ld_blt I hg hm bt_sorted ?_)
  refine callWith_kw ?_ he hplain rfl rfl
  refine thn ((pa_cons ha pa_nil hs) pos pins s σ H (fun vs H1 => ∃ v O1, vs = [v] ∧ Go O O1 H H1 ∧ S3 X.K X.mg O1 σE S1 σ H1 ∧ RepR X.K X.mg O1 H1 x v) I ⟨O, σE, S, x, S1, st, h1, fun O1 v H1 g1 st1 rr nn => ⟨v, O1, rfl, g1, st1, rr⟩⟩) fun us s1 ⟨vs, H1, I1, r1, v, O1, ev, g1, st1, rr⟩ => ?_
  subst ev
  obtain ⟨l, ys, rfl, hl, ra⟩ := R.lis_rep rr hds
  obtain ⟨u, rfl, ru⟩ := vals1 r1
  cases ru
  refine wpAny_evalAll_cons (wpAny_bind (thn (KX pins s1 σ O1 H1 I1 st1.dom) fun u s2 hk => wpAny_bind (wpAny_standAt (wpAny_pure ?_))))
  obtain ⟨f, H2, G, rfl, I2, g2, d2, gG, hC⟩ := hk
  refine wpAny_evalAll_nil ?_
  show wpAny _ _ (call (.builtin "sorted") [.ref l] [(Str.ofString "key", .ref f)]) _ _ _
  refine thn (sort_call hZ I2 d2 (ra.go g2) (g2.same.seq hl) hC gG hr hks hlen (apartK_nodup Z.κ.toKeyOrd hap) h64) fun u s3 ⟨a, eu, hna, O3, H3, zs, I3, g3, d3, ha3, ot3, ra3⟩ => ?_
  subst eu
  refine ⟨.ref a, H3, I3, rfl, q O3 _ H3 (g1.trans (g2.trans g3)) (st1.go (g2.trans g3) d3) ⟨a, zs, rfl, ha3, ot3, ra3⟩ fun b eb => ?_⟩
  cases eb
  exact (g1.trans g2).same.free hna
/-- key = a lambda -/
theorem ce_sortL {c P : Addr} {q p1 : Str} {params : Arguments} {body : Expr} {scope : Scope} {lp : Pos} {N : List Str} {m : ME} (hZ : Z.Ok) (hg : Gl X "sorted") (hm : X.mg "sorted" = none) (hr : Room (k + 3) X.A) (L : Lm X.K c P q) (B : Bm X.base X.mg) (hcode : X.env.code = .ref c)
    (hq : X.env.qual ++ Str.ofString "<lambda>" = q) (Sc : FnScope N [p1] scope)
    (hbind : ∀ (c : Addr) (pm ctv u : Value), bindArgs (PySem.W.kla_fn (Str.ofString "<lambda>") q params body scope [] pm (.ref c) ctv) ⟨[u], []⟩ = pure [(p1, u)])
    (hb : ∀ (f c : Addr) (A : Around) (s : Shared) (H : Hp), Room k (A.deeper (envOfC q scope s.heap.objs.size f (.ref c))) → CE (cxOf CX0 X.prog X.w X.K X.mg X.base N q scope f (.ref c) A X.stack s H E0).nox body m)
    (ha : CE X e ma) (hdef : defaultsOf params X.env = ([], []) := by rfl) (hcl : closureFor scope X.env = pure [] := by rfl)
    (he : backTo pos (starEach [e] X.env) = (false, eval e X.env) :: backTo pos (starEach [] X.env) := by rfl)
    (hs : starEach [e] X.env = (false, eval e X.env) :: starEach [] X.env := by rfl)
    (hplain : (backTo pos (starEach [e] X.env)).any (·.1) = false := by rfl) :
    CE X (.Call (.Name "sorted" p) [e] [⟨some (Str.ofString "key"), .Lambda params body scope lp, kp⟩] pos) (cSortK Z (fnOf 1 N.length (cRet m)) ma) :=
  ce_sort (k := k + 1) hZ hg hm hr ha (fun pins s σ O H I dm => thn (lam_eval I dm L B hcode hq hdef hcl) fun u s' ⟨f, c', pm, ctv, H', eu, I', g', d', G'⟩ =>
    ⟨f, H', _, eu, I', g', d', G', lam_key Sc (hbind c' pm ctv) (hb f c')⟩) he hs hplain
end
/-! ### a def in which lambdas stand -/
theorem has_ofL {P : Program} {w : World} {K : PySem.W.Frag} {mg : Str → Option Value} {base : Heap} {x : Str} {st : Stmt} {ps N : List Str} {k : Nat} {mb : MS} {n nl : Nat} {c : Addr} (Df : Df K mg x st ps) (hc : ∀ (f : Addr) (oc : Value) (od : Option Addr) (kV doc pm : Value) (an : Option Addr) (cdv ct : Value) (osl : Array (Option Value)), mg x = some (.ref f) → K.lookup f = some ⟨oc, od, .func (PySem.W.fnOf x x (defArgs st) (defBody st) (defScope st) .none kV doc pm an cdv ct), osl⟩ → cdv = .ref c)
    (Sc : FnScope N ps (defScope st)) (hn : ps.length = n) (hl : N.length = nl)
    (hb : ∀ (f : Addr) (A : Around) (outer : List Env) (s : Shared) (H : Hp) (E : XK), Room k (A.deeper (PyProof.Rows.envOfC x (defScope st) s.heap.objs.size f (.ref c))) →
      CSs (cxOf CX0 P w K mg base N x (defScope st) f (.ref c) A outer s H E).nox (defBody st) mb) : Has P w K mg base x ps (k + 1) (spF K mg (fnOf n nl mb)) := by
  obtain ⟨f, fd, F, b, m⟩ := Df.ex
  refine ⟨f, fd, ?_, b, F.kp, m⟩
  obtain ⟨oc, od, kV, doc, pm, an, cdv, ct, osl, rfl, lk, hcd⟩ := F.ex
  have e := hc f oc od kV doc pm an cdv ct osl m lk
  subst e
  subst hn hl
  refine fn_of lk hcd Sc (fun vs H Q E ⟨O, ds, r, S', dm, ar, h, q⟩ => ar.len.trans (fnOf_len h)) fun A outer s H vs Q E hr hsp => ⟨_, (hb f A outer s H E hr).nox, body_read hsp⟩
end L3

set_option Elab.async false
set_option linter.all false
set_option maxRecDepth 100000
set_option maxHeartbeats 1000000
namespace L2
open PySem PySem.Spec PyProof.Rows
/-- tuples of ints compared: r of the first two that differ, else z of the sizes -/
def lexR (r : Int → Int → Bool) (z : Nat → Nat → Bool) : List Int → List Int → Bool
  | x :: xs, y :: ys => if x = y then lexR r z xs ys else r x y
  | xs, ys => z xs.length ys.length
theorem lexR_cons (r : Int → Int → Bool) (z : Nat → Nat → Bool) (x y : Int) (xs ys : List Int) : lexR r z (x :: xs) (y :: ys) = if x = y then lexR r z xs ys else r x y := rfl
theorem lexR_nil (r : Int → Int → Bool) (z : Nat → Nat → Bool) (ys : List Int) : lexR r z [] ys = z 0 ys.length := by cases ys <;> rfl
theorem lexR_nil' (r : Int → Int → Bool) (z : Nat → Nat → Bool) (xs : List Int) : lexR r z xs [] = z xs.length 0 := by cases xs <;> rfl
abbrev lexLt : List Int → List Int → Bool := lexR (fun i j => decide (i < j)) (fun i j => decide (i < j))
section
open PySem.SeqAt
open PySem.AutoSeq1 (wpAny_loadPart')
open PySem.MeetsSeq PySem.MeetsSeq2 PySem.MeetsSeq3
theorem tup_lt_ints (l b : Addr) (items items2 : Array Value) (n n2 : Nat) (dd dd2 : Option Addr) (sl sl2 : Array (Option Value)) (ns ms : List Int) (hi : IntsAre items.toList ns) (hj : IntsAre items2.toList ms) :
    Meets (Builtin.«tuple.__lt__» ⟨[.ref l, .ref b], []⟩)
      (fun _ R s => s.heap.get? l = some { cls := .type "tuple", dict := dd, data := .seq items n, slots := sl } ∧ s.heap.get? b = some { cls := .type "tuple", dict := dd2, data := .seq items2 n2, slots := sl2 } ∧
        R (.ok (.ret (.bool (lexLt ns ms)))) s) :=
  .of_wp fun prog w A R s h => by
    obtain ⟨hp, g, d, tk, os⟩ := s; obtain ⟨hl, hb, h⟩ := h
    have f2 := AutoSeq1.sub_tuple_tuple
    have z1 : items.size = ns.length := by rw [← hi.length]; simp
    have z2 : items2.size = ms.length := by rw [← hj.length]; simp
    wp_walk using wpAny_loadPart' hl, wpAny_loadPart' hb, wpAny_forIn_list _ (fun rest b s' => b.1 = none ∧ s' = ⟨hp, g, d, tk, os⟩ ∧ ∃ (vs ws : List Value) (ns' ms' : List Int), rest = vs.zip ws ∧
      IntsAre vs ns' ∧ IntsAre ws ms' ∧ ns'.length + items2.size = ms'.length + items.size ∧ R (.ok (.ret (.bool (lexLt ns' ms')))) ⟨hp, g, d, tk, os⟩) _
    case turn =>
      rintro ⟨y, x⟩ rest b s' ⟨hb', rfl, vs, ws, ns', ms', hz, hvi, hwi, hlen, hR⟩
      cases hvi with
      | nil => rw [List.zip_nil_left] at hz; cases hz
      | cons a t hvi' =>
        cases hwi with
        | nil => rw [List.zip_nil_right] at hz; cases hz
        | cons c u hwi' =>
          rw [List.zip_cons_cons] at hz
          injection hz with hyx hrest
          injection hyx with hy hx
          subst hy hx
          unfold lexLt at hR
          rw [lexR_cons] at hR
          simp only [List.length_cons] at hlen
          obtain ⟨e, he, hiff⟩ := HT.eqAt_int A.in1 ⟨hp, g, d, tk, os⟩ a t c u
          refine wpAny_bind (he prog w _ _ ?_)
          cases e with
          | true =>
            rw [if_pos (hiff.mp rfl)] at hR
            wp_walk
            exact ⟨rfl, rfl, _, _, _, _, hrest, hvi', hwi', by omega, hR⟩
          | false =>
            rw [if_neg (fun q => absurd (hiff.mpr q) Bool.false_ne_true)] at hR
            have hri : ∀ (E : Value → Shared → Prop) (Q : Value → Shared → Prop), Q (.bool (decide (a < c))) ⟨hp, g, d, tk, os⟩ → wpAny (model prog w) A.in1 (richCompare .Lt (.int a t) (.int c u)) Q E ⟨hp, g, d, tk, os⟩ := fun E Q h => (PyProof.Rows.lt_int h : wpAny (model prog w) A.in1 (compareOp .Lt (.int a t) (.int c u)) Q E _)
            wp_walk using hri
            exact ⟨_, rfl, by simpa using hR⟩
    case fin =>
      rintro ⟨b1, b2⟩ s' ⟨hb', rfl, vs, ws, ns', ms', hz, hvi, hwi, hlen, hR⟩
      simp only at hb'
      subst hb'
      have hv : lexLt ns' ms' = decide (items.size < items2.size) := by
        cases hvi with
        | nil =>
          unfold lexLt
          rw [lexR_nil]
          simp only [List.length_nil] at hlen
          exact decide_eq_decide.mpr (by omega)
        | cons a t hv =>
          cases hwi with
          | nil =>
            unfold lexLt
            rw [lexR_nil']
            simp only [List.length_nil] at hlen
            exact decide_eq_decide.mpr (by omega)
          | cons c u hw =>
            rw [List.zip_cons_cons] at hz
            cases hz
      rw [hv] at hR
      wp_walk
      exact ⟨_, rfl, by simpa [Builtin.Tuple.tupleCompareSizes] using hR⟩
    case h =>
      exact ⟨rfl, rfl, items.toList, items2.toList, ns, ms, rfl, hi, hj, by omega, h⟩
end
theorem lt_tupInts {prog : Program} {w : World} {A : Around} {E : Value → Shared → Prop} {s : Shared} {l b : Addr} {items items2 : Array Value} {ns ms : List Int} {Q : Value → Shared → Prop} (hl : IsTup s.heap l items) (hb : IsTup s.heap b items2) (hi : IntsAre items.toList ns) (hj : IntsAre items2.toList ms)
    (hu : A.units < cLine) (h : Q (.bool (lexLt ns ms)) s) : wpAny (model prog w) A (compareOp .Lt (.ref l) (.ref b)) Q E s := by
  obtain ⟨⟨cls, dd, data, sl⟩, ho, hc, n, hd⟩ := id hl
  obtain ⟨⟨cls2, dd2, data2, sl2⟩, ho2, hc2, n2, hd2⟩ := id hb
  simp only at hc hd hc2 hd2
  subst hc hd hc2 hd2
  exact richCompare_meets_room (op := .Lt) ⟨_, ho, rfl⟩ ⟨_, ho2, rfl⟩ PySem.F.slot_tuple_lt PySem.F.entry_tuple_lt (PySem.F.args_tuple_lt_2 _ _) (tup_lt_ints l b items items2 n n2 dd dd2 sl sl2 ns ms hi hj)
    ⟨ho, ho2, show Value.bool (lexLt ns ms) ≠ Value.notImplemented ∧ Q (.bool (lexLt ns ms)) s from ⟨(fun x => nomatch x), h⟩⟩ hu
theorem op_ltTup {X : Cx} (hu : X.A.units + 64 < cLine) : OpR X (compareOp .Lt) (fun x y H Q => ∃ a b ns ms, x = .ref a ∧ y = .ref b ∧ SqT X.K H a (ns.map V.int) ∧ SqT X.K H b (ms.map V.int) ∧ Q (.bl (lexLt ns ms)) H) := by
  intro pins s σ H x y v u Q I rx ry h
  obtain ⟨a, b, ns, ms, rfl, rfl, ha, hb, q⟩ := h
  cases rx
  cases ry
  obtain ⟨its, r1, p1, _⟩ := I.tuple ha
  obtain ⟨its2, r2, p2, _⟩ := I.tuple hb
  exact lt_tupInts p1 p2 (intsAre_of r1) (intsAre_of r2) (by omega) ⟨.bl (lexLt ns ms), H, I, rfl, q⟩
abbrev lexLe : List Int → List Int → Bool := lexR (fun i j => decide (i ≤ j)) (fun i j => decide (i ≤ j))
section
open PySem.SeqAt
open PySem.AutoSeq1 (wpAny_loadPart')
open PySem.MeetsSeq PySem.MeetsSeq2 PySem.MeetsSeq3
theorem tup_le_ints (l b : Addr) (items items2 : Array Value) (n n2 : Nat) (dd dd2 : Option Addr) (sl sl2 : Array (Option Value)) (ns ms : List Int) (hi : IntsAre items.toList ns) (hj : IntsAre items2.toList ms) :
    Meets (Builtin.«tuple.__le__» ⟨[.ref l, .ref b], []⟩)
      (fun _ R s => s.heap.get? l = some { cls := .type "tuple", dict := dd, data := .seq items n, slots := sl } ∧ s.heap.get? b = some { cls := .type "tuple", dict := dd2, data := .seq items2 n2, slots := sl2 } ∧
        R (.ok (.ret (.bool (lexLe ns ms)))) s) :=
  .of_wp fun prog w A R s h => by
    obtain ⟨hp, g, d, tk, os⟩ := s; obtain ⟨hl, hb, h⟩ := h
    have f2 := AutoSeq1.sub_tuple_tuple
    have z1 : items.size = ns.length := by rw [← hi.length]; simp
    have z2 : items2.size = ms.length := by rw [← hj.length]; simp
    wp_walk using wpAny_loadPart' hl, wpAny_loadPart' hb, wpAny_forIn_list _ (fun rest b s' => b.1 = none ∧ s' = ⟨hp, g, d, tk, os⟩ ∧ ∃ (vs ws : List Value) (ns' ms' : List Int), rest = vs.zip ws ∧
      IntsAre vs ns' ∧ IntsAre ws ms' ∧ ns'.length + items2.size = ms'.length + items.size ∧ R (.ok (.ret (.bool (lexLe ns' ms')))) ⟨hp, g, d, tk, os⟩) _
    case turn =>
      rintro ⟨y, x⟩ rest b s' ⟨hb', rfl, vs, ws, ns', ms', hz, hvi, hwi, hlen, hR⟩
      cases hvi with
      | nil => rw [List.zip_nil_left] at hz; cases hz
      | cons a t hvi' =>
        cases hwi with
        | nil => rw [List.zip_nil_right] at hz; cases hz
        | cons c u hwi' =>
          rw [List.zip_cons_cons] at hz
          injection hz with hyx hrest
          injection hyx with hy hx
          subst hy hx
          unfold lexLe at hR
          rw [lexR_cons] at hR
          simp only [List.length_cons] at hlen
          obtain ⟨e, he, hiff⟩ := HT.eqAt_int A.in1 ⟨hp, g, d, tk, os⟩ a t c u
          refine wpAny_bind (he prog w _ _ ?_)
          cases e with
          | true =>
            rw [if_pos (hiff.mp rfl)] at hR
            wp_walk
            exact ⟨rfl, rfl, _, _, _, _, hrest, hvi', hwi', by omega, hR⟩
          | false =>
            rw [if_neg (fun q => absurd (hiff.mpr q) Bool.false_ne_true)] at hR
            have hri : ∀ (E : Value → Shared → Prop) (Q : Value → Shared → Prop), Q (.bool (decide (a ≤ c))) ⟨hp, g, d, tk, os⟩ → wpAny (model prog w) A.in1 (richCompare .LtE (.int a t) (.int c u)) Q E ⟨hp, g, d, tk, os⟩ := fun E Q h => (PyProof.Rows.le_int h : wpAny (model prog w) A.in1 (compareOp .LtE (.int a t) (.int c u)) Q E _)
            wp_walk using hri
            exact ⟨_, rfl, by simpa using hR⟩
    case fin =>
      rintro ⟨b1, b2⟩ s' ⟨hb', rfl, vs, ws, ns', ms', hz, hvi, hwi, hlen, hR⟩
      simp only at hb'
      subst hb'
      have hv : lexLe ns' ms' = decide (items.size ≤ items2.size) := by
        cases hvi with
        | nil =>
          unfold lexLe
          rw [lexR_nil]
          simp only [List.length_nil] at hlen
          exact decide_eq_decide.mpr (by omega)
        | cons a t hv =>
          cases hwi with
          | nil =>
            unfold lexLe
            rw [lexR_nil']
            simp only [List.length_nil] at hlen
            exact decide_eq_decide.mpr (by omega)
          | cons c u hw =>
            rw [List.zip_cons_cons] at hz
            cases hz
      rw [hv] at hR
      wp_walk
      exact ⟨_, rfl, by simpa [Builtin.Tuple.tupleCompareSizes] using hR⟩
    case h =>
      exact ⟨rfl, rfl, items.toList, items2.toList, ns, ms, rfl, hi, hj, by omega, h⟩
end
theorem le_tupInts {prog : Program} {w : World} {A : Around} {E : Value → Shared → Prop} {s : Shared} {l b : Addr} {items items2 : Array Value} {ns ms : List Int} {Q : Value → Shared → Prop} (hl : IsTup s.heap l items) (hb : IsTup s.heap b items2) (hi : IntsAre items.toList ns) (hj : IntsAre items2.toList ms)
    (hu : A.units < cLine) (h : Q (.bool (lexLe ns ms)) s) : wpAny (model prog w) A (compareOp .LtE (.ref l) (.ref b)) Q E s := by
  obtain ⟨⟨cls, dd, data, sl⟩, ho, hc, n, hd⟩ := id hl
  obtain ⟨⟨cls2, dd2, data2, sl2⟩, ho2, hc2, n2, hd2⟩ := id hb
  simp only at hc hd hc2 hd2
  subst hc hd hc2 hd2
  exact richCompare_meets_room (op := .LtE) ⟨_, ho, rfl⟩ ⟨_, ho2, rfl⟩ PySem.F.slot_tuple_le PySem.F.entry_tuple_le (PySem.F.args_tuple_le_2 _ _) (tup_le_ints l b items items2 n n2 dd dd2 sl sl2 ns ms hi hj)
    ⟨ho, ho2, show Value.bool (lexLe ns ms) ≠ Value.notImplemented ∧ Q (.bool (lexLe ns ms)) s from ⟨(fun x => nomatch x), h⟩⟩ hu
theorem op_leTup {X : Cx} (hu : X.A.units + 64 < cLine) : OpR X (compareOp .LtE) (fun x y H Q => ∃ a b ns ms, x = .ref a ∧ y = .ref b ∧ SqT X.K H a (ns.map V.int) ∧ SqT X.K H b (ms.map V.int) ∧ Q (.bl (lexLe ns ms)) H) := by
  intro pins s σ H x y v u Q I rx ry h
  obtain ⟨a, b, ns, ms, rfl, rfl, ha, hb, q⟩ := h
  cases rx
  cases ry
  obtain ⟨its, r1, p1, _⟩ := I.tuple ha
  obtain ⟨its2, r2, p2, _⟩ := I.tuple hb
  exact le_tupInts p1 p2 (intsAre_of r1) (intsAre_of r2) (by omega) ⟨.bl (lexLe ns ms), H, I, rfl, q⟩
abbrev lexGt : List Int → List Int → Bool := lexR (fun i j => decide (j < i)) (fun i j => decide (j < i))
section
open PySem.SeqAt
open PySem.AutoSeq1 (wpAny_loadPart')
open PySem.MeetsSeq PySem.MeetsSeq2 PySem.MeetsSeq3
theorem tup_gt_ints (l b : Addr) (items items2 : Array Value) (n n2 : Nat) (dd dd2 : Option Addr) (sl sl2 : Array (Option Value)) (ns ms : List Int) (hi : IntsAre items.toList ns) (hj : IntsAre items2.toList ms) :
    Meets (Builtin.«tuple.__gt__» ⟨[.ref l, .ref b], []⟩)
      (fun _ R s => s.heap.get? l = some { cls := .type "tuple", dict := dd, data := .seq items n, slots := sl } ∧ s.heap.get? b = some { cls := .type "tuple", dict := dd2, data := .seq items2 n2, slots := sl2 } ∧
        R (.ok (.ret (.bool (lexGt ns ms)))) s) :=
  .of_wp fun prog w A R s h => by
    obtain ⟨hp, g, d, tk, os⟩ := s; obtain ⟨hl, hb, h⟩ := h
    have f2 := AutoSeq1.sub_tuple_tuple
    have z1 : items.size = ns.length := by rw [← hi.length]; simp
    have z2 : items2.size = ms.length := by rw [← hj.length]; simp
    wp_walk using wpAny_loadPart' hl, wpAny_loadPart' hb, wpAny_forIn_list _ (fun rest b s' => b.1 = none ∧ s' = ⟨hp, g, d, tk, os⟩ ∧ ∃ (vs ws : List Value) (ns' ms' : List Int), rest = vs.zip ws ∧
      IntsAre vs ns' ∧ IntsAre ws ms' ∧ ns'.length + items2.size = ms'.length + items.size ∧ R (.ok (.ret (.bool (lexGt ns' ms')))) ⟨hp, g, d, tk, os⟩) _
    case turn =>
      rintro ⟨y, x⟩ rest b s' ⟨hb', rfl, vs, ws, ns', ms', hz, hvi, hwi, hlen, hR⟩
      cases hvi with
      | nil => rw [List.zip_nil_left] at hz; cases hz
      | cons a t hvi' =>
        cases hwi with
        | nil => rw [List.zip_nil_right] at hz; cases hz
        | cons c u hwi' =>
          rw [List.zip_cons_cons] at hz
          injection hz with hyx hrest
          injection hyx with hy hx
          subst hy hx
          unfold lexGt at hR
          rw [lexR_cons] at hR
          simp only [List.length_cons] at hlen
          obtain ⟨e, he, hiff⟩ := HT.eqAt_int A.in1 ⟨hp, g, d, tk, os⟩ a t c u
          refine wpAny_bind (he prog w _ _ ?_)
          cases e with
          | true =>
            rw [if_pos (hiff.mp rfl)] at hR
            wp_walk
            exact ⟨rfl, rfl, _, _, _, _, hrest, hvi', hwi', by omega, hR⟩
          | false =>
            rw [if_neg (fun q => absurd (hiff.mpr q) Bool.false_ne_true)] at hR
            have hri : ∀ (E : Value → Shared → Prop) (Q : Value → Shared → Prop), Q (.bool (decide (c < a))) ⟨hp, g, d, tk, os⟩ → wpAny (model prog w) A.in1 (richCompare .Gt (.int a t) (.int c u)) Q E ⟨hp, g, d, tk, os⟩ := fun E Q h => (PyProof.Rows.gt_int h : wpAny (model prog w) A.in1 (compareOp .Gt (.int a t) (.int c u)) Q E _)
            wp_walk using hri
            exact ⟨_, rfl, by simpa using hR⟩
    case fin =>
      rintro ⟨b1, b2⟩ s' ⟨hb', rfl, vs, ws, ns', ms', hz, hvi, hwi, hlen, hR⟩
      simp only at hb'
      subst hb'
      have hv : lexGt ns' ms' = decide (items2.size < items.size) := by
        cases hvi with
        | nil =>
          unfold lexGt
          rw [lexR_nil]
          simp only [List.length_nil] at hlen
          exact decide_eq_decide.mpr (by omega)
        | cons a t hv =>
          cases hwi with
          | nil =>
            unfold lexGt
            rw [lexR_nil']
            simp only [List.length_nil] at hlen
            exact decide_eq_decide.mpr (by omega)
          | cons c u hw =>
            rw [List.zip_cons_cons] at hz
            cases hz
      rw [hv] at hR
      wp_walk
      exact ⟨_, rfl, by simpa [Builtin.Tuple.tupleCompareSizes] using hR⟩
    case h =>
      exact ⟨rfl, rfl, items.toList, items2.toList, ns, ms, rfl, hi, hj, by omega, h⟩
end
theorem gt_tupInts {prog : Program} {w : World} {A : Around} {E : Value → Shared → Prop} {s : Shared} {l b : Addr} {items items2 : Array Value} {ns ms : List Int} {Q : Value → Shared → Prop} (hl : IsTup s.heap l items) (hb : IsTup s.heap b items2) (hi : IntsAre items.toList ns) (hj : IntsAre items2.toList ms)
    (hu : A.units < cLine) (h : Q (.bool (lexGt ns ms)) s) : wpAny (model prog w) A (compareOp .Gt (.ref l) (.ref b)) Q E s := by
  obtain ⟨⟨cls, dd, data, sl⟩, ho, hc, n, hd⟩ := id hl
  obtain ⟨⟨cls2, dd2, data2, sl2⟩, ho2, hc2, n2, hd2⟩ := id hb
  simp only at hc hd hc2 hd2
  subst hc hd hc2 hd2
  exact richCompare_meets_room (op := .Gt) ⟨_, ho, rfl⟩ ⟨_, ho2, rfl⟩ PySem.F.slot_tuple_gt PySem.F.entry_tuple_gt (PySem.F.args_tuple_gt_2 _ _) (tup_gt_ints l b items items2 n n2 dd dd2 sl sl2 ns ms hi hj)
    ⟨ho, ho2, show Value.bool (lexGt ns ms) ≠ Value.notImplemented ∧ Q (.bool (lexGt ns ms)) s from ⟨(fun x => nomatch x), h⟩⟩ hu
theorem op_gtTup {X : Cx} (hu : X.A.units + 64 < cLine) : OpR X (compareOp .Gt) (fun x y H Q => ∃ a b ns ms, x = .ref a ∧ y = .ref b ∧ SqT X.K H a (ns.map V.int) ∧ SqT X.K H b (ms.map V.int) ∧ Q (.bl (lexGt ns ms)) H) := by
  intro pins s σ H x y v u Q I rx ry h
  obtain ⟨a, b, ns, ms, rfl, rfl, ha, hb, q⟩ := h
  cases rx
  cases ry
  obtain ⟨its, r1, p1, _⟩ := I.tuple ha
  obtain ⟨its2, r2, p2, _⟩ := I.tuple hb
  exact gt_tupInts p1 p2 (intsAre_of r1) (intsAre_of r2) (by omega) ⟨.bl (lexGt ns ms), H, I, rfl, q⟩
section
open PySem.SeqAt
open PySem.AutoSeq1 (wpAny_loadPart')
open PySem.MeetsSeq PySem.MeetsSeq2 PySem.MeetsSeq3
end
end L2
namespace L3
open PySem PySem.Spec L2
def oCmpT (g : List Int → List Int → Bool) : R → R → M R
  | .v (.tup xs), .v (.tup ys) => match nums xs, nums ys with
    | some ns, some ms => pure (.v (.bl (g ns ms)))
    | _, _ => bad
  | _, _ => bad
variable [L2.TabP]
theorem bCmpT {K : PySem.W.Frag} {mg : Str → Option Value} {g : List Int → List Int → Bool} : Bin K mg (fun x y H Q => ∃ a b ns ms, x = .ref a ∧ y = .ref b ∧ SqT K H a (ns.map V.int) ∧ SqT K H b (ms.map V.int) ∧ Q (.bl (g ns ms)) H) (oCmpT g) := fun O σ S σV H x y rx ry r' S' Q st hx hy h q => by
  unfold oCmpT at h
  split at h
  · rename_i xs ys
    split at h
    · rename_i ns ms e1 e2
      cases h
      obtain ⟨a, as, rfl, la, ra⟩ := hx
      obtain ⟨b, bs, rfl, lb, rb⟩ := hy
      rw [nums_rep ra e1] at la
      rw [nums_rep rb e2] at lb
      exact ⟨a, b, ns, ms, rfl, rfl, la, lb, q O _ H (Go.refl _ _) st rfl trivial⟩
    · cases h
  · cases h
end L3

set_option Elab.async false
set_option linter.all false
set_option maxRecDepth 100000
set_option maxHeartbeats 1000000
namespace L3
open PySem PySem.Spec L2 PyProof.Rows
/-! ### the head of a law in whose text lambdas stand -/
/-- the tables of the defs named -/
def lamQ (x : Str) : Str := x ++ Str.ofString ".<locals>." ++ Str.ofString "<lambda>"
def isTab (K : PySem.W.Frag) (P : Addr) (x : Str) : Bool := match PySem.W.tabIn K x with
  | some (_, P') => P' == P
  | none => false
abbrev tabP (K : PySem.W.Frag) (ln : List Str) : TabP := ⟨fun P => ∃ x ∈ ln, ∃ c, PySem.W.tabIn K x = some (c, P), fun P => match ln.find? (isTab K P) with
  | some x => lamQ x
  | none => ""⟩
theorem ql_of {K : PySem.W.Frag} {ln : List Str} {x : Str} {c P : Addr} (hx : x ∈ ln) (ht : PySem.W.tabIn K x = some (c, P)) (inj : ∀ y ∈ ln, isTab K P y = true → y = x) : (tabP K ln).ql P = lamQ x := by
  show (match ln.find? (isTab K P) with | some x => lamQ x | none => "") = _
  have hxt : isTab K P x = true := by unfold isTab; rw [ht]; exact beq_self_eq_true P
  cases e : ln.find? (isTab K P) with
  | none => exact absurd hxt (List.find?_eq_none.mp e x hx)
  | some y =>
    dsimp only
    rw [inj y (List.mem_of_find?_eq_some e) (List.find?_some e)]
theorem tab_mk {K : PySem.W.Frag} {x : Str} {f c P : Addr} {oc oc' : Value} {od od' : Option Addr} {fd : FuncData} {sl sl' : Array (Option Value)} {vs : Array Value} (a : PySem.W.nsIn K mainGlobals x = some (some (.ref f))) (l : K.lookup f = some ⟨oc, od, .func fd, sl⟩) (hc : fd.code = .ref c)
    (d : K.lookup c = some ⟨oc', od', .fields vs, sl'⟩) (e : vs[11]? = some (.ref P)) : PySem.W.tabIn K x = some (c, P) := by
  unfold PySem.W.tabIn
  rw [a]
  simp only [l, hc, d, e]
theorem hd_mk {K : PySem.W.Frag} {c P : Addr} {od : Option Addr} {sl : Array (Option Value)} {vs : Array Value} {file : Str} {tf tg tt : Tok} {flags text : Int} {inF : Bool} (d : K.lookup c = some ⟨.type "code", od, .fields vs, sl⟩) (e11 : vs[11]? = some (.ref P)) (f11 : vs.getD 11 .none = .ref P)
    (f18 : vs.getD 18 .none = .str file tf) (f7 : vs.getD 7 .none = .int flags tg) (f9 : vs.getD 9 .none = .bool inF) (f10 : vs.getD 10 .none = .int text tt) (ne : c ≠ P) : ∀ h, K.In h → PySem.W.CodeHd h c P := fun h X =>
  ⟨_, vs, file, tf, flags, tg, inF, text, tt, X _ _ d, rfl, rfl, e11, f11, f18, f7, f9, f10, ne⟩
theorem code_mk {K : PySem.W.Frag} {h : Heap} {mg : Str → Option Value} {x : Str} {st : Stmt} {f₀ c : Addr} {oc₀ : Value} {od₀ : Option Addr} {fd₀ : FuncData} {sl₀ : Array (Option Value)} (X : K.In h) (G : h.Ns mainGlobals mg) (a : PySem.W.nsIn K mainGlobals x = some (some (.ref f₀))) (l : K.lookup f₀ = some ⟨oc₀, od₀, .func fd₀, sl₀⟩) (hc : fd₀.code = .ref c) :
    ∀ (f : Addr) (oc : Value) (od : Option Addr) (kV doc pm : Value) (an : Option Addr) (cdv ct : Value) (osl : Array (Option Value)), mg x = some (.ref f) → K.lookup f = some ⟨oc, od, .func (PySem.W.fnOf x x (defArgs st) (defBody st) (defScope st) .none kV doc pm an cdv ct), osl⟩ → cdv = .ref c := by
  intro f oc od kV doc pm an cdv ct osl hm hl
  have e := PySem.W.mg_of X G a
  rw [hm] at e
  cases e
  rw [l] at hl
  cases hl
  exact hc
theorem all_mkT {l : PySem.W.OpenLaw} {w : World} {K : PySem.W.Frag} {mg : Str → Option Value} {fa : Addr} {k : Nat} {st : Stmt} {mf : MF} [L2.TabP] (hfa : mg "law" = some (.ref fa)) (Dl : Df K mg "law" st ["script"])
    (hb : ∀ (kV doc pm : Value) (an : Option Addr) (cdv ct v : Value), bindArgs (PySem.W.fnOf "law" "law" (defArgs st) (defBody st) (defScope st) .none kV doc pm an cdv ct) ⟨[v], []⟩ = pure [(("script" : Str), v)])
    (ht : ∀ ns : List Int, ns.length ≤ 63 → ∃ S', (mf [.lst (ns.map D.int)]).run [] = .ok (.v (.bl true)) S')
    (ok : ∀ (base : Heap), Bm base mg → ∀ (f : Addr) (fd : FuncData), Fun K "law" "law" st f fd → FnOk l.prog w K mg base CX0 k f fd ["script"] (spF K mg mf)) :
    ∃ fd : FuncData, (∀ (s : Shared) (v : Value), BindsTo s fd ⟨[v], []⟩ [("script", v)]) ∧ ∀ base : Heap, K.In base → base.Ns mainGlobals mg → Bm base mg → FnOk l.prog w K mg base CX0 k fa fd ["script"] (spLaw K) := by
  obtain ⟨f, fd, F, b, m⟩ := Dl.ex
  have e : Value.ref fa = Value.ref f := Option.some.inj (hfa.symm.trans m)
  cases e
  refine ⟨fd, fun s v => ?_, fun base _ _ bm => law_of (ok base bm fa fd F) ht⟩
  obtain ⟨oc, od, kV, doc, pm, an, cdv, ct, osl, rfl, lk, hcd⟩ := F.ex
  exact .of_eq (hb kV doc pm an cdv ct v)
theorem law_callT {P : Program} {w : World} {K : PySem.W.Frag} {mg mb : Str → Option Value} {k : Nat} {fa a : Addr} {fd : FuncData} {s₁ : Shared} {vs : List Value} {ns : List Int} [L2.TabP]
    (KX : K.In s₁.heap) (hns : s₁.heap.Ns mainGlobals mg) (hb : s₁.heap.Ns builtinsNs mb) (hbb : ∀ x : Str, x ≠ "__name__" → mb x = bootBuiltins x) (hlim : s₁.heap.NoLimit) (hg : s₁.gens = #[])
    (ha : s₁.heap.get? a = some { cls := .type "list", data := .seq vs.toArray }) (hi : IntsAre vs ns) (hl : ns.length ≤ 63) (hr : Room k callerA)
    (hbm : Bm s₁.heap mg) (F : ∀ base : Heap, K.In base → base.Ns mainGlobals mg → Bm base mg → FnOk P w K mg base CX0 k fa fd ["script"] (spLaw K)) (hbind : ∀ (s : Shared) (u : Value), BindsTo s fd ⟨[u], []⟩ [("script", u)])
    (hT : ∀ p, TabP.tp p → s₁.heap.get? p = some (PySem.W.tabObj #[]) ∧ isCodeTable s₁.heap p ∧ K.lookup p = none) :
    codeAny (model P w) callerA (.call (.ref fa) ⟨[.ref a], []⟩) (fun r s' => r = .ok (.ret (.bool true)) ∧ OldK s₁.heap s'.heap ∧ s'.os = s₁.os ∧ AllBare s'.gens) s₁ := by
  have rv := vals_ints hi
  have lenV := hi.length
  have hl63 : ns.length ≤ sizeLine := by rw [sizeLine_eq]; omega
  have naT : ¬ TabP.tp a := fun z => by have := (hT a z).1; rw [ha] at this; cases this
  have core : ∀ H : Hp, (∀ b, H b = none ∨ (∃ o xs, H b = some (.frz o (.lst xs))) ∨ (TabP.tp b ∧ H b = some (.tbl #[]))) → SqL K H a (ns.map V.int) → TabsOk H → HOk P w H s₁.heap → (∀ b, H b ≠ none → b = a ∨ TabP.tp b) → (∀ b, H b ≠ none → K.lookup b = none) →
      codeAny (model P w) callerA (.call (.ref fa) ⟨[.ref a], []⟩) (fun r s' => r = .ok (.ret (.bool true)) ∧ OldK s₁.heap s'.heap ∧ s'.os = s₁.os ∧ AllBare s'.gens) s₁ := by
    intro H hO hS hTb hok hA hK
    have noA : ∀ {b : Addr} {o : Obj} {es : Array DictEntry} {ep : Nat}, s₁.heap.get? b = some o → o.data = .dict es ep → H b = none := fun {b o es ep} e d => by
      cases q : H b with
      | none => rfl
      | some u =>
        rcases hA b (by rw [q]; simp) with e' | e'
        · subst e'
          rw [ha] at e; cases e
          cases d
        · rw [(hT b e').1] at e; cases e
          cases d
    have nsK : ∀ {b : Addr} {m : Str → Option Value}, s₁.heap.Ns b m → (hidT s₁.heap H).Ns b m := fun {b m} ⟨o, es, ep, e, d, r⟩ => ⟨o, es, ep, hidT_get e (noA e d), d, r⟩
    have hKb : K.In (hidT s₁.heap H) := fun b o e => hidT_get (KX b o e) (by
      cases q : H b with
      | none => rfl
      | some u => rw [hK b (by rw [q]; simp)] at e; cases e)
    have hM : Mod K mg (hidT s₁.heap H) := ⟨hKb, nsK hns, ⟨mb, nsK hb, hbb⟩, let ⟨mc, h1, h2⟩ := hlim; ⟨mc, nsK h1, h2⟩⟩
    have e0 : Env0 P w K mg (hidT s₁.heap H) callerA [] s₁ H := ⟨rfl, hM, fun b o e => of_hidT e, Nat.le_of_eq (hidT_size _ _), trivial, fun b hb => absurd (show b ∈ ([] : List Addr) from hb) (by simp), hok, .of_eq hg⟩
    have hBm : Bm (hidT s₁.heap H) mg := by
      obtain ⟨bm, o, b1, b2, b3, b4, b5, b6, b7⟩ := hbm.ex
      refine ⟨bm, o, b1, b2, b3, hidT_get b4 ?_, b5, b6, b7⟩
      cases q : H bm with
      | none => rfl
      | some u =>
        rcases hA bm (by rw [q]; simp) with e' | e'
        · subst e'
          rw [ha] at b4; cases b4
          cases b7
        · rw [(hT bm e').1] at b4; cases b4
          cases b7
    refine codeAny_mono ((F _ hKb (nsK hns) hBm).run callerA [] s₁ H ⟨[.ref a], []⟩ [.ref a] [.ref a] (fun v _ => v = .bl true) E0 hr e0 (hbind s₁ (.ref a)) (.cons rfl .nil) ⟨a, ns, rfl, hS, hl, hTb, fun _ => rfl⟩) fun r s' h => ?_
    cases r with
    | error e => exact False.elim h
    | ok fl =>
      cases fl with
      | next => exact False.elim h
      | brk => exact False.elim h
      | cont => exact False.elim h
      | ret u =>
        obtain ⟨v, H', os, bare, un, hok', r', q⟩ := h
        have q' : v = .bl true := q
        subst q'
        obtain rfl : u = Value.bool true := r'
        have each : ∀ b o, s₁.heap.get? b = some o → asItWas s₁.heap s'.heap b o ∧ ∃ o', s'.heap.get? b = some o' := fun b o e => by
          rcases hO b with z | ⟨ob, xs, z⟩ | ⟨t, z⟩
          · have := un.keep b o e z (by intro w; exact absurd (show b ∈ ([] : List Addr) from w) (by simp)) (by simp)
            exact ⟨.inl this, o, this⟩
          · have z2 := un.frzs b ob _ z
            obtain ⟨e1, _⟩ := hok b _ z
            obtain ⟨e2, _⟩ := hok' b _ z2
            rw [e] at e1; cases e1
            exact ⟨.inl e2, _, e2⟩
          · obtain ⟨more, z2⟩ := un.tbls b #[] z
            have e2 : s'.heap.get? b = _ := hok' b _ z2
            rw [(hT b t).1] at e; cases e
            exact ⟨.inr (.inl ⟨(hT b t).2.1, rfl, #[], more, rfl, e2⟩), _, e2⟩
        exact ⟨rfl, ⟨fun b o e => (each b o e).1, fun b o e => (each b o e).2⟩, os, bare⟩
  classical
  have tbl0 : ∀ (H : Hp), (∀ p, TabP.tp p → H p = some (.tbl #[])) → TabsOk H := fun H h p hp => ⟨#[], h p hp, trivial, fun pos cv z => by cases z⟩
  cases hk : K.lookup a with
  | some o =>
    have e := KX a o hk
    rw [ha] at e
    cases e
    refine core (fun b => if TabP.tp b then some (.tbl #[]) else none) (fun b => ?_) (.inr ⟨_, vs.toArray, _, hk, rfl, rfl, rfl, by rw [List.size_toArray, lenV]; exact hl63, by simpa using rv⟩) (tbl0 _ fun p hp => if_pos hp) (fun b u z => ?_) (fun b z => ?_) fun b z => ?_
    · by_cases t : TabP.tp b
      · exact .inr (.inr ⟨t, if_pos t⟩)
      · exact .inl (if_neg t)
    · by_cases t : TabP.tp b
      · have z' := (if_pos t).symm.trans z
        cases z'
        exact (hT b t).1
      · have z' := (if_neg t).symm.trans z
        cases z'
    · by_cases t : TabP.tp b
      · exact .inr t
      · exact absurd (if_neg t) z
    · by_cases t : TabP.tp b
      · exact (hT b t).2.2
      · exact absurd (if_neg t) z
  | none =>
    refine core (fun b => if b = a then some (.frz { cls := .type "list", data := .seq vs.toArray } (.lst (ns.map V.int))) else if TabP.tp b then some (.tbl #[]) else none) (fun b => ?_) (.inl (.inr ⟨{ cls := .type "list", data := .seq vs.toArray }, if_pos rfl⟩)) (tbl0 _ fun p hp => ?_) (fun b u z => ?_) (fun b z => ?_) fun b z => ?_
    · by_cases hb : b = a
      · exact .inr (.inl ⟨_, _, if_pos hb⟩)
      · by_cases t : TabP.tp b
        · exact .inr (.inr ⟨t, by rw [if_neg hb, if_pos t]⟩)
        · exact .inl (by rw [if_neg hb, if_neg t])
    · rw [if_neg (by rintro rfl; exact naT hp), if_pos hp]
    · by_cases hb : b = a
      · have z' := (if_pos hb).symm.trans z
        cases z'
        subst hb
        exact ⟨ha, by rw [List.length_map]; exact hl63, vs, _, rv, ha⟩
      · try dsimp only at z
        rw [if_neg hb] at z
        by_cases t : TabP.tp b
        · rw [if_pos t] at z; cases z
          exact (hT b t).1
        · rw [if_neg t] at z; cases z
    · by_cases hb : b = a
      · exact .inl hb
      · try dsimp only at z
        rw [if_neg hb] at z
        by_cases t : TabP.tp b
        · exact .inr t
        · rw [if_neg t] at z; exact absurd rfl z
    · by_cases hb : b = a
      · rw [hb]; exact hk
      · try dsimp only at z
        rw [if_neg hb] at z
        by_cases t : TabP.tp b
        · exact (hT b t).2.2
        · rw [if_neg t] at z; exact absurd rfl z
theorem walkT {l : PySem.W.OpenLaw} {q : Program} {k : Nat} {loose : List Str} {XP : (Str → Option Value) → Heap → Prop} {YP : World → Heap → Prop} {d : DefRec} {K : Params → PySem.W.Frag} (ln : List Str) (hn : l.most = some 63) (hdf : d.params.defaults = []) (hr : Room k callerA)
    (hrec : ∀ x ∈ ln, ∃ d, (recsOf q).find? (fun e => e.name == x) = some d) (hnt : ∀ p, PySem.W.noTabs (K p) = true)
    (hY : ∀ (w : World) (h : Heap), YP w h → (K w.params).In h)
    (F : ∀ (w : World) (mg : Str → Option Value) (fa : Addr) (h : Heap), (K w.params).In h → h.Ns mainGlobals mg → mg d.name = some (.ref fa) →
      ∃ fd : FuncData, (∀ (s : Shared) (u : Value), BindsTo s fd ⟨[u], []⟩ [("script", u)]) ∧ ∀ base : Heap, (K w.params).In base → base.Ns mainGlobals mg → Bm base mg → @FnOk l.prog w (K w.params) mg base CX0 k fa fd ["script"] (@spLaw (tabP (K w.params) ln) (K w.params))) :
    PySem.W.WalkO q loose XP YP l.row.toRowW d [] (fun f vs => PySem.call f vs) := by
  refine Att.attach_call hn hdf fun w s₀ s₁ mg mb fa o pm cd doc a vs ns G Y ho hd hcd hmg hobj hints hlen hg => ?_
  have KX := hY w _ Y
  obtain ⟨fd, hb, hF⟩ := F w mg fa _ KX G.T.g hmg
  letI := tabP (K w.params) ln
  have hbm : Bm s₁.heap mg := by
    obtain ⟨bm, ob, b1, b2, b3, b4, b5, b6⟩ := G.T.bmain
    refine ⟨bm, ob, b1, b2, fun q => ?_, b3, b4, b5, b6⟩
    obtain ⟨o, es, ep, e, hd, _⟩ := G.T.g
    rw [q, e] at b3; cases b3; rw [hd] at b6; cases b6
  refine law_callT KX G.T.g G.T.b G.T.builtins G.T.nolimit hg hobj hints hlen hr hbm hF hb fun p ⟨x, hx, c, ht⟩ => ?_
  obtain ⟨d, hd⟩ := hrec x hx
  obtain ⟨h1, h2⟩ := PySem.W.tab_of G.T KX hd ht
  refine ⟨h2, (h1.tab h2).isCodeTable, ?_⟩
  cases e : (K w.params).lookup p with
  | none => rfl
  | some o =>
    have e2 := KX p o e
    rw [h2] at e2
    cases e2
    have h3 := List.all_eq_true.mp (hnt w.params) (p, _) (PySem.W.mem_of_lookupK e)
    exact absurd (show false = true from h3) Bool.false_ne_true
end L3
namespace L3
open PySem PySem.Spec L2 PyProof.Rows
theorem lm_mk {K : PySem.W.Frag} {h : Heap} {mg : Str → Option Value} {x : Str} {st : Stmt} {ln : List Str} {f c P : Addr} {oc oc' : Value} {od od' : Option Addr} {fd : FuncData} {sl sl' : Array (Option Value)} {vs : Array Value} {file : Str} {tf tg tt : Tok} {flags text : Int} {inF : Bool} (X : K.In h) (G : h.Ns mainGlobals mg) (hx : x ∈ ln)
    (a : PySem.W.nsIn K mainGlobals x = some (some (.ref f))) (l : K.lookup f = some ⟨oc, od, .func fd, sl⟩) (hc : fd.code = .ref c) (d : K.lookup c = some ⟨oc', od', .fields vs, sl'⟩) (hoc : oc' = .type "code") (e11 : vs[11]? = some (.ref P)) (f11 : vs.getD 11 .none = .ref P)
    (f18 : vs.getD 18 .none = .str file tf) (f7 : vs.getD 7 .none = .int flags tg) (f9 : vs.getD 9 .none = .bool inF) (f10 : vs.getD 10 .none = .int text tt) (ne : c ≠ P) (inj : ∀ y ∈ ln, isTab K P y = true → y = x) :
    ∃ c P, @Lm (tabP K ln) K c P (lamQ x) ∧ ∀ (f : Addr) (oc : Value) (od : Option Addr) (kV doc pm : Value) (an : Option Addr) (cdv ct : Value) (osl : Array (Option Value)), mg x = some (.ref f) → K.lookup f = some ⟨oc, od, .func (PySem.W.fnOf x x (defArgs st) (defBody st) (defScope st) .none kV doc pm an cdv ct), osl⟩ → cdv = .ref c := by
  subst hoc
  have ht := tab_mk a l hc d e11
  exact ⟨c, P, @Lm.mk (tabP K ln) K c P (lamQ x) (hd_mk d e11 f11 f18 f7 f9 f10 ne) ⟨x, hx, c, ht⟩ (ql_of hx ht inj), code_mk X G a l hc⟩
end L3

set_option Elab.async false
set_option linter.all false
set_option maxRecDepth 100000
set_option maxHeartbeats 1000000
namespace L3
open PySem PySem.Spec L2 PyProof.Rows
variable [L2.TabP]
section
variable {X : Cx} {k : Nat} {e : Expr} {ma : ME} {Z : KO} {p pos kp : Pos} {mf : MF}
theorem we_sortL {c P : Addr} {q p1 : Str} {params : Arguments} {body : Expr} {scope : Scope} {lp : Pos} {N : List Str} {m : ME} (hZ : Z.Ok) (hg : Gl X "sorted") (hm : X.mg "sorted" = none) (hr : Room (k + 3) X.A) (L : Lm X.K c P q) (B : Bm X.base X.mg) (hcode : X.env.code = .ref c)
    (hq : X.env.qual ++ Str.ofString "<lambda>" = q) (Sc : FnScope N [p1] scope)
    (hbind : ∀ (c : Addr) (pm ctv u : Value), bindArgs (PySem.W.kla_fn (Str.ofString "<lambda>") q params body scope [] pm (.ref c) ctv) ⟨[u], []⟩ = pure [(p1, u)])
    (hb : ∀ (f c : Addr) (A : Around) (s : Shared) (H : Hp), Room k (A.deeper (envOfC q scope s.heap.objs.size f (.ref c))) → WE (cxOf CX0 X.prog X.w X.K X.mg X.base N q scope f (.ref c) A X.stack s H E0).nox body m)
    (ha : WE X e ma) (hdef : defaultsOf params X.env = ([], []) := by rfl) (hcl : closureFor scope X.env = pure [] := by rfl)
    (he : backTo pos (starEach [e] X.env) = (false, eval e X.env) :: backTo pos (starEach [] X.env) := by rfl)
    (hs : starEach [e] X.env = (false, eval e X.env) :: starEach [] X.env := by rfl)
    (hplain : (backTo pos (starEach [e] X.env)).any (·.1) = false := by rfl) :
    WE X (.Call (.Name "sorted" p) [e] [⟨some (Str.ofString "key"), .Lambda params body scope lp, kp⟩] pos) (cSortK Z (fnOf 1 N.length (cRet m)) ma) :=
  ⟨ce_sortL hZ hg hm hr L B hcode hq Sc hbind (fun f c A s H hr => (hb f c A s H hr).un) ha.un hdef hcl he hs hplain⟩
end
end L3

set_option Elab.async false
set_option linter.all false
set_option maxRecDepth 100000
set_option maxHeartbeats 1000000
namespace L3
open PySem PySem.Spec L2
/-! ### dicts with ints and texts for keys -/
def keyD : D → Option Key
  | .int i => some (.inl i)
  | .str x => some (.inr x)
  | _ => none
def dvalD (kvs : List (Key × D)) (k : Key) : Option D := (kvs.find? fun kv => decide (kv.1 = k)).map (·.2)
def dputD (kvs : List (Key × D)) (k : Key) (d : D) : List (Key × D) :=
  if (kvs.any fun kv => decide (kv.1 = k)) = true then kvs.map (fun kv => if kv.1 = k then (kv.1, d) else kv) else kvs ++ [(k, d)]
/-- d.get(k, x) -/
def cDGet2 (m mk mx : ME) : ME := fun σ => do
  let x ← m σ
  let k ← mk σ
  let z ← mx σ
  match x, k, z with
  | .dv kvs, .v kd, .v zd => match keyD kd with
    | some key => pure (.v ((dvalD kvs key).getD zd))
    | none => bad
  | _, _, _ => bad
/-- d[k] -/
def oDIx : R → R → M R
  | .dv kvs, .v kd => match keyD kd with
    | some key => match dvalD kvs key with
      | some d => pure (.v d)
      | none => bad
    | none => bad
  | _, _ => bad
/-- k in d -/
def oDIn (neg : Bool) : R → R → M R
  | .v kd, .dv kvs => match keyD kd with
    | some key => pure (.v (.bl (if neg then !(dvalD kvs key).isSome else (dvalD kvs key).isSome)))
    | none => bad
  | _, _ => bad
/-- x = {} -/
def cDNew (i : Nat) : MS := fun σ => pure (.nx (σ.set i (.dct [])))
/-- x[k] = v -/
def cDPut (i : Nat) (mk mv : ME) : MS := fun σ => do
  let r ← mv σ
  let d ← r.dat
  let k ← mk σ
  match σ[i]?, k with
  | some (.dct kvs), .v kd => match keyD kd with
    | some key => if kvs.length < 1000 then pure (.nx (σ.set i (.dct (dputD kvs key d)))) else bad
    | none => bad
  | _, _ => bad
variable [L2.TabP]
section
variable {K : PySem.W.Frag} {mg : Str → Option Value} {O : Ow} {H : Hp}
end
/-! what stands while a dict is written -/
section
variable {K : PySem.W.Frag} {mg : Str → Option Value} {O : Ow} {H : Hp} {l : Addr} {zs : List (Key × V)} {o : HO}
mutual
theorem Rep.updK (hl : H l = some (.dK zs)) : ∀ {d : D} {v : V}, Rep K mg O H d v → Rep K mg O (upd H l o) d v
  | .non, _, h => h
  | .bl _, _, h => h
  | .int _, _, h => h
  | .str _, _, h => h
  | .tup _, _, h => by
    obtain ⟨a, ys, q, t, r⟩ := h
    refine ⟨a, ys, q, ?_, RepAll.updK hl r⟩
    rcases t with (t | ⟨o, t⟩) | t
    · exact .inl (.inl (by rw [upd_ne (ne_of t hl (by intro z; cases z))]; exact t))
    · exact .inl (.inr ⟨o, by rw [upd_ne (ne_of t hl (by intro z; cases z))]; exact t⟩)
    · exact .inr t
  | .lst _, _, h => by
    obtain ⟨a, ys, q, t, r⟩ := h
    exact ⟨a, ys, q, ⟨by rw [upd_ne (ne_of t.1 hl (by intro z; cases z))]; exact t.1, t.2⟩, RepAll.updK hl r⟩
  | .dic _ _, _, h => h
  | .fn _, _, h => h
  | .ty _, _, h => h
theorem RepAll.updK (hl : H l = some (.dK zs)) : ∀ {ds : List D} {ys : List V}, RepAll K mg O H ds ys → RepAll K mg O (upd H l o) ds ys
  | [], _, h => h
  | _ :: _, _, h => by obtain ⟨x, r, q, a, b⟩ := h; exact ⟨x, r, q, Rep.updK hl a, RepAll.updK hl b⟩
end
end
section
variable {X : Cx} {o i e f value : Expr} {m mk mx mv : ME} {pos pos' apos cpos : Pos} {x : Str} {j : Nat}
end
end L3

set_option Elab.async false
set_option linter.all false
set_option maxRecDepth 100000
set_option maxHeartbeats 1000000
namespace L3
open PySem PySem.Spec L2
variable [L2.TabP]
section
variable {X : Cx} {o i e f value : Expr} {m mk mx mv : ME} {pos pos' apos cpos : Pos} {x : Str} {j : Nat}
end
/-! ### evaluation -/
end L3
namespace L3
open PySem PySem.Spec L2
@[simp] theorem e_dget2 {m mk mx : ME} {σ : En} : cDGet2 m mk mx σ = (do
  let x ← m σ
  let k ← mk σ
  let z ← mx σ
  match x, k, z with
  | .dv kvs, .v kd, .v zd => match keyD kd with
    | some key => pure (.v ((dvalD kvs key).getD zd))
    | none => bad
  | _, _, _ => bad) := rfl
@[simp] theorem e_keyi {i : Int} : keyD (.int i) = some (.inl i) := rfl
@[simp] theorem e_keys {x : Str} : keyD (.str x) = some (.inr x) := rfl
@[simp] theorem e_dix {kvs : List (Key × D)} {kd : D} : oDIx (.dv kvs) (.v kd) = match keyD kd with
    | some key => match dvalD kvs key with
      | some d => pure (.v d)
      | none => bad
    | none => bad := rfl
@[simp] theorem e_din {neg : Bool} {kvs : List (Key × D)} {kd : D} : oDIn neg (.v kd) (.dv kvs) = match keyD kd with
    | some key => pure (.v (.bl (if neg then !(dvalD kvs key).isSome else (dvalD kvs key).isSome)))
    | none => bad := rfl
@[simp] theorem e_dnew {i : Nat} {σ : En} : cDNew i σ = pure (.nx (σ.set i (.dct []))) := rfl
@[simp] theorem e_dput {i : Nat} {mk mv : ME} {σ : En} : cDPut i mk mv σ = (do
  let r ← mv σ
  let d ← r.dat
  let k ← mk σ
  match σ[i]?, k with
  | some (.dct kvs), .v kd => match keyD kd with
    | some key => if kvs.length < 1000 then pure (.nx (σ.set i (.dct (dputD kvs key d)))) else bad
    | none => bad
  | _, _ => bad) := rfl
end L3


set_option Elab.async false
set_option linter.all false
set_option maxRecDepth 100000
set_option maxHeartbeats 1000000
namespace L3
open PySem PySem.Spec L2 PyProof.Rows
/-! ### sorted(..) of a list or of a dict's keys, without a key -/
def kD : Key → D
  | .inl i => .int i
  | .inr x => .str x
variable [L2.TabP]
section
variable {X : Cx} {pins : List (Addr × Obj)} {σ : L2.St} {H : Hp} {s : Shared} {O : Ow} {Z : KO} {ka : List Z.κ.α} {xs : List V} {us : List Value} {E : Value → Shared → Prop} {A : Around} {Q : VK}
end
section
variable {K : PySem.W.Frag} {mg : Str → Option Value} {Z : KO}
end
end L3

set_option Elab.async false
set_option linter.all false
set_option maxRecDepth 100000
set_option maxHeartbeats 1000000
namespace L3
open PySem PySem.Spec L2 PyProof.Rows
/-! ### slices of texts -/
def cutS (z : Str) (lo hi : Option Int) : Str := ⟨(cutD z.cps.toList lo hi).toArray⟩
def oSlS : R → Option Int → Option Int → M R
  | .v (.str z), lo, hi => if z.length ≤ sizeLine then pure (.v (.str (cutS z lo hi))) else bad
  | _, _, _ => bad
def cSlS (a : ME) (lo hi : MO) : ME := fun σ => do
  let x ← a σ
  let l ← lo σ
  let h ← hi σ
  oSlS x l h
variable [L2.TabP]
section
variable {X : Cx} {e : Expr} {m : ME} {lo hi : Option Expr} {ml mh : MO} {pos p2 : Pos}
end
omit [L2.TabP] in
@[simp] theorem e_slS {a : ME} {lo hi : MO} {σ : En} : cSlS a lo hi σ = (do
  let x ← a σ
  let l ← lo σ
  let h ← hi σ
  oSlS x l h) := rfl
omit [L2.TabP] in
@[simp] theorem e_sls {z : Str} {lo hi : Option Int} : oSlS (.v (.str z)) lo hi = if z.length ≤ sizeLine then pure (.v (.str (cutS z lo hi))) else bad := rfl
end L3

set_option Elab.async false
set_option linter.all false
set_option maxRecDepth 100000
set_option maxHeartbeats 1000000
namespace L3
open PySem PySem.Spec L2 PyProof.Rows
/-! ### a table of defs, by texts; a def in a local name -/
structure FnTab (P : Program) (w : World) (K : PySem.W.Frag) (mg : Str → Option Value) (x : Str) (ps : List (Str × Str)) : Prop where
  ex : ∃ (a : Addr) (es : Array DictEntry) (n : Nat), mg x = some (.ref a) ∧ List.lookup a K = some { cls := .type "dict", data := .dict es n } ∧ PySem.KeysOf (PySem.strKind P w) es ∧
    ∀ k fn, ps.lookup k = some fn → ∃ f, findBy Value.isStrOf es k = some (.ref f) ∧ mg fn = some (.ref f)
def cTab (ps : List (Str × Str)) (mk : ME) : ME := fun σ => do
  let k ← mk σ
  match k with
  | .v (.str z) => match ps.lookup z with
    | some fn => pure (.v (.fn fn))
    | none => bad
  | _ => bad
def cCallV (i : Nat) (fs : List (Str × MF)) (ms : MA) : ME := fun σ => match σ[i]? with
  | some (.val (.fn f)) => match fs.lookup f with
    | some mf => cCall mf ms σ
    | none => bad
  | _ => bad
variable [L2.TabP]
section
variable {X : Cx} {x : Str} {ps : List (Str × Str)} {i : Expr} {pos p : Pos} {ty : TE} {mk : ME} {j k : Nat} {e : Expr} {es : List Expr} {ms : MA} {pp : List Str} {fs : List (Str × MF)}
end
omit [L2.TabP] in
@[simp] theorem e_tab {ps : List (Str × Str)} {mk : ME} {σ : En} : cTab ps mk σ = (do
  let k ← mk σ
  match k with
  | .v (.str z) => match ps.lookup z with
    | some fn => pure (.v (.fn fn))
    | none => bad
  | _ => bad) := rfl
omit [L2.TabP] in
@[simp] theorem e_callV {i : Nat} {fs : List (Str × MF)} {ms : MA} {σ : En} : cCallV i fs ms σ = match σ[i]? with
  | some (.val (.fn f)) => match fs.lookup f with
    | some mf => cCall mf ms σ
    | none => bad
  | _ => bad := rfl
omit [L2.TabP] in
@[simp] theorem e_slotfn {f : Str} : slotOf (.fn f) = .val (.fn f) := rfl
end L3

set_option Elab.async false
set_option linter.all false
set_option maxRecDepth 100000
set_option maxHeartbeats 1000000
namespace L3
open PySem PySem.Spec L2 PyProof.Rows
/-! ### xs[i] = v of an own list; xs * n; a, b from a list -/
def cIPut (j : Nat) (mk mv : ME) : MS := fun σ => do
  let r ← mv σ
  let d ← r.dat
  let k ← mk σ
  match σ[j]?, k with
  | some (.ow p xs), .v (.int i) => if 0 ≤ i ∧ i < xs.length then pure (.nx (σ.set j (.ow p (xs.set i.toNat d)))) else bad
  | _, _ => bad
section
variable {prog : Program} {w : World} {A : Around} {E : Value → Shared → Prop} {s : Shared}
end
variable [L2.TabP]
section
variable {K : PySem.W.Frag} {mg : Str → Option Value}
end
section
variable {X : Cx} {o i e value : Expr} {m mk mv : ME} {pos pos' apos tpos : Pos} {x : Str} {j : Nat}
end
section
variable {X : Cx} {pos tpos : Pos} {is : List Nat} {es : List Expr} {k : Nat} {iter : Expr} {it : MI} {body : List Stmt} {b : MS}
def cForL (is : List Nat) (it : MI) (b : MS) : MS := fun σ => do
  let ds ← it σ
  fLoop (fun d σ => match d with
    | .lst es => if es.length = is.length then b (setsD is es σ) else bad
    | _ => bad) ds σ
end
omit [L2.TabP] in
@[simp] theorem e_iput {j : Nat} {mk mv : ME} {σ : En} : cIPut j mk mv σ = (do
  let r ← mv σ
  let d ← r.dat
  let k ← mk σ
  match σ[j]?, k with
  | some (.ow p xs), .v (.int i) => if 0 ≤ i ∧ i < xs.length then pure (.nx (σ.set j (.ow p (xs.set i.toNat d)))) else bad
  | _, _ => bad) := rfl
omit [L2.TabP] in
@[simp] theorem e_forL {is : List Nat} {it : MI} {b : MS} {σ : En} : cForL is it b σ = (do
  let ds ← it σ
  fLoop (fun d σ => match d with
    | .lst es => if es.length = is.length then b (setsD is es σ) else bad
    | _ => bad) ds σ) := rfl
end L3

set_option Elab.async false
set_option linter.all false
set_option maxRecDepth 100000
set_option maxHeartbeats 1000000
namespace L3
open PySem PySem.W PyProof.Rows
/-! ### the sort's asks, by an order of distinct things -/
/-- a strict order in which any two stand apart -/
structure Ord (n : Nat) (lt : Nat → Nat → Bool) : Prop where
  tr : ∀ i j k, i < n → j < n → k < n → lt i j = true → lt j k = true → lt i k = true
  tot : ∀ i j, i < n → j < n → i ≠ j → lt i j = false → lt j i = true
  asy : ∀ i j, i < n → j < n → lt i j = true → lt j i = false
/-- a row of the places 0 .. n - 1 -/
structure Row (n : Nat) (p : Array Nat) : Prop where
  sz : p.size = n
  lt : ∀ i, i < n → p.getD i 0 < n
  ap : ∀ i j, i < n → j < n → i ≠ j → p.getD i 0 ≠ p.getD j 0
  pm : p.toList.Perm (List.range n)
section
variable {n : Nat} {lt : Nat → Nat → Bool} (O : Ord n lt)
include O
end
end L3

set_option Elab.async false
set_option linter.all false
set_option maxRecDepth 100000
set_option maxHeartbeats 1000000
namespace L3
open PySem PySem.W PyProof.Rows
/-! ### list.sort, by the asks -/
section
variable {prog : Program} {w : World} {A : Around} {E : Value → Shared → Prop} {s : Shared}
end
end L3

set_option Elab.async false
set_option linter.all false
set_option maxRecDepth 100000
set_option maxHeartbeats 1000000
namespace L3
open PySem
open Sem (wp)
/-! ### a place (e, (n, i)) as a key -/
section
variable {prog : Program} {w : World}
variable {A : Around} {E : Value → Shared → Prop} {s : Shared}
end
end L3

set_option Elab.async false
set_option linter.all false
set_option maxRecDepth 100000
set_option maxHeartbeats 1000000
namespace L3
open PySem PySem.W PyProof.Rows
open Sem (wp)
/-! ### the keys of a dict, whatever they are -/
section
variable {prog : Program} {w : World} {A : Around} {E : Value → Shared → Prop} {s : Shared} {d it : Addr} {es : Array DictEntry} {ep : Nat}
end
end L3

set_option Elab.async false
set_option linter.all false
set_option maxRecDepth 100000
set_option maxHeartbeats 1000000
namespace L3
open PySem PySem.Spec L2 PyProof.Rows
/-! ### dicts whose keys are places -/
def unPl : D → Option Pl
  | .tup [.int e, .tup [.int n, .int i]] => some (e, n, i)
  | _ => none
def pval (kvs : List (Pl × D)) (p : Pl) : Option D := (kvs.find? fun kv => decide (kv.1 = p)).map (·.2)
def pput (kvs : List (Pl × D)) (p : Pl) (d : D) : List (Pl × D) := if (kvs.any fun kv => decide (kv.1 = p)) = true then kvs.map fun kv => if kv.1 = p then (kv.1, d) else kv else kvs ++ [(p, d)]
section
variable {X : Cx} {pins : List (Addr × Obj)} {σ : L2.St} {H : Hp} {s : Shared}
end
section
variable {K : PySem.W.Frag} {mg : Str → Option Value} {O : Ow} {H : Hp}
end
end L3

set_option Elab.async false
set_option linter.all false
set_option maxRecDepth 100000
set_option maxHeartbeats 1000000
namespace L3
open PySem PySem.Spec L2 PyProof.Rows
variable [L2.TabP]
/-! what stands while a dict is written -/
section
variable {K : PySem.W.Frag} {mg : Str → Option Value} {O : Ow} {H : Hp} {l : Addr} {zs : List (Pl × Addr × Value)} {o : HO}
mutual
theorem Rep.updP (hl : H l = some (PD l zs)) : ∀ {d : D} {v : V}, Rep K mg O H d v → Rep K mg O (upd H l o) d v
  | .non, _, h => h
  | .bl _, _, h => h
  | .int _, _, h => h
  | .str _, _, h => h
  | .tup _, _, h => by
    obtain ⟨a, ys, q, t, r⟩ := h
    refine ⟨a, ys, q, ?_, RepAll.updP hl r⟩
    rcases t with (t | ⟨o, t⟩) | t
    · exact .inl (.inl (by rw [upd_ne (ne_of t hl (by intro z; cases z))]; exact t))
    · exact .inl (.inr ⟨o, by rw [upd_ne (ne_of t hl (by intro z; cases z))]; exact t⟩)
    · exact .inr t
  | .lst _, _, h => by
    obtain ⟨a, ys, q, t, r⟩ := h
    exact ⟨a, ys, q, ⟨by rw [upd_ne (ne_of t.1 hl (by intro z; cases z))]; exact t.1, t.2⟩, RepAll.updP hl r⟩
  | .dic _ _, _, h => h
  | .fn _, _, h => h
  | .ty _, _, h => h
theorem RepAll.updP (hl : H l = some (PD l zs)) : ∀ {ds : List D} {ys : List V}, RepAll K mg O H ds ys → RepAll K mg O (upd H l o) ds ys
  | [], _, h => h
  | _ :: _, _, h => by obtain ⟨x, r, q, a, b⟩ := h; exact ⟨x, r, q, Rep.updP hl a, RepAll.updP hl b⟩
end
end
/-! the rules -/
def cPNew (i : Nat) : MS := fun σ => pure (.nx (σ.set i (.pd [])))
def pdOf : Option Slot → Option (List (Pl × D))
  | some (.pd kvs) => some kvs
  | some (.vp kvs) => some kvs
  | _ => none
def cPIx (j : Nat) (mk : ME) : ME := fun σ => do
  let k ← mk σ
  match pdOf σ[j]?, k with
  | some kvs, .v kd => match unPl kd with
    | some p => match pval kvs p with
      | some d => pure (.v d)
      | none => bad
    | none => bad
  | _, _ => bad
def cPGet2 (j : Nat) (mk mx : ME) : ME := fun σ => do
  let k ← mk σ
  let z ← mx σ
  match pdOf σ[j]?, k, z with
  | some kvs, .v kd, .v zd => match unPl kd with
    | some p => pure (.v ((pval kvs p).getD zd))
    | none => bad
  | _, _, _ => bad
def cPPut (i : Nat) (mk mv : ME) : MS := fun σ => do
  let r ← mv σ
  let d ← r.dat
  let k ← mk σ
  match σ[i]?, k with
  | some (.pd kvs), .v kd => match unPl kd with
    | some p => if kvs.length < 1000 then pure (.nx (σ.set i (.pd (pput kvs p d)))) else bad
    | none => bad
  | _, _ => bad
section
variable {K : PySem.W.Frag} {mg : Str → Option Value} {O : Ow} {H : Hp}
end
section
variable {X : Cx} {o i e f value : Expr} {m mk mx mv : ME} {ti tx : TE} {pos pos' apos cpos p : Pos} {x : Str} {j : Nat}
end
end L3

set_option Elab.async false
set_option linter.all false
set_option maxRecDepth 100000
set_option maxHeartbeats 1000000
namespace L3
open PySem PySem.Spec L2 PyProof.Rows
variable [L2.TabP]
section
variable {X : Cx} {o i e f value : Expr} {m mk mx mv : ME} {ti tx : TE} {pos pos' apos cpos p : Pos} {x : Str} {j : Nat}
end
end L3

set_option Elab.async false
set_option linter.all false
set_option maxRecDepth 100000
set_option maxHeartbeats 1000000
namespace L3
open PySem PySem.Spec L2 PyProof.Rows PySem.W
/-! ### the places of a dict, sorted -/
def plB (a b : Pl) : Bool := decide (a.1 < b.1 ∨ a.1 = b.1 ∧ (a.2.1 < b.2.1 ∨ a.2.1 = b.2.1 ∧ a.2.2 < b.2.2))
section
variable [L2.TabP] {X : Cx} {pins : List (Addr × Obj)} {σ : L2.St} {H : Hp} {s : Shared} {A : Around} {E : Value → Shared → Prop} {O : Ow} {Q : VK}
end
end L3

set_option Elab.async false
set_option linter.all false
set_option maxRecDepth 100000
set_option maxHeartbeats 1000000
namespace L3
open PySem PySem.Spec L2 PyProof.Rows PySem.W
variable [L2.TabP]
def cSortPl (j : Nat) : ME := fun σ => match pdOf σ[j]? with
  | some kvs => if kvs.length < 64 then pure (.fr ((sortB plB (kvs.map fun kv => (kv.1, plD kv.1))).map (·.2))) else bad
  | none => bad
section
variable {X : Cx} {o i e f value : Expr} {m mk mx mv : ME} {ti tx : TE} {pos pos' apos cpos p pp : Pos} {x : Str} {j : Nat}
end
section
omit [L2.TabP]
@[simp] theorem e_pnew {i : Nat} {σ : En} : cPNew i σ = pure (.nx (σ.set i (.pd []))) := rfl
@[simp] theorem e_pdOf {kvs : List (Pl × D)} : pdOf (some (.pd kvs)) = some kvs := rfl
@[simp] theorem e_vpOf {kvs : List (Pl × D)} : pdOf (some (.vp kvs)) = some kvs := rfl
@[simp] theorem e_cppd {kvs : List (Pl × D)} : cpSlot (some (.pd kvs)) = .vp kvs := rfl
@[simp] theorem e_unPl {a b c : Int} : unPl (.tup [.int a, .tup [.int b, .int c]]) = some (a, b, c) := rfl
@[simp] theorem e_unPlD {p : Pl} : unPl (plD p) = some p := rfl
@[simp] theorem e_pix {j : Nat} {mk : ME} {σ : En} : cPIx j mk σ = (do
  let k ← mk σ
  match pdOf σ[j]?, k with
  | some kvs, .v kd => match unPl kd with
    | some p => match pval kvs p with
      | some d => pure (.v d)
      | none => bad
    | none => bad
  | _, _ => bad) := rfl
@[simp] theorem e_pget2 {j : Nat} {mk mx : ME} {σ : En} : cPGet2 j mk mx σ = (do
  let k ← mk σ
  let z ← mx σ
  match pdOf σ[j]?, k, z with
  | some kvs, .v kd, .v zd => match unPl kd with
    | some p => pure (.v ((pval kvs p).getD zd))
    | none => bad
  | _, _, _ => bad) := rfl
@[simp] theorem e_pput {i : Nat} {mk mv : ME} {σ : En} : cPPut i mk mv σ = (do
  let r ← mv σ
  let d ← r.dat
  let k ← mk σ
  match σ[i]?, k with
  | some (.pd kvs), .v kd => match unPl kd with
    | some p => if kvs.length < 1000 then pure (.nx (σ.set i (.pd (pput kvs p d)))) else bad
    | none => bad
  | _, _ => bad) := rfl
@[simp] theorem e_sortPl {j : Nat} {σ : En} : cSortPl j σ = match pdOf σ[j]? with
  | some kvs => if kvs.length < 64 then pure (.fr ((sortB plB (kvs.map fun kv => (kv.1, plD kv.1))).map (·.2))) else bad
  | none => bad := rfl
end
end L3
namespace L3
open PySem PySem.Spec L2
section
variable {P : List Value → Prop}
theorem us1 (h : ∀ a, P [a]) : ∀ us : List Value, us.length = 1 → P us
  | [_], _ => h _
theorem us2 (h : ∀ a b, P [a, b]) : ∀ us : List Value, us.length = 2 → P us
  | [_, _], _ => h _ _
theorem us3 (h : ∀ a b c, P [a, b, c]) : ∀ us : List Value, us.length = 3 → P us
  | [_, _, _], _ => h _ _ _
theorem us5 (h : ∀ a b c d e, P [a, b, c, d, e]) : ∀ us : List Value, us.length = 5 → P us
  | [_, _, _, _, _], _ => h _ _ _ _ _
end
end L3

set_option Elab.async false
set_option linter.all false
set_option maxRecDepth 100000
set_option maxHeartbeats 1000000
namespace L3
open PySem PySem.Spec L2
variable [L2.TabP]
/-! ### trees: parts of them, puts into them -/
def Tr.kids : Tr → List Tr
  | .lf _ => []
  | .ls ts => ts
  | .dc _ ts => ts
  | .ob _ _ ts => ts
  | .any => []
  | .tp ts => ts
def Tr.sub : Tr → Nat → Tr → Tr
  | .lf d, _, _ => .lf d
  | .ls ts, n, s => .ls (ts.set n s)
  | .dc ks ts, n, s => .dc ks (ts.set n s)
  | .ob c ns ts, n, s => .ob c ns (ts.set n s)
  | .any, _, _ => .any
  | .tp ts, n, s => .tp (ts.set n s)
def Tr.atP : List Nat → Tr → Option Tr
  | [], t => some t
  | n :: p, t => match t.kids[n]? with
    | some s => Tr.atP p s
    | none => none
def Tr.put : List Nat → Tr → Tr → Tr
  | [], _, s => s
  | n :: p, t, s => match t.kids[n]? with
    | some u => t.sub n (Tr.put p u s)
    | none => t
/-- the n-th of what stands at a -/
def kidV (H : Hp) (a : Addr) (n : Nat) : Option V := match H a with
  | some (.lst ys) => ys[n]?
  | some (.tup ys) => ys[n]?
  | some (.dK kvs) => kvs[n]?.map (·.2)
  | some (.ins _ _ fs) => fs[n]?.map (·.2)
  | _ => none
def PathV (H : Hp) : V → List Nat → V → Prop
  | v, [], v' => v = v'
  | v, n :: q, v' => ∃ a y, v = .ref a ∧ kidV H a n = some y ∧ PathV H y q v'
omit [L2.TabP] in
theorem PathV.det {H : Hp} : ∀ {q : List Nat} {v a b : V}, PathV H v q a → PathV H v q b → a = b
  | [], _, _, _, h, h' => h.symm.trans h'
  | _ :: _, _, _, _, ⟨a, y, e, k, h⟩, ⟨a', y', e', k', h'⟩ => by
    subst e
    cases e'
    rw [k] at k'
    cases k'
    exact PathV.det h h'
omit [L2.TabP] in
theorem PathV.snoc {H : Hp} {n : Nat} {a : Addr} {y : V} (k : kidV H a n = some y) : ∀ {q : List Nat} {v : V}, PathV H v q (.ref a) → PathV H v (q ++ [n]) y
  | [], _, h => ⟨a, y, h, k, rfl⟩
  | _ :: _, _, ⟨a', y', e, k', h⟩ => ⟨a', y', e, k', PathV.snoc k h⟩
theorem kidV.same {H H' : Hp} (s : Same H H') {a : Addr} {n : Nat} {y : V} (h : kidV H a n = some y) : kidV H' a n = some y := by
  unfold kidV at h
  split at h
  · rename_i ys e; unfold kidV; rw [s.at' _ _ e]; exact h
  · rename_i ys e; unfold kidV; rw [s.at' _ _ e]; exact h
  · rename_i ys e; unfold kidV; rw [s.at' _ _ e]; exact h
  · rename_i e; unfold kidV; rw [s.at' _ _ e]; exact h
  · cases h
theorem PathV.same {H H' : Hp} (s : Same H H') : ∀ {q : List Nat} {v a : V}, PathV H v q a → PathV H' v q a
  | [], _, _, h => h
  | _ :: _, _, _, ⟨a, y, e, k, h⟩ => ⟨a, y, e, kidV.same s k, PathV.same s h⟩
omit [L2.TabP] in
theorem atP_snoc {n : Nat} {s u : Tr} (e : s.kids[n]? = some u) : ∀ {p : List Nat} {t : Tr}, Tr.atP p t = some s → Tr.atP (p ++ [n]) t = some u
  | [], t, h => by
    obtain rfl : t = s := Option.some.inj h
    show (match t.kids[n]? with | some z => some z | none => none) = some u
    rw [e]
  | m :: p, t, h => by
    unfold Tr.atP at h
    show (match t.kids[m]? with | some z => Tr.atP (p ++ [n]) z | none => none) = some u
    cases ek : t.kids[m]? with
    | none => rw [ek] at h; cases h
    | some z => rw [ek] at h; exact atP_snoc e h
section
variable {K : PySem.W.Frag} {mg : Str → Option Value} {O O' : Ow} {H H' : Hp} {w w' : Own}
theorem TreeAll.len : ∀ {ts : List Tr} {ys : List V} {p : List Nat} {n : Nat}, TreeAll K mg O H w p n ts ys → ys.length = ts.length
  | [], _, _, _, h => by cases h; rfl
  | _ :: _, _, _, _, h => by obtain ⟨y, r, rfl, _, b⟩ := h; rw [List.length_cons, List.length_cons, TreeAll.len b]
theorem TreeAll.get : ∀ {ts : List Tr} {ys : List V} {p : List Nat} {m k : Nat} {s : Tr}, TreeAll K mg O H w p m ts ys → ts[k]? = some s → ∃ y, ys[k]? = some y ∧ TreeR K mg O H w (p ++ [m + k]) s y
  | [], _, _, _, _, _, _, e => by simp at e
  | _ :: _, _, _, _, 0, s, h, e => by obtain ⟨y, r, rfl, a, _⟩ := h; cases (show some _ = some s from e); exact ⟨y, rfl, a⟩
  | _ :: ts, _, p, m, k + 1, s, h, e => by
    obtain ⟨y, r, rfl, _, b⟩ := h
    obtain ⟨z, e1, e2⟩ := TreeAll.get (k := k) b (by simpa using e)
    refine ⟨z, by simpa using e1, ?_⟩
    rw [show m + (k + 1) = m + 1 + k by omega]
    exact e2
mutual
theorem TreeR.allP (f : ∀ d v, Rep K mg O H d v → Rep K mg O' H' d v) : ∀ (t : Tr) {p p' : List Nat} {v : V}, (∀ (a : Addr) (u : HO) (r : List Nat), O a = w.at (p ++ r) → H a = some u → nT u → O' a = w'.at (p' ++ r) ∧ H' a = some u) → TreeR K mg O H w p t v → TreeR K mg O' H' w' p' t v
  | .lf _, _, _, _, _, h => f _ _ h
  | .ls ts, p, p', _, g, h => by
    obtain ⟨a, ys, e, o, l, r⟩ := h
    obtain ⟨o', l'⟩ := g a _ [] (by rw [List.append_nil]; exact o) l trivial
    exact ⟨a, ys, e, by rw [List.append_nil] at o'; exact o', l', TreeAll.allP f ts g r⟩
  | .dc _ ts, p, p', _, g, h => by
    obtain ⟨a, ys, e, o, l, q, r⟩ := h
    obtain ⟨o', l'⟩ := g a _ [] (by rw [List.append_nil]; exact o) l trivial
    exact ⟨a, ys, e, by rw [List.append_nil] at o'; exact o', l', q, TreeAll.allP f ts g r⟩
  | .ob _ _ ts, p, p', _, g, h => by
    obtain ⟨a, C, dx, ys, e, o, l, q, r⟩ := h
    obtain ⟨o', l'⟩ := g a _ [] (by rw [List.append_nil]; exact o) l trivial
    exact ⟨a, C, dx, ys, e, by rw [List.append_nil] at o'; exact o', l', q, TreeAll.allP f ts g r⟩
  | .any, _, _, _, _, _ => trivial
  | .tp ts, p, p', _, g, h => by
    obtain ⟨a, ys, e, o, l, r⟩ := h
    obtain ⟨o', l'⟩ := g a _ [] (by rw [List.append_nil]; exact o) l trivial
    exact ⟨a, ys, e, by rw [List.append_nil] at o'; exact o', l', TreeAll.allP f ts g r⟩
theorem TreeAll.allP (f : ∀ d v, Rep K mg O H d v → Rep K mg O' H' d v) : ∀ (ts : List Tr) {p p' : List Nat} {n : Nat} {ys : List V}, (∀ (a : Addr) (u : HO) (r : List Nat), O a = w.at (p ++ r) → H a = some u → nT u → O' a = w'.at (p' ++ r) ∧ H' a = some u) → TreeAll K mg O H w p n ts ys → TreeAll K mg O' H' w' p' n ts ys
  | [], _, _, _, _, _, h => h
  | t :: ts, _, _, n, _, g, h => by
    obtain ⟨y, r, e, a, b⟩ := h
    refine ⟨y, r, e, TreeR.allP f t (fun a u q o l z => ?_) a, TreeAll.allP f ts g b⟩
    rw [List.append_assoc] at o ⊢
    exact g a u _ o l z
end
theorem TreeAll.kids (f : ∀ d v, Rep K mg O H d v → Rep K mg O' H' d v) : ∀ {ts : List Tr} {ys : List V} {p : List Nat} {n : Nat},
    (∀ (a : Addr) (u : HO) (j : Nat) (r : List Nat), O a = w.at (p ++ j :: r) → H a = some u → nT u → O' a = w.at (p ++ j :: r) ∧ H' a = some u) → TreeAll K mg O H w p n ts ys → TreeAll K mg O' H' w p n ts ys
  | [], _, _, _, _, h => h
  | t :: ts, _, _, n, g, h => by
    obtain ⟨y, r, e, a, b⟩ := h
    refine ⟨y, r, e, TreeR.allP f t (fun a u q o l z => ?_) a, TreeAll.kids f g b⟩
    rw [List.append_assoc] at o ⊢
    exact g a u n q o l z
/-- one part is another, all else stands -/
theorem TreeAll.set (f : ∀ d v, Rep K mg O H d v → Rep K mg O' H' d v) {s' : Tr} {y' : V} : ∀ {ts : List Tr} {ys : List V} {p : List Nat} {m k : Nat},
    (∀ (a : Addr) (u : HO) (j : Nat) (r : List Nat), j ≠ m + k → O a = w.at (p ++ j :: r) → H a = some u → nT u → O' a = w.at (p ++ j :: r) ∧ H' a = some u) →
    TreeAll K mg O H w p m ts ys → k < ts.length → TreeR K mg O' H' w (p ++ [m + k]) s' y' → TreeAll K mg O' H' w p m (ts.set k s') (ys.set k y')
  | [], _, _, _, k, _, _, hk, _ => absurd hk (Nat.not_lt_zero _)
  | t :: ts, _, p, m, 0, g, h, _, n => by
    obtain ⟨y, r, rfl, a, b⟩ := h
    refine ⟨y', r, rfl, n, ?_⟩
    have : ∀ {ts : List Tr} {ys : List V} {n : Nat}, m < n → TreeAll K mg O H w p n ts ys → TreeAll K mg O' H' w p n ts ys := by
      intro ts
      induction ts with
      | nil => exact fun _ h => h
      | cons t ts ih =>
        rintro ys n hn ⟨y, r, e, a, b⟩
        refine ⟨y, r, e, TreeR.allP f t (fun a u q o l z => ?_) a, ih (Nat.lt_succ_of_lt hn) b⟩
        rw [List.append_assoc] at o ⊢
        exact g a u n q (by omega) o l z
    exact this (Nat.lt_succ_self _) b
  | t :: ts, _, p, m, k + 1, g, h, hk, n => by
    obtain ⟨y, r, rfl, a, b⟩ := h
    refine ⟨y, r.set k y', rfl, TreeR.allP f t (fun a u q o l z => ?_) a, ?_⟩
    · rw [List.append_assoc] at o ⊢
      exact g a u m q (by omega) o l z
    · refine TreeAll.set f (k := k) (fun a u j q hj => g a u j q (by omega)) b (by simpa using hk) ?_
      rw [show m + 1 + k = m + (k + 1) by omega]
      exact n
theorem zip_get {α : Type} {ks : List α} {ys : List V} {n : Nat} {y : V} (hl : ks.length = ys.length) (h : ys[n]? = some y) : (ks.zip ys)[n]?.map (·.2) = some y := by
  have hn : n < ys.length := (List.getElem?_eq_some_iff.mp h).1
  rw [List.getElem?_zip_eq_some (z := (ks[n], y)) |>.mpr ⟨List.getElem?_eq_getElem _, h⟩]
  rfl
/-- a part of a tree, and how the tree stands behind a change of that part -/
theorem TreeR.split : ∀ {q : List Nat} {p : List Nat} {t s : Tr} {v : V}, TreeR K mg O H w p t v → Tr.atP q t = some s → ∃ v', PathV H v q v' ∧ TreeR K mg O H w (p ++ q) s v' ∧
    ∀ (O' : Ow) (H' : Hp) (s' : Tr), (∀ d v, Rep K mg O H d v → Rep K mg O' H' d v) → (∀ (a : Addr) (u : HO) (r : List Nat), ¬ (p ++ q) <+: r → O a = w.at r → H a = some u → nT u → O' a = w.at r ∧ H' a = some u) →
      TreeR K mg O' H' w (p ++ q) s' v' → TreeR K mg O' H' w p (Tr.put q t s') v
  | [], p, t, s, v, h, e => by
    cases (show some t = some s from e)
    rw [List.append_nil]
    exact ⟨v, rfl, h, fun O' H' s' _ _ n => n⟩
  | n :: q, p, t, s, v, h, e => by
    have pa : p ++ [n] ++ q = p ++ n :: q := by rw [List.append_assoc]; rfl
    have key : ∀ {ts : List Tr} {ys : List V} {u : Tr} {a : Addr}, TreeAll K mg O H w p 0 ts ys → ts[n]? = some u → Tr.atP q u = some s → (∀ y, ys[n]? = some y → kidV H a n = some y) → v = .ref a →
        ∃ v', PathV H v (n :: q) v' ∧ TreeR K mg O H w (p ++ n :: q) s v' ∧ ∀ (O' : Ow) (H' : Hp) (s' : Tr), (∀ d v, Rep K mg O H d v → Rep K mg O' H' d v) →
          (∀ (a : Addr) (u : HO) (r : List Nat), ¬ (p ++ n :: q) <+: r → O a = w.at r → H a = some u → nT u → O' a = w.at r ∧ H' a = some u) → TreeR K mg O' H' w (p ++ n :: q) s' v' → TreeAll K mg O' H' w p 0 (ts.set n (Tr.put q u s')) ys := fun {ts ys u a} r e1 e2 kv ev => by
      obtain ⟨y, ey, ry⟩ := r.get e1
      rw [Nat.zero_add] at ry
      obtain ⟨v', pv, rs, rb⟩ := TreeR.split ry e2
      rw [pa] at rs
      refine ⟨v', ⟨a, y, ev, kv y ey, pv⟩, rs, fun O' H' s' f g nw => ?_⟩
      have ys' : ys.set n y = ys := by
        apply List.ext_getElem?
        intro i
        by_cases hi : n = i
        · subst hi; rw [List.getElem?_set_self (List.getElem?_eq_some_iff.mp ey).1, ey]
        · rw [List.getElem?_set_ne hi]
      rw [← ys']
      refine TreeAll.set f (fun a u j r' hj o l z => g a u _ ?_ o l z) r (List.getElem?_eq_some_iff.mp e1).1 ?_
      · rw [Nat.zero_add] at hj
        rintro ⟨x, hx⟩
        rw [List.append_assoc] at hx
        have := List.append_cancel_left hx
        rw [List.cons_append] at this
        exact hj (List.cons.inj this).1.symm
      · rw [Nat.zero_add]
        refine rb O' H' s' f (fun a u r' hr o l z => g a u r' ?_ o l z) ?_
        · rw [← pa]; exact hr
        · rw [pa]; exact nw
    have np : ¬ (p ++ n :: q) <+: p := fun z => by
      have := z.length_le
      rw [List.length_append, List.length_cons] at this
      omega
    unfold Tr.atP at e
    cases ek : t.kids[n]? with
    | none => rw [ek] at e; cases e
    | some u =>
      rw [ek] at e
      have ep : ∀ s', Tr.put (n :: q) t s' = t.sub n (Tr.put q u s') := fun s' => by
        show (match t.kids[n]? with | some u => t.sub n (Tr.put q u s') | none => t) = _
        rw [ek]
      cases t with
      | lf d => cases ek
      | any => cases ek
      | ls ts =>
        obtain ⟨a, ys, ev, o, l, r⟩ := h
        obtain ⟨v', pv, rs, rb⟩ := key r ek e (fun y ey => by unfold kidV; rw [l]; exact ey) ev
        refine ⟨v', pv, rs, fun O' H' s' f g nw => ?_⟩
        obtain ⟨o', l'⟩ := g a _ p np o l trivial
        rw [ep]
        exact ⟨a, ys, ev, o', l', rb O' H' s' f g nw⟩
      | tp ts =>
        obtain ⟨a, ys, ev, o, l, r⟩ := h
        obtain ⟨v', pv, rs, rb⟩ := key r ek e (fun y ey => by unfold kidV; rw [l]; exact ey) ev
        refine ⟨v', pv, rs, fun O' H' s' f g nw => ?_⟩
        obtain ⟨o', l'⟩ := g a _ p np o l trivial
        rw [ep]
        exact ⟨a, ys, ev, o', l', rb O' H' s' f g nw⟩
      | dc ks ts =>
        obtain ⟨a, ys, ev, o, l, hq, r⟩ := h
        obtain ⟨v', pv, rs, rb⟩ := key r ek e (fun y ey => by unfold kidV; rw [l]; exact zip_get hq.1 ey) ev
        refine ⟨v', pv, rs, fun O' H' s' f g nw => ?_⟩
        obtain ⟨o', l'⟩ := g a _ p np o l trivial
        rw [ep]
        exact ⟨a, ys, ev, o', l', hq, rb O' H' s' f g nw⟩
      | ob c ns ts =>
        obtain ⟨a, C, dx, ys, ev, o, l, hq, r⟩ := h
        obtain ⟨v', pv, rs, rb⟩ := key r ek e (fun y ey => by unfold kidV; rw [l]; exact zip_get hq.1 ey) ev
        refine ⟨v', pv, rs, fun O' H' s' f g nw => ?_⟩
        obtain ⟨o', l'⟩ := g a _ p np o l trivial
        rw [ep]
        exact ⟨a, C, dx, ys, ev, o', l', hq, rb O' H' s' f g nw⟩
end
/-! ### a way on which only the things of some trees change -/
def WOw (W : Nat → List Nat → Prop) (o : Own) : Prop := ∃ i p, o = .tr i p ∧ W i p
structure GoT (W : Nat → List Nat → Prop) (O O' : Ow) (H H' : Hp) : Prop where
  cells : ∀ b o, H b = some o → (¬ WOw W (O b) ∨ Fix o) → (h : nT o := by exact trivial) → H' b = some o
  own : ∀ b, H b ≠ none → ¬ WOw W (O b) → O' b = O b
  has : ∀ b, H b ≠ none → H' b ≠ none
  tb : ∀ b ps, H b = some (.tbl ps) → ∃ ps', H' b = some (.tbl ps')
  gd : TabsOk H → TabsOk H'
theorem wo_not {W : Nat → List Nat → Prop} {o : Own} (h : ∀ i p, o ≠ .tr i p) : ¬ WOw W o := fun ⟨i, p, e, _⟩ => h i p e
theorem GoT.gs {W : Nat → List Nat → Prop} {O O' : Ow} {H H' : Hp} (g : GoT W O O' H H') : Gs O O' H H' := by
  refine ⟨fun b o e h n => g.cells b o e ?_ n, fun b h f => g.own b h ?_, g.has, g.tb, g.gd⟩
  · rcases h with h | h | h
    · exact .inl (wo_not fun i p z => by rw [h] at z; cases z)
    · exact .inl (wo_not fun i p z => by rw [h] at z; cases z)
    · exact .inr h
  · rcases f with f | f
    · exact wo_not fun i p z => by rw [f] at z; cases z
    · exact wo_not fun i p z => by rw [f] at z; cases z
section
variable {K : PySem.W.Frag} {mg : Str → Option Value} {O O' : Ow} {H H' : Hp} {W : Nat → List Nat → Prop}
theorem Rep.gs (g : Gs O O' H H') {d : D} {v : V} (h : Rep K mg O H d v) : Rep K mg O' H' d v := by
  obtain ⟨y, r, e, a, _⟩ := RepAll.gs g (RepAll.one h)
  cases e
  exact a
theorem SlotR.goT (g : GoT W O O' H H') {j : Nat} (hj : ∀ r, ¬ W j r) : ∀ {s : Slot} {u : Option V}, SlotR K mg O H (.loc j) s u → SlotR K mg O' H' (.loc j) s u := by
  have nl : ∀ {b : Addr}, O b = .loc j → ¬ WOw W (O b) := fun o => wo_not fun i p z => by rw [o] at z; cases z
  have nt : ∀ {b : Addr} {r : List Nat}, O b = .tr j r → ¬ WOw W (O b) := fun {b r} o ⟨i, p, e, w⟩ => by rw [o] at e; cases e; exact hj _ w
  have no : ∀ {b : Addr}, O b = .out → ¬ WOw W (O b) := fun o => wo_not fun i p z => by rw [o] at z; cases z
  have nf : ∀ {b : Addr}, O b = .free ∨ O b = .out → ¬ WOw W (O b) := fun o => wo_not fun i p z => by rcases o with o | o <;> rw [o] at z <;> cases z
  intro s u h
  cases s with
  | emp => trivial
  | val _ => obtain ⟨v, q, r⟩ := h; exact ⟨v, q, r.gs g.gs⟩
  | ow _ _ => obtain ⟨a, ys, q, o, l, r⟩ := h; exact ⟨a, ys, q, (g.own a (by rw [l]; intro z; cases z) (nl o)).trans o, g.cells _ _ l (.inl (nl o)), RepAll.gs g.gs r⟩
  | vw _ => obtain ⟨a, ys, q, l, r⟩ := h; exact ⟨a, ys, q, g.gs.lsV l, RepAll.gs g.gs r⟩
  | dct _ => obtain ⟨a, ys, q, o, l, r⟩ := h; exact ⟨a, ys, q, (g.own a (by rw [l]; intro z; cases z) (nl o)).trans o, g.cells _ _ l (.inl (nl o)), r.1, RepAll.gs g.gs r.2⟩
  | vd _ =>
    obtain ⟨a, ys, q, ⟨l, f⟩, r⟩ := h
    refine ⟨a, ys, q, ⟨?_, by rw [g.own a (Rd.some l) (nf f)]; exact f⟩, r.1, RepAll.gs g.gs r.2⟩
    rcases l with l | ⟨o, l⟩
    · exact .inl (g.cells _ _ l (.inl (nf f)))
    · exact .inr ⟨o, g.cells _ _ l (.inl (nf f))⟩
  | pd _ => obtain ⟨a, ys, q, o, l, r⟩ := h; exact ⟨a, ys, q, (g.own a (by rw [l]; intro z; cases z) (nl o)).trans o, g.cells _ _ l (.inl (nl o)), r.1, r.2.all fun _ _ z => Rep.gs g.gs z⟩
  | vp _ =>
    obtain ⟨a, ys, q, ⟨l, f⟩, r⟩ := h
    refine ⟨a, ys, q, ⟨?_, by rw [g.own a (Rd.some l) (nf f)]; exact f⟩, r.1, r.2.all fun _ _ z => Rep.gs g.gs z⟩
    rcases l with l | ⟨o, l⟩
    · exact .inl (g.cells _ _ l (.inl (nf f)))
    · exact .inr ⟨o, g.cells _ _ l (.inl (nf f))⟩
  | tr m t =>
    obtain ⟨v, q, r⟩ := h
    refine ⟨v, q, r.all (fun _ _ z => Rep.gs g.gs z) fun a u p o l n => ?_⟩
    have nw : ¬ WOw W (O a) := by
      cases m with
      | view => exact no o
      | own => exact nt o
      | par => exact nt o
    exact ⟨(g.own a (by rw [l]; intro z; cases z) nw).trans o, g.cells _ _ l (.inl nw) n⟩
theorem S3.goT {σ σ' : En} {S : Store} {σV : St} (st : S3 K mg O σ S σV H) (g : GoT W O O' H H') (d : Dom O' H') (hl : σ'.length = σ.length)
    (hs : ∀ j s, σ'[j]? = some s → (σ[j]? = some s ∧ ∀ r, ¬ W j r) ∨ SlotR K mg O' H' (.loc j) s (σV[j]?.join)) : S3 K mg O' σ' S σV H' :=
  ⟨d, hl.trans st.len, fun j s e => (hs j s e).elim (fun z => (st.loc j s z.1).goT g z.2) id, st.emp⟩
end
/-! ### paths: x[k][i].a -/
structure Pt where
  i : Nat
  p : List Nat
  m : TM
  t : Tr
abbrev MP := En → M Pt
def PthR (H : Hp) (σ : En) (σV : St) (x : Pt) (v : V) : Prop := ∃ t0 v0, σ[x.i]? = some (.tr x.m t0) ∧ Tr.atP x.p t0 = some x.t ∧ σV[x.i]?.join = some v0 ∧ PathV H v0 x.p v
theorem PthR.go {O O' : Ow} {H H' : Hp} {σ : En} {σV : St} {x : Pt} {v : V} (g : Go O O' H H') (h : PthR H σ σV x v) : PthR H' σ σV x v := by
  obtain ⟨t0, v0, a, b, c, d⟩ := h
  exact ⟨t0, v0, a, b, c, d.same g.same⟩
theorem PthR.tree {K : PySem.W.Frag} {mg : Str → Option Value} {O : Ow} {H : Hp} {σ : En} {S : Store} {σV : St} {x : Pt} {v : V} (st : S3 K mg O σ S σV H) (h : PthR H σ σV x v) : TreeR K mg O H (x.m.ow (.loc x.i)) x.p x.t v := by
  obtain ⟨t0, v0, a, b, c, d⟩ := h
  obtain ⟨v1, e1, r⟩ := st.loc _ _ a
  rw [c] at e1
  cases e1
  obtain ⟨v', pv, rs, _⟩ := r.split b
  rw [d.det pv]
  exact rs
def tpOf (K : PySem.W.Frag) (mg : Str → Option Value) (m : MP) : TE := fun σV H Q => ∃ O σ S x S', S3 K mg O σ S σV H ∧ (m σ).run S = .ok x S' ∧ ∀ O' v H', Go O O' H H' → S3 K mg O' σ S' σV H' → PthR H' σ σV x v → Q v H'
abbrev CP (X : Cx) (e : Expr) (m : MP) : Prop := PE X e (tpOf X.K X.mg m)
def pVar (i : Nat) : MP := fun σ => match σ[i]? with
  | some (.tr m t) => pure ⟨i, [], m, t⟩
  | _ => bad
def kidM (ts : List Tr) (n : Nat) (f : Tr → Pt) : M Pt := match ts[n]? with
  | some s => pure (f s)
  | none => bad
def pIx (m : MP) (mk : ME) : MP := fun σ => do
  let x ← m σ
  let k ← mk σ
  match x.t, k with
  | .ls ts, .v (.int j) => if 0 ≤ j then kidM ts j.toNat (Pt.mk x.i (x.p ++ [j.toNat]) x.m) else bad
  | _, _ => bad
def pDk (m : MP) (n : Nat) (key : Str) : MP := fun σ => do
  let x ← m σ
  match x.t with
  | .dc ks ts => if ks[n]? = some (.inr key) then kidM ts n (Pt.mk x.i (x.p ++ [n]) x.m) else bad
  | _ => bad
def pAt (m : MP) (c : Str) (n : Nat) (f : Str) : MP := fun σ => do
  let x ← m σ
  match x.t with
  | .ob c' ns ts => if c' = c ∧ ns[n]? = some f then kidM ts n (Pt.mk x.i (x.p ++ [n]) x.m) else bad
  | _ => bad
/-- the class is the name's, and no class of it has these names -/
structure ClsT (K : PySem.W.Frag) (mg : Str → Option Value) (c : Str) (fs : List Str) : Prop where
  ex : ∃ C, mg c = some (.ref C) ∧ Cls K C ∧ (PySem.W.makesIn K C = true ∧ PySem.W.keepIn K (.ref C) = true) ∧ ∀ f ∈ fs, NoAttr K C f
theorem zip_find {β : Type} : ∀ {ks : List Key} {ys : List β} {n : Nat} {f : Key} {y : β}, ks.Nodup → ks[n]? = some f → ys[n]? = some y → ((ks.zip ys).find? fun kv => decide (kv.1 = f)).map (·.2) = some y
  | [], _, _, _, _, _, e, _ => by simp at e
  | _ :: _, [], _, _, _, _, _, e => by simp at e
  | k :: ks, z :: ys, 0, f, y, _, e1, e2 => by
    cases (show some k = some f from e1)
    cases (show some z = some y from e2)
    simp [List.find?]
  | k :: ks, z :: ys, n + 1, f, y, nd, e1, e2 => by
    have e1' : ks[n]? = some f := by simpa using e1
    have e2' : ys[n]? = some y := by simpa using e2
    have ne : ¬ k = f := by
      rintro rfl
      exact (List.nodup_cons.mp nd).1 (List.mem_iff_getElem?.mpr ⟨n, e1'⟩)
    rw [List.zip_cons_cons, List.find?_cons_of_neg (by simpa using ne)]
    exact zip_find (List.nodup_cons.mp nd).2 e1' e2'
section
variable {X : Cx} {e k : Expr} {m : MP} {mk : ME} {pos p : Pos}
theorem cp_var (i : Nat) {x : Str} {pos : Pos} (hN : X.N[i]? = some x := by rfl) (hv : Vis X.env.scope x := by first | exact Or.inl rfl | exact Or.inr (Or.inl rfl) | exact Or.inr (Or.inr rfl)) (hd : (x == ("__debug__" : Str)) = false := by decide)
    (hcd : (x == ("__classdict__" : Str)) = false := by decide) : CP X (.Name x pos) (pVar i) := pe_imp (pe_var hN hv hd hcd) fun σV H Q ⟨O, σ, S, r, S', st, h, q⟩ => by
  unfold pVar at h
  split at h
  · rename_i m t e
    cases h
    obtain ⟨v, e1, _⟩ := st.loc i _ e
    refine ⟨v, ?_, q O v H (Go.refl _ _) st ⟨t, v, e, rfl, e1, rfl⟩⟩
    cases w : σV[i]? with
    | none => rw [w] at e1; cases e1
    | some y => rw [w] at e1; exact congrArg some e1
  · cases h
theorem PthR.kid {H : Hp} {σ : En} {σV : St} {x : Pt} {a : Addr} {n : Nat} {s : Tr} {y : V} (h : PthR H σ σV x (.ref a)) (e : x.t.kids[n]? = some s) (k : kidV H a n = some y) : PthR H σ σV ⟨x.i, x.p ++ [n], x.m, s⟩ y := by
  obtain ⟨t0, v0, h1, h2, h3, h4⟩ := h
  exact ⟨t0, v0, h1, atP_snoc e h2, h3, h4.snoc k⟩
/-- a leaf -/
def cLeaf (m : MP) : ME := fun σ => do
  let x ← m σ
  match x.t with
  | .lf d => pure (.v d)
  | _ => bad
theorem ce_leaf (he : CP X e m) : CE X e (cLeaf m) := pe_imp he fun σV H Q ⟨O, σ, S, r, S', st, h, q⟩ => by
  obtain ⟨x, S1, h1, h⟩ := M.inv h
  split at h
  · rename_i d et
    cases h
    refine ⟨O, σ, S, x, _, st, h1, fun O1 v H1 g1 st1 pr => q O1 v H1 g1 st1 ?_ trivial⟩
    have tr := pr.tree st1
    rw [et] at tr
    exact tr
  · cases h
end
end L3

set_option Elab.async false
set_option linter.all false
set_option maxRecDepth 100000
set_option maxHeartbeats 1000000
namespace L3
open PySem PySem.Spec L2
variable [L2.TabP]
/-! ### puts into a tree -/
theorem Dom.upd {O : Ow} {H : Hp} {a : Addr} {u u' : HO} (d : Dom O H) (hH : H a = some u) (h1 : ∀ ps, u ≠ .tbl ps) (h2 : ∀ q, u ≠ .ext (cdP a q)) : Dom O (upd H a u') := ⟨fun b hb => by
  by_cases e : b = a
  · rw [e, upd_same]; intro z; cases z
  · rw [upd_ne e]; exact d.has b hb, d.tabs.put u' (fun ps z => h1 ps (Option.some.inj (hH.symm.trans z))) (fun q z => h2 q (Option.some.inj (hH.symm.trans z)))⟩
theorem S3.putT {K : PySem.W.Frag} {mg : Str → Option Value} {O : Ow} {H : Hp} {σ : En} {S : Store} {σV : St} {x : Pt} {a : Addr} {u u' : HO} {s' t0 : Tr} (st : S3 K mg O σ S σV H) (pr : PthR H σ σV x (.ref a)) (hm : x.m ≠ .view) (e0 : σ[x.i]? = some (.tr x.m t0))
    (ho : O a = .tr x.i x.p) (hH : H a = some u) (nf : ¬ Fix u) (h1 : ∀ ps, u ≠ .tbl ps) (h2 : ∀ q, u ≠ .ext (cdP a q))
    (new : (∀ d v, Rep K mg O H d v → Rep K mg O (upd H a u') d v) → (∀ b o r, r ≠ [] → O b = .tr x.i (x.p ++ r) → H b = some o → upd H a u' b = some o) → TreeR K mg O (upd H a u') (.loc x.i) x.p s' (.ref a)) :
    S3 K mg O (σ.set x.i (.tr x.m (Tr.put x.p t0 s'))) S σV (upd H a u') ∧ Gs O O H (upd H a u') ∧ Kp σ (σ.set x.i (.tr x.m (Tr.put x.p t0 s'))) σV σV := by
  have wa : WOw (fun i p => i = x.i ∧ p = x.p) (O a) := ⟨_, _, ho, rfl, rfl⟩
  have g : GoT (fun i p => i = x.i ∧ p = x.p) O O H (upd H a u') := by
    refine ⟨fun b o e h _ => ?_, fun _ _ _ => rfl, fun b hb => ?_, fun b ps e => ⟨ps, ?_⟩, fun z => z.put u' (fun ps z => h1 ps (Option.some.inj (hH.symm.trans z))) (fun q z => h2 q (Option.some.inj (hH.symm.trans z)))⟩
    · rw [upd_ne]
      · exact e
      · rintro rfl
        rcases h with h | h
        · exact h wa
        · rw [hH] at e; cases e; exact nf h
    · by_cases e : b = a
      · rw [e, upd_same]; intro z; cases z
      · rw [upd_ne e]; exact hb
    · rw [upd_ne]
      · exact e
      · rintro rfl; rw [hH] at e; cases e; exact h1 _ rfl
  have hlt : x.i < σ.length := (List.getElem?_eq_some_iff.mp e0).1
  have f : ∀ d v, Rep K mg O H d v → Rep K mg O (upd H a u') d v := fun _ _ z => Rep.gs g.gs z
  have mo : x.m.ow (.loc x.i) = .loc x.i := by
    cases em : x.m with
    | view => exact absurd em hm
    | own => rfl
    | par => rfl
  refine ⟨st.goT g (st.dom.upd hH h1 h2) (List.length_set ..) fun j s e => ?_, g.gs, Kp.put e0 (fun xs z => by cases z) (fun xs z => by cases z) fun m t z hn => by cases z; exact ⟨hm, _, rfl⟩⟩
  by_cases hj : x.i = j
  · subst hj
    rw [List.getElem?_set_self hlt] at e
    cases e
    refine .inr ?_
    obtain ⟨t1, v0, e1, e2, e3, e4⟩ := pr
    rw [e0] at e1
    cases e1
    obtain ⟨v1, ev, r⟩ := st.loc _ _ e0
    rw [e3] at ev
    cases ev
    refine ⟨v0, e3, ?_⟩
    rw [mo] at r ⊢
    obtain ⟨v', pv, rs, rb⟩ := r.split e2
    cases e4.det pv
    refine rb O _ s' f (fun b o r hr ob hb _ => ⟨ob, ?_⟩) (new f fun b o r hr ob hb => ?_)
    · rw [upd_ne]
      · exact hb
      · rintro rfl
        rw [show O b = .tr x.i x.p from ho] at ob
        cases ob
        exact hr (List.prefix_refl _)
    · rw [upd_ne]
      · exact hb
      · rintro rfl
        rw [ho] at ob
        have : x.p = x.p ++ r := by injection ob
        have := congrArg List.length this
        rw [List.length_append] at this
        exact hr (List.eq_nil_of_length_eq_zero (by omega))
  · rw [List.getElem?_set_ne hj] at e
    exact .inl ⟨e, fun r z => hj z.1.symm⟩
theorem zip_putK : ∀ {ks : List Key} {ys : List V} {n : Nat} {f : Key} {v : V}, ks.Nodup → ks[n]? = some f → n < ys.length → (ks.zip ys).map (fun kv => if kv.1 = f then (kv.1, v) else kv) = ks.zip (ys.set n v)
  | [], _, _, _, _, _, e, _ => by simp at e
  | _ :: _, [], _, _, _, _, _, h => absurd h (Nat.not_lt_zero _)
  | k :: ks, z :: ys, 0, f, v, nd, e, _ => by
    cases (show some k = some f from e)
    have : ∀ (l : List (Key × V)), (∀ p ∈ l, p.1 ≠ k) → l.map (fun kv => if kv.1 = k then (kv.1, v) else kv) = l := by
      intro l
      induction l with
      | nil => exact fun _ => rfl
      | cons p l ih => intro h; rw [List.map_cons, if_neg (h p (List.mem_cons_self ..)), ih fun q hq => h q (List.mem_cons_of_mem _ hq)]
    rw [List.zip_cons_cons, List.map_cons, if_pos rfl, this _ fun p hp => ?_]
    · rfl
    · rintro rfl
      exact (List.nodup_cons.mp nd).1 (List.of_mem_zip hp).1
  | k :: ks, z :: ys, n + 1, f, v, nd, e, h => by
    have e' : ks[n]? = some f := by simpa using e
    have ne : ¬ k = f := by
      rintro rfl
      exact (List.nodup_cons.mp nd).1 (List.mem_iff_getElem?.mpr ⟨n, e'⟩)
    rw [List.zip_cons_cons, List.map_cons, if_neg ne, zip_putK (List.nodup_cons.mp nd).2 e' (by simpa using h)]
    rfl
theorem zip_any {ks : List Key} {ys : List V} {n : Nat} {f : Key} (hl : ks.length = ys.length) (e : ks[n]? = some f) : ((ks.zip ys).any fun kv => decide (kv.1 = f)) = true := by
  have hn : n < ks.length := (List.getElem?_eq_some_iff.mp e).1
  have hz : (ks.zip ys)[n]? = some (f, ys[n]'(by omega)) := (List.getElem?_zip_eq_some (z := (f, ys[n]'(by omega)))).mpr ⟨e, List.getElem?_eq_getElem _⟩
  rw [List.any_eq_true]
  exact ⟨_, List.mem_iff_getElem?.mpr ⟨n, hz⟩, by simp⟩
section
variable {X : Cx} {e k value : Expr} {mp : MP} {mk mv : ME} {pos pos' : Pos}
/-- e[k] = v -/
def cTIx (mp : MP) (mk mv : ME) : MS := fun σ => do
  let r ← mv σ
  let d ← r.dat
  let x ← mp σ
  let k ← mk σ
  match x.t, k, σ[x.i]? with
  | .ls ts, .v (.int j), some (.tr m t0) => if (0 ≤ j ∧ j < ts.length) ∧ m ≠ .view then pure (.nx (σ.set x.i (.tr m (Tr.put x.p t0 (.ls (ts.set j.toNat (.lf d))))))) else bad
  | _, _, _ => bad
/-- e['k'] = v, the key is there -/
def cTDk (mp : MP) (n : Nat) (key : Str) (mv : ME) : MS := fun σ => do
  let r ← mv σ
  let d ← r.dat
  let x ← mp σ
  match x.t, σ[x.i]? with
  | .dc ks ts, some (.tr m t0) => if (ks[n]? = some (.inr key) ∧ ts.length < 1000) ∧ m ≠ .view then pure (.nx (σ.set x.i (.tr m (Tr.put x.p t0 (.dc ks (ts.set n (.lf d))))))) else bad
  | _, _ => bad
/-- e.f = v, f is there; f is new -/
def cTAt (mp : MP) (c : Str) (n : Nat) (f : Str) (mv : ME) : MS := fun σ => do
  let r ← mv σ
  let d ← r.dat
  let x ← mp σ
  match x.t, σ[x.i]? with
  | .ob c' ns ts, some (.tr m t0) => if (c' = c ∧ ns[n]? = some f ∧ ts.length < 1000) ∧ m ≠ .view then pure (.nx (σ.set x.i (.tr m (Tr.put x.p t0 (.ob c ns (ts.set n (.lf d))))))) else bad
  | _, _ => bad
def cTAn (mp : MP) (c : Str) (A : List Str) (f : Str) (mv : ME) : MS := fun σ => do
  let r ← mv σ
  let d ← r.dat
  let x ← mp σ
  match x.t, σ[x.i]? with
  | .ob c' ns ts, some (.tr m t0) => if (c' = c ∧ ns = A ∧ ts.length < 900) ∧ m ≠ .view then pure (.nx (σ.set x.i (.tr m (Tr.put x.p t0 (.ob c (A ++ [f]) (ts ++ [.lf d])))))) else bad
  | _, _ => bad
end
end L3

set_option Elab.async false
set_option linter.all false
set_option maxRecDepth 100000
set_option maxHeartbeats 1000000
namespace L3
open PySem PySem.Spec L2
variable [L2.TabP]
/-! ### values that are trees, made for a place -/
abbrev MT := En → M Tr
abbrev MTs := En → M (List Tr)
def tvOf (K : PySem.W.Frag) (mg : Str → Option Value) (j : Nat) (p : List Nat) (m : MT) : TE := fun σV H Q => ∃ O σ S t S', S3 K mg O σ S σV H ∧ (m σ).run S = .ok t S' ∧ ∀ O' v H', Go O O' H H' → S3 K mg O' σ S' σV H' → TreeR K mg O' H' (.loc j) p t v → Q v H'
def tvsOf (K : PySem.W.Frag) (mg : Str → Option Value) (j : Nat) (p : List Nat) (n : Nat) (m : MTs) : TA := fun σV H Q => ∃ O σ S ts S', S3 K mg O σ S σV H ∧ (m σ).run S = .ok ts S' ∧ ∀ O' vs H', Go O O' H H' → S3 K mg O' σ S' σV H' → TreeAll K mg O' H' (.loc j) p n ts vs → Q vs H'
abbrev CV (X : Cx) (j : Nat) (p : List Nat) (e : Expr) (m : MT) : Prop := PE X e (tvOf X.K X.mg j p m)
abbrev CVs (X : Cx) (j : Nat) (p : List Nat) (n : Nat) (es : List Expr) (m : MTs) : Prop := PA X es (tvsOf X.K X.mg j p n m)
def vLeaf (m : ME) : MT := fun σ => do
  let r ← m σ
  let d ← r.dat
  pure (.lf d)
def vOwn (m : ME) : MT := fun σ => do
  let r ← m σ
  match r with
  | .fr xs => pure (.ls (xs.map .lf))
  | _ => bad
def vNil : MTs := fun _ => pure []
def vCons (m : MT) (ms : MTs) : MTs := fun σ => do
  let t ← m σ
  let ts ← ms σ
  pure (t :: ts)
def vLst (ms : MTs) : MT := fun σ => do
  let ts ← ms σ
  chk (ts.length ≤ 1000)
  pure (.ls ts)
section
variable {K : PySem.W.Frag} {mg : Str → Option Value} {O O' : Ow} {H H' : Hp}
theorem S3.adopt {σ : En} {S : Store} {σV : St} {a : Addr} {w : Own} (st : S3 K mg O σ S σV H) (ht : O a = .tmp) (hl : H a ≠ none) : S3 K mg (updO O a w) σ S σV H ∧ Fre O (updO O a w) := by
  have ne : ∀ {b : Addr} {w' : Own}, O b = w' → w' ≠ .tmp → updO O a w b = w' := fun {b w'} h hw => by
    rw [updO_ne]; exact h
    rintro rfl; exact hw (h.symm.trans ht)
  have fre : Fre O (updO O a w) := ⟨fun b h => ne h (by intro z; cases z)⟩
  refine ⟨⟨⟨fun b hb => ?_, st.dom.tabs⟩, st.len, fun j s e => (st.loc j s e).fre fre (fun b h => ne h (by intro z; cases z)) (fun b h => ne h (by intro z; cases z)) (fun b p h => ne h (by intro z; cases z)), st.emp⟩, fre⟩
  by_cases e : b = a
  · rw [e]; exact hl
  · rw [updO_ne e] at hb; exact st.dom.has b hb
theorem treeAll_lf {w : Own} {p : List Nat} : ∀ {xs : List D} {ys : List V} {n : Nat}, RepAll K mg O H xs ys → TreeAll K mg O H w p n (xs.map .lf) ys
  | [], _, _, h => h
  | _ :: _, _, _, h => by obtain ⟨y, r, e, a, b⟩ := h; exact ⟨y, r, e, a, treeAll_lf b⟩
theorem TreeAll.go {w : Own} {p : List Nat} {n : Nat} {ts : List Tr} {ys : List V} (g : Go O O' H H') (h : TreeAll K mg O H w p n ts ys) : TreeAll K mg O' H' w p n ts ys :=
  TreeAll.kids (fun _ _ z => Rep.go g z) (fun a u _ _ o l n => ⟨(g.own a (by rw [l]; intro z; cases z)).trans o, g.same.at' _ _ l n⟩) h
theorem same_over {H1 H : Hp} {a : Addr} {u : HO} (ha : H1 a = none) (s : Same H1 H) (hu : H a = some u) (h1 : ∀ ps, u ≠ .tbl ps) (h2 : ∀ q, u ≠ .ext (cdP a q)) (o : HO) : Same H1 (upd H a o) :=
  ⟨fun b v e n => by rw [upd_ne (ne_of_none e ha)]; exact s.at' b v e n, fun b ps e => by rw [upd_ne (ne_of_none e ha)]; exact s.tb b ps e, fun g => (s.gd g).put o (fun ps z => h1 ps (Option.some.inj (hu.symm.trans z))) (fun q z => h2 q (Option.some.inj (hu.symm.trans z)))⟩
end
section
variable {X : Cx} {e : Expr} {es : List Expr} {m : ME} {mt : MT} {ms : MTs} {pos : Pos} {j : Nat} {p : List Nat} {n : Nat}
theorem cv_leaf (h : CE X e m) : CV X j p e (vLeaf m) := pe_imp h fun σV H Q ⟨O, σ, S, t, S', st, h, q⟩ => by
  obtain ⟨r, S1, h1, h⟩ := M.inv h
  obtain ⟨d, S2, h2, h⟩ := M.inv h
  cases h
  refine ⟨O, σ, S, r, S1, st, h1, fun O1 v H1 g1 st1 rr nn => ?_⟩
  obtain ⟨rd, rfl⟩ := dat_rep (H₀ := H) rr nn h2
  exact q (frz H O1) v H1 g1.frz (st1.frz H) rd
theorem cv_own (h : CE X e m) : CV X j p e (vOwn m) := pe_imp h fun σV H Q ⟨O, σ, S, t, S', st, h, q⟩ => by
  obtain ⟨r, S1, h1, h⟩ := M.inv h
  split at h
  · rename_i xs
    cases h
    refine ⟨O, σ, S, _, _, st, h1, fun O1 v H1 g1 st1 rr nn => ?_⟩
    obtain ⟨a, ys, rfl, l, t, ra⟩ := rr
    obtain ⟨s1, fre⟩ := st1.adopt (w := .tr j p) t (by rw [l]; intro z; cases z)
    have ha := nn a rfl
    exact q (updO O1 a (.tr j p)) _ H1 ⟨g1.same, fun b hb => by rw [updO_ne (by rintro rfl; exact hb ha)]; exact g1.own b hb⟩ s1 ⟨a, ys, rfl, updO_same, l, treeAll_lf (ra.fre fre)⟩
  · cases h
theorem cvs_nil : CVs X j p n [] vNil := pa_imp pa_nil fun σV H Q ⟨O, σ, S, r, S', st, h, q⟩ => by
  cases h
  exact q O [] H (Go.refl _ _) st rfl
theorem cvs_cons (ha : CV X j (p ++ [n]) e mt) (hr : CVs X j p (n + 1) es ms) (hs : starEach (e :: es) X.env = (false, eval e X.env) :: starEach es X.env := by rfl) : CVs X j p n (e :: es) (vCons mt ms) := pa_imp (pa_cons ha hr hs) fun σV H Q ⟨O, σ, S, r, S', st, h, q⟩ => by
  obtain ⟨t, S1, h1, h⟩ := M.inv h
  obtain ⟨ts, S2, h2, h⟩ := M.inv h
  cases h
  refine ⟨O, σ, S, t, S1, st, h1, fun O1 v H1 g1 st1 tr => ?_⟩
  exact ⟨O1, σ, S1, ts, _, st1, h2, fun O2 vs H2 g2 st2 ta => q O2 (v :: vs) H2 (g1.trans g2) st2 ⟨v, vs, rfl, tr.go g2, ta⟩⟩
/-! {'k': v, ..} -/
structure CD (X : Cx) (pos : Pos) (j : Nat) (p : List Nat) (n : Nat) (keys : List (Option Expr)) (values : List Expr) (ks : List Key) (ms : MTs) : Prop where
  ex : ∃ trs, PPs X pos keys values trs ∧ ∀ σV H (Q : List (V × V) → Hp → Prop), tvsOf X.K X.mg j p n ms σV H (fun vs H' => Q ((ks.zip vs).map fun kv => (kV kv.1, kv.2)) H') → tPairs trs σV H Q
theorem cd_nil : CD X pos j p n [] [] [] vNil := ⟨[], pps_nil, fun σV H Q ⟨O, σ, S, r, S', st, h, q⟩ => by
  cases h
  exact q O [] H (Go.refl _ _) st rfl⟩
def vDict (ks : List Key) (ms : MTs) : MT := fun σ => do
  let ts ← ms σ
  chk (ts.length = ks.length)
  pure (.dc ks ts)
theorem merge_zip : ∀ {ks : List Key} {vs : List V} {kvs : List (Key × V)}, ks.Nodup → ks.length = vs.length → (∀ k ∈ ks, ∀ p ∈ kvs, p.1 ≠ k) → mergeK kvs (ks.zip vs) = kvs ++ ks.zip vs
  | [], vs, kvs, _, _, _ => by
    show kvs = kvs ++ _
    rw [List.zip_nil_left, List.append_nil]
  | _ :: _, [], _, _, h, _ => by simp at h
  | k :: ks, v :: vs, kvs, nd, hl, hn => by
    have e1 : putK kvs k v = kvs ++ [(k, v)] := by
      unfold putK
      rw [if_neg]
      rw [List.any_eq_true]
      rintro ⟨p, hp, e⟩
      exact hn k (List.mem_cons_self ..) p hp (by simpa using e)
    show mergeK (putK kvs k v) (ks.zip vs) = _
    rw [e1, merge_zip (List.nodup_cons.mp nd).2 (by simpa using hl), List.append_assoc]
    · rfl
    · intro k' hk' p hp
      rcases List.mem_append.mp hp with hp | hp
      · exact hn k' (List.mem_cons_of_mem _ hk') p hp
      · rw [List.mem_singleton] at hp
        subst hp
        rintro rfl
        exact (List.nodup_cons.mp nd).1 hk'
theorem cv_dict {keys : List (Option Expr)} {values : List Expr} {ks : List Key} (h : CD X pos j p 0 keys values ks ms) (hall : keys.all (·.isSome) = true := by rfl) (hl : keys.length = values.length := by rfl) (h0 : keys ≠ [] := by simp) (h15 : keys.length ≤ 15 := by decide)
    (hk : ks.Nodup ∧ ks.length ≤ 15 := by decide +kernel) : CV X j p (.Dict keys values pos) (vDict ks ms) := by
  obtain ⟨trs, h1, h2⟩ := h.ex
  refine pe_imp (pe_disp h1 hall hl h0 h15) fun σV H Q ⟨O, σ, S, t, S', st, h, q⟩ a ha => h2 _ _ _ ?_
  obtain ⟨ts, S1, e1, h⟩ := M.inv h
  obtain ⟨_, S2, e2, h⟩ := M.inv h
  obtain ⟨hlen, rfl⟩ := chk_inv e2
  cases h
  refine ⟨updO O a (.tr j p), σ, S, ts, _, st.new ha, e1, fun O2 vs H2 g2 st2 ta => ?_⟩
  have ha2 : H2 a = some (.dK []) := g2.same.at' _ _ upd_same
  have hl2 : ks.length = vs.length := by rw [ta.len, hlen]
  have hm : mergeK [] (ks.zip vs) = ks.zip vs := merge_zip hk.1 hl2 (fun _ _ p hp => by cases hp)
  refine ⟨ha2, ks.zip vs, rfl, by rw [List.length_zip]; omega, ?_⟩
  rw [hm]
  have o2 : O2 a = .tr j p := (g2.own a (by rw [upd_same]; intro z; cases z)).trans updO_same
  have sm : Same H (upd H2 a (.dK (ks.zip vs))) := same_over ha ((same_new ha _).trans g2.same) ha2 (by intro ps z; cases z) (by intro q z; cases z) _
  have go : Go O O2 H (upd H2 a (.dK (ks.zip vs))) := ⟨sm, fun b hb => by
    have nb : b ≠ a := by rintro rfl; exact hb ha
    rw [g2.own b (by rw [upd_ne nb]; exact hb), updO_ne nb]⟩
  have dm : Dom O2 (upd H2 a (.dK (ks.zip vs))) := st2.dom.upd ha2 (by intro ps z; cases z) (by intro q z; cases z)
  have st3 := st.go go dm
  rw [st.emp, ← st2.emp] at st3
  refine q O2 _ _ go st3 ⟨a, vs, rfl, o2, upd_same, ⟨hl2, hk.1⟩, TreeAll.kids (fun _ _ z => Rep.updK ha2 z) (fun b u i r ob hb _ => ⟨ob, ?_⟩) ta⟩
  rw [upd_ne]
  · exact hb
  · rintro rfl
    rw [o2] at ob
    have := congrArg List.length (show p = p ++ i :: r by injection ob)
    rw [List.length_append, List.length_cons] at this
    omega
/-- x = a tree -/
def cTSet (j : Nat) (m : MT) : MS := fun σ => do
  let t ← m σ
  pure (.nx (σ.set j (.tr .own t)))
theorem cs_tset {x : Str} {pos' : Pos} (hN : X.N.Nodup) (hi : X.N[j]? = some x) (hx : Loc X.env.scope x) (he : CV X j [] e mt) (hs : swapsWith e (some (.Name x pos')) pos.line X.env = pure false := by rfl) (hf : X.fn x = true ∨ X.env.scope.names.lookup x = some .local := by first | exact .inl rfl | exact .inr rfl | assumption) :
    CS X (.Assign [.Name x pos'] e pos) (cTSet j mt) := ps_imp (ps_set hN hi hx he hs hf) fun D σV H ⟨O, σ, S, fl, S', st, h, q⟩ => by
  obtain ⟨t, S1, h1, h⟩ := M.inv h
  cases h
  exact ⟨O, σ, S, t, _, st, h1, fun O1 v H1 g1 st1 tr => q O1 _ H1 g1.gs (st1.set ⟨v, rfl, tr⟩) (Kp.set (fun xs z => by cases z) (fun xs z => by cases z) fun m t z => by cases z; rfl)⟩
/-- x['k'] = a tree, the key is new -/
def cTDn (j : Nat) (A : List Key) (key : Str) (mt : MT) : MS := fun σ => do
  let t ← mt σ
  match σ[j]? with
  | some (.tr md (.dc ks ts)) => if (ks = A ∧ ts.length = A.length ∧ ts.length < 1000) ∧ md ≠ .view then pure (.nx (σ.set j (.tr md (.dc (A ++ [.inr key]) (ts ++ [t]))))) else bad
  | _ => bad
end
end L3

set_option Elab.async false
set_option linter.all false
set_option maxRecDepth 100000
set_option maxHeartbeats 1000000
namespace L3
open PySem PySem.Spec L2
variable [L2.TabP]
/-! ### the bodies of defs that change trees: an early return is a break -/
def Pr (D : Ends) : Ends := { D with bk := fun _ H' => D.rt .non H' }
abbrev CR (X : Cx) (st : Stmt) (m : MS) : Prop := PS X st fun D => tsOf X.K X.mg m (Pr D)
abbrev CRs (X : Cx) (sts : List Stmt) (m : MS) : Prop := PSs X sts fun D => tsOf X.K X.mg m (Pr D)
def cNoB (m : MS) : MS := fun σ => do
  let fl ← m σ
  match fl with
  | .bk _ => bad
  | fl => pure fl
section
variable {X : Cx} {st : Stmt} {rest : List Stmt} {pos : Pos} {a b : MS}
end
/-! ### defs that change the trees that are their first parameters -/
abbrev MTR := List Tr → List D → M (List Tr)
def trsOf : List Slot → M (List Tr)
  | [] => pure []
  | .tr .par t :: r => do
    let ts ← trsOf r
    pure (t :: ts)
  | _ => bad
def trEnd (nt : Nat) (σ' : En) : M (List Tr) := do
  let ts ← trsOf (σ'.take nt)
  chk (ts.length = nt)
  pure ts
def fnTR (nt n N : Nat) (b : MS) : MTR := fun ts ds => if ts.length = nt ∧ nt + ds.length = n then do
    let fl ← b (ts.map (.tr .par) ++ ds.map .val ++ List.replicate (N - n) .emp)
    match fl with
    | .nx σ' => trEnd nt σ'
    | .bk σ' => trEnd nt σ'
    | _ => bad
  else bad
abbrev Rt := Nat × List Nat
def Roots (K : PySem.W.Frag) (mg : Str → Option Value) (O : Ow) (H : Hp) (ws : List Rt) (ts : List Tr) (us : List V) : Prop := ∀ (k : Nat) (r : Rt), ws[k]? = some r → ∃ t u, ts[k]? = some t ∧ us[k]? = some u ∧ TreeR K mg O H (.loc r.1) r.2 t u
def Un (ws : List Rt) (j : Nat) (p : List Nat) : Prop := ∃ P, (j, P) ∈ ws ∧ P <+: p
def look : List Rt → Nat → Nat → List Nat → Own
  | [], _, _, _ => .out
  | (j', P) :: ws, k, j, p => if j' = j ∧ P <+: p then .tr k (p.drop P.length) else look ws (k + 1) j p
omit [L2.TabP] in
theorem look_un : ∀ {ws : List Rt} {k j : Nat} {p : List Nat}, ¬ Un ws j p → look ws k j p = .out
  | [], _, _, _, _ => rfl
  | (j', P) :: ws, k, j, p, h => by
    unfold look
    rw [if_neg, look_un fun ⟨Q, a, b⟩ => h ⟨Q, List.mem_cons_of_mem _ a, b⟩]
    rintro ⟨rfl, z⟩
    exact h ⟨P, List.mem_cons_self .., z⟩
omit [L2.TabP] in
theorem look_at : ∀ {ws : List Rt} {k i j : Nat} {P r : List Nat}, (ws.map (·.1)).Nodup → ws[i]? = some (j, P) → look ws k j (P ++ r) = .tr (k + i) r
  | [], _, _, _, _, _, _, e => by simp at e
  | (j', P') :: ws, k, 0, j, P, r, nd, e => by
    cases (show some (j', P') = some (j, P) from e)
    unfold look
    rw [if_pos ⟨rfl, List.prefix_append _ _⟩, List.drop_left]
    rfl
  | (j', P') :: ws, k, i + 1, j, P, r, nd, e => by
    have e' : ws[i]? = some (j, P) := by simpa using e
    unfold look
    rw [List.map_cons] at nd
    rw [if_neg, look_at (List.nodup_cons.mp nd).2 e']
    · congr 1; omega
    · rintro ⟨rfl, _⟩
      exact (List.nodup_cons.mp nd).1 (List.mem_map.mpr ⟨(_, P), List.mem_iff_getElem?.mpr ⟨i, e'⟩, rfl⟩)
/-- the callee's owners -/
def inO (ws : List Rt) (O : Ow) : Ow := fun b => match O b with
  | .tr j p => look ws 0 j p
  | o => o.blk
omit [L2.TabP] in
theorem look_ne : ∀ {ws : List Rt} {k j : Nat} {p : List Nat}, look ws k j p ≠ .free
  | [], _, _, _ => by intro z; cases z
  | (j', P) :: ws, k, j, p => by
    unfold look
    split
    · intro z; cases z
    · exact look_ne
omit [L2.TabP] in
theorem inO_free {ws : List Rt} {O : Ow} {b : Addr} : inO ws O b = .free ↔ O b = .free := by
  unfold inO
  cases e : O b with
  | tr j p => exact ⟨fun z => absurd z look_ne, fun z => by cases z⟩
  | _ => simp [Own.blk]
omit [L2.TabP] in
theorem inO_un {ws : List Rt} {O : Ow} {b : Addr} (h : ¬ WOw (Un ws) (O b)) : inO ws O b = .free ∨ inO ws O b = .out := by
  unfold inO
  cases e : O b with
  | tr j p => exact .inr (look_un fun z => h ⟨j, p, e, z⟩)
  | free => exact .inl rfl
  | _ => exact .inr rfl
theorem inO_fre {ws : List Rt} {O : Ow} : Fre O (inO ws O) := ⟨fun _ h => inO_free.mpr h⟩
/-- the caller's owners behind the call -/
def outO (ws : List Rt) (H : Hp) (O O' : Ow) (b : Addr) : Own :=
  match (generalizing := false) O' b with
  | .tr k q => (match ws[k]? with
    | some r => .tr r.1 (r.2 ++ q)
    | none => .tmp)
  | .free => .free
  | _ => .tmp
open Classical in
noncomputable def bkO (ws : List Rt) (H : Hp) (O O' : Ow) : Ow := fun b => if H b ≠ none ∧ ¬ WOw (Un ws) (O b) then O b else outO ws H O O' b
theorem trs_len : ∀ {ss : List Slot} {ts : List Tr} {S S' : Store}, (trsOf ss).run S = .ok ts S' → ts.length = ss.length ∧ ∀ (k : Nat) (t : Tr), ts[k]? = some t → ss[k]? = some (.tr .par t)
  | [], ts, S, S', h => by cases h; exact ⟨rfl, fun k t e => by simp at e⟩
  | .tr .par t :: r, ts, S, S', h => by
    obtain ⟨ts', S1, h1, h⟩ := M.inv h
    cases h
    obtain ⟨a, b⟩ := trs_len h1
    refine ⟨by rw [List.length_cons, List.length_cons, a], fun k t e => ?_⟩
    cases k with
    | zero => cases e; rfl
    | succ k => exact b k t (by simpa using e)
  | .tr .own t :: r, ts, S, S', h => by cases h
  | .tr .view t :: r, ts, S, S', h => by cases h
  | .emp :: _, _, _, _, h => by cases h
  | .val _ :: _, _, _, _, h => by cases h
  | .ow _ _ :: _, _, _, _, h => by cases h
  | .vw _ :: _, _, _, _, h => by cases h
  | .dct _ :: _, _, _, _, h => by cases h
  | .vd _ :: _, _, _, _, h => by cases h
  | .pd _ :: _, _, _, _, h => by cases h
  | .vp _ :: _, _, _, _, h => by cases h
end L3

set_option Elab.async false
set_option linter.all false
set_option maxRecDepth 100000
set_option maxHeartbeats 1000000
namespace L3
open PySem PySem.Spec L2
variable [L2.TabP]
/-! ### methods by name -/
structure DfM (K : PySem.W.Frag) (mg : Str → Option Value) (c m qual : Str) (st : Stmt) (ps : List Str) : Prop where
  ex : ∃ C f fd, mg c = some (.ref C) ∧ Cls K C ∧ Meth K C m f ∧ Fun K m qual st f fd ∧ Binds K fd ps []
structure HasM (P : Program) (w : World) (K : PySem.W.Frag) (mg : Str → Option Value) (base : Heap) (c m : Str) (ps : List Str) (k : Nat) (sp : Sp) : Prop where
  ex : ∃ C f fd, mg c = some (.ref C) ∧ Cls K C ∧ Meth K C m f ∧ FnOk P w K mg base CX0 k f fd ps sp ∧ Binds K fd ps []
section
variable {P : Program} {w : World} {K : PySem.W.Frag} {mg : Str → Option Value} {base : Heap} {x c m qual : Str} {st : Stmt} {ps N : List Str} {k : Nat} {mb : MS} {nt n nl : Nat}
end
/-! ### methods that look only -/
abbrev MTV := Tr → List D → M R
def fnTV (n N : Nat) (b : MS) : MTV := fun t ds => if 1 + ds.length = n then do
    let fl ← b (.tr .view t :: ds.map .val ++ List.replicate (N - n) .emp)
    match fl with
    | .rt (.v d) => pure (.v d)
    | .rt (.fr xs) => pure (.fr xs)
    | .nx _ => pure (.v .non)
    | _ => bad
  else bad
/-! ### defs that return a new tree -/
abbrev MTM := List D → M Tr
def tsTr (K : PySem.W.Frag) (mg : Str → Option Value) (j : Nat) (m : MS) : TS := fun Dn σV H => ∃ O σ S σ' S' t, S3 K mg O σ S σV H ∧ (m σ).run S = .ok (.nx σ') S' ∧ σ'[j]? = some (.tr .own t) ∧ ∀ O' v H', Gs O O' H H' → Dom O' H' → S' = [] → TreeR K mg O' H' (.loc j) [] t v → Dn.rt v H'
abbrev CSt (X : Cx) (j : Nat) (sts : List Stmt) (m : MS) : Prop := PSs X sts (tsTr X.K X.mg j m)
def fnTM (n N j : Nat) (b : MS) : MTM := fun ds => if ds.length = n then do
    let fl ← b (ds.map .val ++ List.replicate (N - n) .emp)
    match fl with
    | .nx σ' => (match σ'[j]? with
      | some (.tr .own t) => pure t
      | _ => bad)
    | _ => bad
  else bad
end L3

set_option Elab.async false
set_option linter.all false
set_option maxRecDepth 100000
set_option maxHeartbeats 1000000
namespace L3
open PySem PySem.Spec L2
variable [L2.TabP]
/-! ### calls of methods by name -/
section
variable {X : Cx} {c m : Str} {ps : List Str} {k : Nat} {sp : Sp} {o e : Expr} {es : List Expr} {ta : TE} {t : TA} {apos pos : Pos}
end
theorem ow_of {m : TM} {w : Own} (h : m ≠ .view) : m.ow w = w := by
  cases m with
  | view => exact absurd rfl h
  | own => rfl
  | par => rfl
/-! ### o.m(..) in an expression, where m only looks -/
def cTV (mp : MP) (c : Str) (A : List Str) (mf : MTV) (ms : MA) : ME := fun σ => do
  let x ← mp σ
  let rs ← ms σ
  let ds ← dats rs
  match x.t with
  | .ob c' ns ts => if c' = c ∧ ns = A then mf (.ob c ns ts) ds else bad
  | _ => bad
section
variable {X : Cx} {c m : Str} {ps : List Str} {k : Nat} {o e : Expr} {es : List Expr} {apos pos pos' : Pos} {mp : MP} {mf : MTV} {mr : MTR} {ms : MA} {A : List Str}
/-! ### o.m(..) as a statement, where m changes o -/
def put1 (f : Tr → Fl) : List Tr → M Fl
  | [t] => pure (f t)
  | _ => bad
def put2 (f : Tr → Tr → Fl) : List Tr → M Fl
  | [t, s] => pure (f t s)
  | _ => bad
def cTM (mp : MP) (c : Str) (A : List Str) (mf : MTR) (ms : MA) : MS := fun σ => do
  let x ← mp σ
  let rs ← ms σ
  let ds ← dats rs
  match x.t, σ[x.i]? with
  | .ob c' ns ts, some (.tr md t0) => if (c' = c ∧ ns = A) ∧ md ≠ .view then mf [.ob c ns ts] ds >>= put1 (fun s' => .nx (σ.set x.i (.tr md (Tr.put x.p t0 s')))) else bad
  | _, _ => bad
end
/-! ### f(x, ..), f(x, y, ..) as statements, where f changes the trees x, y -/
def cTR1 (i : Nat) (mf : MTR) (ms : MA) : MS := fun σ => do
  let rs ← ms σ
  let ds ← dats rs
  match σ[i]? with
  | some (.tr m t) => if m ≠ .view then mf [t] ds >>= put1 (fun t' => .nx (σ.set i (.tr m t'))) else bad
  | _ => bad
def cTR2 (i j : Nat) (mf : MTR) (ms : MA) : MS := fun σ => do
  let rs ← ms σ
  let ds ← dats rs
  match σ[i]?, σ[j]? with
  | some (.tr m t), some (.tr n s) => if m ≠ .view ∧ n ≠ .view then mf [t, s] ds >>= put2 (fun t' s' => .nx ((σ.set i (.tr m t')).set j (.tr n s'))) else bad
  | _, _ => bad
section
variable {X : Cx} {x y z : Str} {ps : List Str} {k i j : Nat} {mr : MTR} {p p1 p2 pos pos' : Pos} {es : List Expr} {ms : MA}
theorem var_at {σV : St} {i : Nat} {v : V} (e1 : σV[i]?.join = some v) : σV[i]? = some (some v) := by
  cases w : σV[i]? with
  | none => rw [w] at e1; cases e1
  | some y => rw [w] at e1; exact congrArg some e1
end
/-! ### new trees by calls: a def's, a class's -/
def vCall (mf : MTM) (ms : MA) : MT := fun σ => do
  let rs ← ms σ
  let ds ← dats rs
  mf ds
def vMake (c : Str) (mf : MTR) (ms : MA) : MT := fun σ => do
  let rs ← ms σ
  let ds ← dats rs
  let ts ← mf [.ob c [] []] ds
  match ts with
  | [t] => pure t
  | _ => bad
section
variable {X : Cx} {x : Str} {ps : List Str} {k j : Nat} {q : List Nat} {mf : MTM} {mr : MTR} {p pos : Pos} {e : Expr} {es : List Expr} {ms : MA}
end
/-! ### what of the text a class has -/
end L3

set_option Elab.async false
set_option linter.all false
set_option maxRecDepth 100000
set_option maxHeartbeats 1000000
namespace L3
open PySem PySem.Spec L2
section
variable [L2.TabP] (X : Cx)
structure WP (e : Expr) (m : MP) : Prop where
  un : CP X e m
structure WV (j : Nat) (p : List Nat) (e : Expr) (m : MT) : Prop where
  un : CV X j p e m
structure WVs (j : Nat) (p : List Nat) (n : Nat) (e : List Expr) (m : MTs) : Prop where
  un : CVs X j p n e m
structure WR (e : Stmt) (m : MS) : Prop where
  un : CR X e m
structure WRs (e : List Stmt) (m : MS) : Prop where
  un : CRs X e m
structure WSt (j : Nat) (e : List Stmt) (m : MS) : Prop where
  un : CSt X j e m
end
section
variable [L2.TabP]
variable {X : Cx} {e k : Expr} {m : MP} {mk : ME} {pos p : Pos}
theorem wp_var (i : Nat) {x : Str} {pos : Pos} (hN : X.N[i]? = some x := by rfl) (hv : Vis X.env.scope x := by first | exact Or.inl rfl | exact Or.inr (Or.inl rfl) | exact Or.inr (Or.inr rfl)) (hd : (x == ("__debug__" : Str)) = false := by decide) (hcd : (x == ("__classdict__" : Str)) = false := by decide) : WP X (.Name x pos) (pVar i) := ⟨cp_var i hN hv hd hcd⟩
end
section
variable [L2.TabP]
variable {X : Cx} {e k : Expr} {m : MP} {mk : ME} {pos p : Pos}
end
section
variable [L2.TabP]
variable {X : Cx} {e k : Expr} {m : MP} {mk : ME} {pos p : Pos}
end
section
variable [L2.TabP]
variable {X : Cx} {e k : Expr} {m : MP} {mk : ME} {pos p : Pos}
end
section
variable [L2.TabP]
variable {X : Cx} {e k : Expr} {m : MP} {mk : ME} {pos p : Pos}
theorem we_leaf (he : WP X e m) : WE X e (cLeaf m) := ⟨ce_leaf he.un⟩
end
section
variable [L2.TabP]
variable {X : Cx} {e k value : Expr} {mp : MP} {mk mv : ME} {pos pos' : Pos}
end
section
variable [L2.TabP]
variable {X : Cx} {e k value : Expr} {mp : MP} {mk mv : ME} {pos pos' : Pos}
end
section
variable [L2.TabP]
variable {X : Cx} {e k value : Expr} {mp : MP} {mk mv : ME} {pos pos' : Pos}
end
section
variable [L2.TabP]
variable {X : Cx} {e k value : Expr} {mp : MP} {mk mv : ME} {pos pos' : Pos}
end
section
variable [L2.TabP]
variable {X : Cx} {e : Expr} {es : List Expr} {m : ME} {mt : MT} {ms : MTs} {pos : Pos} {j : Nat} {p : List Nat} {n : Nat}
theorem wv_leaf (h : WE X e m) : WV X j p e (vLeaf m) := ⟨cv_leaf h.un⟩
end
section
variable [L2.TabP]
variable {X : Cx} {e : Expr} {es : List Expr} {m : ME} {mt : MT} {ms : MTs} {pos : Pos} {j : Nat} {p : List Nat} {n : Nat}
theorem wv_own (h : WE X e m) : WV X j p e (vOwn m) := ⟨cv_own h.un⟩
end
section
variable [L2.TabP]
variable {X : Cx} {e : Expr} {es : List Expr} {m : ME} {mt : MT} {ms : MTs} {pos : Pos} {j : Nat} {p : List Nat} {n : Nat}
theorem wvs_nil  : WVs X j p n [] vNil := ⟨cvs_nil⟩
end
section
variable [L2.TabP]
variable {X : Cx} {e : Expr} {es : List Expr} {m : ME} {mt : MT} {ms : MTs} {pos : Pos} {j : Nat} {p : List Nat} {n : Nat}
theorem wvs_cons (ha : WV X j (p ++ [n]) e mt) (hr : WVs X j p (n + 1) es ms) (hs : starEach (e :: es) X.env = (false, eval e X.env) :: starEach es X.env := by rfl) : WVs X j p n (e :: es) (vCons mt ms) := ⟨cvs_cons ha.un hr.un hs⟩
end
section
variable [L2.TabP]
variable {X : Cx} {e : Expr} {es : List Expr} {m : ME} {mt : MT} {ms : MTs} {pos : Pos} {j : Nat} {p : List Nat} {n : Nat}
end
section
variable [L2.TabP]
variable {X : Cx} {e : Expr} {es : List Expr} {m : ME} {mt : MT} {ms : MTs} {pos : Pos} {j : Nat} {p : List Nat} {n : Nat}
theorem wd_nil  : CD X pos j p n [] [] [] vNil := cd_nil
end
section
variable [L2.TabP]
variable {X : Cx} {e : Expr} {es : List Expr} {m : ME} {mt : MT} {ms : MTs} {pos : Pos} {j : Nat} {p : List Nat} {n : Nat}
end
section
variable [L2.TabP]
variable {X : Cx} {e : Expr} {es : List Expr} {m : ME} {mt : MT} {ms : MTs} {pos : Pos} {j : Nat} {p : List Nat} {n : Nat}
theorem wv_dict {keys : List (Option Expr)} {values : List Expr} {ks : List Key} (h : CD X pos j p 0 keys values ks ms) (hall : keys.all (·.isSome) = true := by rfl) (hl : keys.length = values.length := by rfl) (h0 : keys ≠ [] := by simp) (h15 : keys.length ≤ 15 := by decide) (hk : ks.Nodup ∧ ks.length ≤ 15 := by decide +kernel) : WV X j p (.Dict keys values pos) (vDict ks ms) := ⟨cv_dict h hall hl h0 h15 hk⟩
end
section
variable [L2.TabP]
variable {X : Cx} {e : Expr} {es : List Expr} {m : ME} {mt : MT} {ms : MTs} {pos : Pos} {j : Nat} {p : List Nat} {n : Nat}
theorem ws_tset {x : Str} {pos' : Pos} (hN : X.N.Nodup) (hi : X.N[j]? = some x) (hx : Loc X.env.scope x) (he : WV X j [] e mt) (hs : swapsWith e (some (.Name x pos')) pos.line X.env = pure false := by rfl) (hf : X.fn x = true ∨ X.env.scope.names.lookup x = some .local := by first | exact .inl rfl | exact .inr rfl | assumption) : WS X (.Assign [.Name x pos'] e pos) (cTSet j mt) := ⟨cs_tset hN hi hx he.un hs hf⟩
end
section
variable [L2.TabP]
variable {X : Cx} {e : Expr} {es : List Expr} {m : ME} {mt : MT} {ms : MTs} {pos : Pos} {j : Nat} {p : List Nat} {n : Nat}
end
section
variable [L2.TabP]
variable {X : Cx} {st : Stmt} {rest : List Stmt} {pos : Pos} {a b : MS}
end
section
variable [L2.TabP]
variable {X : Cx} {st : Stmt} {rest : List Stmt} {pos : Pos} {a b : MS}
end
section
variable [L2.TabP]
variable {X : Cx} {st : Stmt} {rest : List Stmt} {pos : Pos} {a b : MS}
end
section
variable [L2.TabP]
variable {X : Cx} {st : Stmt} {rest : List Stmt} {pos : Pos} {a b : MS}
end
section
variable [L2.TabP]
variable {X : Cx} {st : Stmt} {rest : List Stmt} {pos : Pos} {a b : MS}
end
section
variable [L2.TabP]
variable {X : Cx} {st : Stmt} {rest : List Stmt} {pos : Pos} {a b : MS}
end
section
variable [L2.TabP]
end
section
variable [L2.TabP]
end
section
variable [L2.TabP]
variable {X : Cx} {c m : Str} {ps : List Str} {k : Nat} {o e : Expr} {es : List Expr} {apos pos pos' : Pos} {mp : MP} {mf : MTV} {mr : MTR} {ms : MA} {A : List Str}
end
section
variable [L2.TabP]
variable {X : Cx} {c m : Str} {ps : List Str} {k : Nat} {o e : Expr} {es : List Expr} {apos pos pos' : Pos} {mp : MP} {mf : MTV} {mr : MTR} {ms : MA} {A : List Str}
end
section
variable [L2.TabP]
variable {X : Cx} {c m : Str} {ps : List Str} {k : Nat} {o e : Expr} {es : List Expr} {apos pos pos' : Pos} {mp : MP} {mf : MTV} {mr : MTR} {ms : MA} {A : List Str}
end
section
variable [L2.TabP]
variable {X : Cx} {x y z : Str} {ps : List Str} {k i j : Nat} {mr : MTR} {p p1 p2 pos pos' : Pos} {es : List Expr} {ms : MA}
end
section
variable [L2.TabP]
variable {X : Cx} {x y z : Str} {ps : List Str} {k i j : Nat} {mr : MTR} {p p1 p2 pos pos' : Pos} {es : List Expr} {ms : MA}
end
section
variable [L2.TabP]
variable {X : Cx} {x : Str} {ps : List Str} {k j : Nat} {q : List Nat} {mf : MTM} {mr : MTR} {p pos : Pos} {e : Expr} {es : List Expr} {ms : MA}
end
section
variable [L2.TabP]
variable {X : Cx} {x : Str} {ps : List Str} {k j : Nat} {q : List Nat} {mf : MTM} {mr : MTR} {p pos : Pos} {e : Expr} {es : List Expr} {ms : MA}
end
end L3

set_option Elab.async false
set_option linter.all false
set_option maxRecDepth 100000
set_option maxHeartbeats 1000000
namespace L3
open PySem PySem.Spec L2
@[simp] theorem e_pVar {i : Nat} {σ : En} : pVar i σ = (match σ[i]? with
  | some (.tr m t) => pure ⟨i, [], m, t⟩
  | _ => bad) := rfl
@[simp] theorem e_pIx {m : MP} {mk : ME} {σ : En} : pIx m mk σ = (do
  let x ← m σ
  let k ← mk σ
  match x.t, k with
  | .ls ts, .v (.int j) => if 0 ≤ j then kidM ts j.toNat (Pt.mk x.i (x.p ++ [j.toNat]) x.m) else bad
  | _, _ => bad) := rfl
@[simp] theorem e_pDk {m : MP} {n : Nat} {key : Str} {σ : En} : pDk m n key σ = (do
  let x ← m σ
  match x.t with
  | .dc ks ts => if ks[n]? = some (.inr key) then kidM ts n (Pt.mk x.i (x.p ++ [n]) x.m) else bad
  | _ => bad) := rfl
@[simp] theorem e_pAt {m : MP} {c : Str} {n : Nat} {f : Str} {σ : En} : pAt m c n f σ = (do
  let x ← m σ
  match x.t with
  | .ob c' ns ts => if c' = c ∧ ns[n]? = some f then kidM ts n (Pt.mk x.i (x.p ++ [n]) x.m) else bad
  | _ => bad) := rfl
@[simp] theorem e_cLeaf {m : MP} {σ : En} : cLeaf m σ = (do
  let x ← m σ
  match x.t with
  | .lf d => pure (.v d)
  | _ => bad) := rfl
@[simp] theorem e_cTIx {mp : MP} {mk mv : ME} {σ : En} : cTIx mp mk mv σ = (do
  let r ← mv σ
  let d ← r.dat
  let x ← mp σ
  let k ← mk σ
  match x.t, k, σ[x.i]? with
  | .ls ts, .v (.int j), some (.tr m t0) => if (0 ≤ j ∧ j < ts.length) ∧ m ≠ .view then pure (.nx (σ.set x.i (.tr m (Tr.put x.p t0 (.ls (ts.set j.toNat (.lf d))))))) else bad
  | _, _, _ => bad) := rfl
@[simp] theorem e_cTDk {mp : MP} {n : Nat} {key : Str} {mv : ME} {σ : En} : cTDk mp n key mv σ = (do
  let r ← mv σ
  let d ← r.dat
  let x ← mp σ
  match x.t, σ[x.i]? with
  | .dc ks ts, some (.tr m t0) => if (ks[n]? = some (.inr key) ∧ ts.length < 1000) ∧ m ≠ .view then pure (.nx (σ.set x.i (.tr m (Tr.put x.p t0 (.dc ks (ts.set n (.lf d))))))) else bad
  | _, _ => bad) := rfl
@[simp] theorem e_cTAt {mp : MP} {c : Str} {n : Nat} {f : Str} {mv : ME} {σ : En} : cTAt mp c n f mv σ = (do
  let r ← mv σ
  let d ← r.dat
  let x ← mp σ
  match x.t, σ[x.i]? with
  | .ob c' ns ts, some (.tr m t0) => if (c' = c ∧ ns[n]? = some f ∧ ts.length < 1000) ∧ m ≠ .view then pure (.nx (σ.set x.i (.tr m (Tr.put x.p t0 (.ob c ns (ts.set n (.lf d))))))) else bad
  | _, _ => bad) := rfl
@[simp] theorem e_cTAn {mp : MP} {c : Str} {A : List Str} {f : Str} {mv : ME} {σ : En} : cTAn mp c A f mv σ = (do
  let r ← mv σ
  let d ← r.dat
  let x ← mp σ
  match x.t, σ[x.i]? with
  | .ob c' ns ts, some (.tr m t0) => if (c' = c ∧ ns = A ∧ ts.length < 900) ∧ m ≠ .view then pure (.nx (σ.set x.i (.tr m (Tr.put x.p t0 (.ob c (A ++ [f]) (ts ++ [.lf d])))))) else bad
  | _, _ => bad) := rfl
@[simp] theorem e_vLeaf {m : ME} {σ : En} : vLeaf m σ = (do
  let r ← m σ
  let d ← r.dat
  pure (.lf d)) := rfl
@[simp] theorem e_vOwn {m : ME} {σ : En} : vOwn m σ = (do
  let r ← m σ
  match r with
  | .fr xs => pure (.ls (xs.map .lf))
  | _ => bad) := rfl
@[simp] theorem e_vNil  {σ : En} : vNil  σ = (pure []) := rfl
@[simp] theorem e_vCons {m : MT} {ms : MTs} {σ : En} : vCons m ms σ = (do
  let t ← m σ
  let ts ← ms σ
  pure (t :: ts)) := rfl
@[simp] theorem e_vLst {ms : MTs} {σ : En} : vLst ms σ = (do
  let ts ← ms σ
  chk (ts.length ≤ 1000)
  pure (.ls ts)) := rfl
@[simp] theorem e_vDict {ks : List Key} {ms : MTs} {σ : En} : vDict ks ms σ = (do
  let ts ← ms σ
  chk (ts.length = ks.length)
  pure (.dc ks ts)) := rfl
@[simp] theorem e_cTSet {j : Nat} {m : MT} {σ : En} : cTSet j m σ = (do
  let t ← m σ
  pure (.nx (σ.set j (.tr .own t)))) := rfl
@[simp] theorem e_cTDn {j : Nat} {A : List Key} {key : Str} {mt : MT} {σ : En} : cTDn j A key mt σ = (do
  let t ← mt σ
  match σ[j]? with
  | some (.tr md (.dc ks ts)) => if (ks = A ∧ ts.length = A.length ∧ ts.length < 1000) ∧ md ≠ .view then pure (.nx (σ.set j (.tr md (.dc (A ++ [.inr key]) (ts ++ [t]))))) else bad
  | _ => bad) := rfl
@[simp] theorem e_cNoB {m : MS} {σ : En} : cNoB m σ = (do
  let fl ← m σ
  match fl with
  | .bk _ => bad
  | fl => pure fl) := rfl
@[simp] theorem e_trEnd {nt : Nat} {σ' : En} : trEnd nt σ' = (do
  let ts ← trsOf (σ'.take nt)
  chk (ts.length = nt)
  pure ts) := rfl
@[simp] theorem e_cTV {mp : MP} {c : Str} {A : List Str} {mf : MTV} {ms : MA} {σ : En} : cTV mp c A mf ms σ = (do
  let x ← mp σ
  let rs ← ms σ
  let ds ← dats rs
  match x.t with
  | .ob c' ns ts => if c' = c ∧ ns = A then mf (.ob c ns ts) ds else bad
  | _ => bad) := rfl
@[simp] theorem e_cTM {mp : MP} {c : Str} {A : List Str} {mf : MTR} {ms : MA} {σ : En} : cTM mp c A mf ms σ = (do
  let x ← mp σ
  let rs ← ms σ
  let ds ← dats rs
  match x.t, σ[x.i]? with
  | .ob c' ns ts, some (.tr md t0) => if (c' = c ∧ ns = A) ∧ md ≠ .view then mf [.ob c ns ts] ds >>= put1 (fun s' => .nx (σ.set x.i (.tr md (Tr.put x.p t0 s')))) else bad
  | _, _ => bad) := rfl
@[simp] theorem e_cTR1 {i : Nat} {mf : MTR} {ms : MA} {σ : En} : cTR1 i mf ms σ = (do
  let rs ← ms σ
  let ds ← dats rs
  match σ[i]? with
  | some (.tr m t) => if m ≠ .view then mf [t] ds >>= put1 (fun t' => .nx (σ.set i (.tr m t'))) else bad
  | _ => bad) := rfl
@[simp] theorem e_cTR2 {i j : Nat} {mf : MTR} {ms : MA} {σ : En} : cTR2 i j mf ms σ = (do
  let rs ← ms σ
  let ds ← dats rs
  match σ[i]?, σ[j]? with
  | some (.tr m t), some (.tr n s) => if m ≠ .view ∧ n ≠ .view then mf [t, s] ds >>= put2 (fun t' s' => .nx ((σ.set i (.tr m t')).set j (.tr n s'))) else bad
  | _, _ => bad) := rfl
@[simp] theorem e_vCall {mf : MTM} {ms : MA} {σ : En} : vCall mf ms σ = (do
  let rs ← ms σ
  let ds ← dats rs
  mf ds) := rfl
@[simp] theorem e_vMake {c : Str} {mf : MTR} {ms : MA} {σ : En} : vMake c mf ms σ = (do
  let rs ← ms σ
  let ds ← dats rs
  let ts ← mf [.ob c [] []] ds
  match ts with
  | [t] => pure t
  | _ => bad) := rfl
@[simp] theorem e_fnTR {nt n N : Nat} {b : MS} {ts : List Tr} {ds : List D} : fnTR nt n N b ts ds = (if ts.length = nt ∧ nt + ds.length = n then do
    let fl ← b (ts.map (.tr .par) ++ ds.map .val ++ List.replicate (N - n) .emp)
    match fl with
    | .nx σ' => trEnd nt σ'
    | .bk σ' => trEnd nt σ'
    | _ => bad
  else bad) := rfl
@[simp] theorem e_fnTV {n N : Nat} {b : MS} {t : Tr} {ds : List D} : fnTV n N b t ds = (if 1 + ds.length = n then do
    let fl ← b (.tr .view t :: ds.map .val ++ List.replicate (N - n) .emp)
    match fl with
    | .rt (.v d) => pure (.v d)
    | .rt (.fr xs) => pure (.fr xs)
    | .nx _ => pure (.v .non)
    | _ => bad
  else bad) := rfl
@[simp] theorem e_fnTM {n N j : Nat} {b : MS} {ds : List D} : fnTM n N j b ds = (if ds.length = n then do
    let fl ← b (ds.map .val ++ List.replicate (N - n) .emp)
    match fl with
    | .nx σ' => (match σ'[j]? with
      | some (.tr .own t) => pure t
      | _ => bad)
    | _ => bad
  else bad) := rfl
@[simp] theorem e_kidM {ts : List Tr} {n : Nat} {f : Tr → Pt} : kidM ts n f = (match ts[n]? with
  | some s => pure (f s)
  | none => bad) := rfl
@[simp] theorem e_put1 {f : Tr → Fl} {t : Tr} : put1 f [t] = pure (f t) := rfl
@[simp] theorem e_put2 {f : Tr → Tr → Fl} {t s : Tr} : put2 f [t, s] = pure (f t s) := rfl
@[simp] theorem e_trsN : trsOf [] = pure [] := rfl
@[simp] theorem e_trsC {t : Tr} {r : List Slot} : trsOf (.tr .par t :: r) = (do
  let ts ← trsOf r
  pure (t :: ts)) := rfl
@[simp] theorem e_kidsL {ts : List Tr} : Tr.kids (.ls ts) = ts := rfl
@[simp] theorem e_kidsD {ks : List Key} {ts : List Tr} : Tr.kids (.dc ks ts) = ts := rfl
@[simp] theorem e_kidsO {c : Str} {ns : List Str} {ts : List Tr} : Tr.kids (.ob c ns ts) = ts := rfl
@[simp] theorem e_subL {ts : List Tr} {n : Nat} {s : Tr} : Tr.sub (.ls ts) n s = .ls (ts.set n s) := rfl
@[simp] theorem e_subD {ks : List Key} {ts : List Tr} {n : Nat} {s : Tr} : Tr.sub (.dc ks ts) n s = .dc ks (ts.set n s) := rfl
@[simp] theorem e_subO {c : Str} {ns : List Str} {ts : List Tr} {n : Nat} {s : Tr} : Tr.sub (.ob c ns ts) n s = .ob c ns (ts.set n s) := rfl
@[simp] theorem e_putN {t s : Tr} : Tr.put [] t s = s := rfl
@[simp] theorem e_putC {n : Nat} {p : List Nat} {t s : Tr} : Tr.put (n :: p) t s = (match t.kids[n]? with
    | some u => t.sub n (Tr.put p u s)
    | none => t) := rfl
end L3

set_option Elab.async false
set_option linter.all false
set_option maxRecDepth 100000
set_option maxHeartbeats 1000000
namespace L3
open PySem PySem.Spec L2
/-! ### zip of two sequences, tuples or lists -/
section
variable {prog : Program} {w : World} {A : Around} {E : Value → Shared → Prop} {s : Shared}
end
end L3

set_option Elab.async false
set_option linter.all false
set_option maxRecDepth 100000
set_option maxHeartbeats 1000000
namespace L3
open PySem PySem.Spec L2
section
variable {prog : Program} {w : World} {A : Around} {E : Value → Shared → Prop} {s : Shared}
end
end L3

set_option Elab.async false
set_option linter.all false
set_option maxRecDepth 100000
set_option maxHeartbeats 1000000
namespace L3
open PySem PySem.Spec L2
/-! ### zip, walked -/
section
variable {X : Cx} {pins : List (Addr × Obj)} {σ : St} {H H' : Hp} {s : Shared} {h' : Heap}
end
end L3

set_option Elab.async false
set_option linter.all false
set_option maxRecDepth 100000
set_option maxHeartbeats 1000000
namespace L3
open PySem PySem.Spec L2
/-! ### zip(a, b) -/
section
variable {prog : Program} {w : World} {A : Around} {E : Value → Shared → Prop} {s : Shared}
end
end L3

set_option Elab.async false
set_option linter.all false
set_option maxRecDepth 100000
set_option maxHeartbeats 1000000
namespace L3
open PySem PySem.Spec L2
variable [L2.TabP]
/-! ### for a, b in zip(x, y) -/
def R.walk : R → Option (List D)
  | .v (.tup xs) => some xs
  | .v (.lst xs) => some xs
  | .fr xs => some xs
  | .vw xs => some xs
  | _ => none
def zipD (xs ys : List D) : List D := (xs.zip ys).map fun p => .tup [p.1, p.2]
def tupB (is : List Nat) (b : MS) : D → MS := fun d σ => match d with
  | .tup es => if es.length = is.length then b (setsD is es σ) else bad
  | _ => bad
def zipR : List R → Option (List D)
  | [x, y] => match x.walk, y.walk with
    | some xs, some ys => some (zipD xs ys)
    | _, _ => none
  | _ => none
def cForZ (is : List Nat) (ms : MA) (b : MS) : MS := fun σ => do
  let rs ← ms σ
  match zipR rs with
  | some ds => fLoop (tupB is b) ds σ
  | none => bad
omit [L2.TabP] in
@[simp] theorem e_forZ {is : List Nat} {ms : MA} {b : MS} {σ : En} : cForZ is ms b σ = (do
  let rs ← ms σ
  match zipR rs with
  | some ds => fLoop (tupB is b) ds σ
  | none => bad) := rfl
end L3

set_option Elab.async false
set_option linter.all false
set_option maxRecDepth 100000
set_option maxHeartbeats 1000000
namespace L3
open PySem PySem.Spec L2
variable [L2.TabP]
/-! ### isinstance(x, (A, B)) -/
section
variable {X : Cx}
end
end L3

set_option Elab.async false
set_option linter.all false
set_option maxRecDepth 100000
set_option maxHeartbeats 1000000
namespace L3
open PySem PySem.Spec L2 PyProof.Rows
variable [L2.TabP]
/-! ### a dict's length, its keys as a list -/
section
variable {X : Cx}
end
def fLenD : List R → M R
  | [.dv kvs] => pure (.v (.int kvs.length))
  | _ => bad
def fListD : List R → M R
  | [.dv kvs] => pure (.fr (kvs.map fun kv => kD kv.1))
  | _ => bad
omit [L2.TabP] in
@[simp] theorem e_lenD {kvs : List (Key × D)} : fLenD [.dv kvs] = pure (.v (.int kvs.length)) := rfl
omit [L2.TabP] in
@[simp] theorem e_listD {kvs : List (Key × D)} : fListD [.dv kvs] = pure (.fr (kvs.map fun kv => kD kv.1)) := rfl
end L3

set_option Elab.async false
set_option linter.all false
set_option maxRecDepth 100000
set_option maxHeartbeats 1000000
namespace L3
open PySem PySem.W PyProof.Rows
section
variable {prog : Program} {w : World} {A : Around} {E : Value → Shared → Prop} {s : Shared} {d it : Addr} {es : Array DictEntry} {ep : Nat}
end
end L3
namespace L3
open PySem PySem.Spec L2 PyProof.Rows
/-! ### a dict that is walked: known to the object meanwhile -/
end L3

set_option Elab.async false
set_option linter.all false
set_option maxRecDepth 100000
set_option maxHeartbeats 1000000
namespace L3
open PySem PySem.Spec L2 PyProof.Rows
variable [L2.TabP]
/-! ### [.. for k in d ..] of one's own dict d -/
section
variable {K : PySem.W.Frag} {mg : Str → Option Value} {O : Ow} {H : Hp} {l : Addr} {zs : List (Key × V)} {o : HO} {ob : Obj}
mutual
theorem Rep.updZ (hl : H l = some (.frz ob (.dK zs))) : ∀ {d : D} {v : V}, Rep K mg O H d v → Rep K mg O (upd H l o) d v
  | .non, _, h => h
  | .bl _, _, h => h
  | .int _, _, h => h
  | .str _, _, h => h
  | .tup _, _, h => by
    obtain ⟨a, ys, q, t, r⟩ := h
    refine ⟨a, ys, q, ?_, RepAll.updZ hl r⟩
    rcases t with (t | ⟨o, t⟩) | t
    · exact .inl (.inl (by rw [upd_ne (ne_of t hl (by intro z; cases z))]; exact t))
    · exact .inl (.inr ⟨o, by rw [upd_ne (ne_of t hl (by intro z; cases z))]; exact t⟩)
    · exact .inr t
  | .lst _, _, h => by
    obtain ⟨a, ys, q, t, r⟩ := h
    exact ⟨a, ys, q, ⟨by rw [upd_ne (ne_of t.1 hl (by intro z; cases z))]; exact t.1, t.2⟩, RepAll.updZ hl r⟩
  | .dic _ _, _, h => h
  | .fn _, _, h => h
  | .ty _, _, h => h
theorem RepAll.updZ (hl : H l = some (.frz ob (.dK zs))) : ∀ {ds : List D} {ys : List V}, RepAll K mg O H ds ys → RepAll K mg O (upd H l o) ds ys
  | [], _, h => h
  | _ :: _, _, h => by obtain ⟨x, r, q, a, b⟩ := h; exact ⟨x, r, q, Rep.updZ hl a, RepAll.updZ hl b⟩
end
end
def cCompD (j n : Nat) (cap : List Nat) (t : En → M Bool) (el : ME) : ME := fun σ => match σ[j]? with
  | some (.dct kvs) => do
    chk (kvs.length < sizeLine)
    let xs ← kLoop t el (cpEn n cap σ) (kvs.map fun kv => kD kv.1)
    pure (.fr xs)
  | _ => bad
section
variable {K : PySem.W.Frag} {mg : Str → Option Value} {n : Nat} {cap : List Nat} {t : En → M Bool} {el : ME} {j : Nat}
end
section
variable {X : Cx} {scope esc : Scope} {EN N : List Str} {n : Nat} {cap : List Nat} {elt : Expr} {ifs : List Expr} {pos tpos p : Pos} {x y : Str} {t : En → M Bool} {el : ME} {j : Nat}
end
end L3

set_option Elab.async false
set_option linter.all false
set_option maxRecDepth 100000
set_option maxHeartbeats 1000000
namespace L3
open PySem PySem.Spec L2 PyProof.Rows
variable [L2.TabP]
/-! ### [.. for a, b in zip(x, y) ..] -/
def kLoop2 (t : En → M Bool) (el : ME) (σ : En) : List (D × D) → M (List D)
  | [] => pure []
  | d :: ds => do
    let b ← t ((σ.set 0 (.val d.1)).set 1 (.val d.2))
    if b = true then do
      let r ← el ((σ.set 0 (.val d.1)).set 1 (.val d.2))
      let x ← r.dat
      let xs ← kLoop2 t el σ ds
      pure (x :: xs)
    else kLoop2 t el σ ds
def zipP : List R → Option (List (D × D))
  | [x, y] => match x.walk, y.walk with
    | some xs, some ys => some (xs.zip ys)
    | _, _ => none
  | _ => none
def cCompZ (cap : List Nat) (ms : MA) (t : En → M Bool) (el : ME) : ME := fun σ => do
  let rs ← ms σ
  match zipP rs with
  | some ds => do
    chk (ds.length < sizeLine)
    let xs ← kLoop2 t el (cpEn 2 cap σ) ds
    pure (.fr xs)
  | none => bad
inductive CompJ (K : PySem.W.Frag) (mg : Str → Option Value) (n : Nat) (cap : List Nat) (loop : Nat → M (List L3.D)) (O1 : Ow) (σ : En) (S' : Store) (σV : L2.St) (H1 : Hp) (A : Addr) (xs : List L3.D) (k : Nat) (zs : List V) (H' : Hp) : Prop
  | mk (O' : Ow) (S'' : Store) (acc xs' : List L3.D) (st' : S3 K mg O' (cpEn n cap σ) S'' (cpSt n cap σV) H') (s' : Same H1 H') (own' : ∀ b, H1 b ≠ none → O' b = blk O1 b) (tD : O' A = .tmp) (hH : H' A = some (.lst zs)) (hz : zs.length ≤ k)
      (rz : RepAll K mg O' H' acc zs) (h : (loop k).run S'' = .ok xs' S') (ex : acc ++ xs' = xs)
section
variable {X : Cx} {scope esc : Scope} {EN N : List Str} {cap : List Nat} {elt a b' : Expr} {ifs : List Expr} {pos tpos p cpos p1 p2 : Pos} {x y : Str} {t : En → M Bool} {el : ME} {ms : MA} {k : Nat}
end
omit [L2.TabP] in
@[simp] theorem e_compZ {cap : List Nat} {ms : MA} {t : En → M Bool} {el : ME} {σ : En} : cCompZ cap ms t el σ = (do
  let rs ← ms σ
  match zipP rs with
  | some ds => do
    chk (ds.length < sizeLine)
    let xs ← kLoop2 t el (cpEn 2 cap σ) ds
    pure (.fr xs)
  | none => bad) := rfl
end L3

set_option Elab.async false
set_option linter.all false
set_option maxRecDepth 100000
set_option maxHeartbeats 1000000
namespace L3
open PySem PySem.Spec L2 PyProof.Rows
/-! ### max(.., key = ..), the keys tuples of ints -/
def keyI (mf : MF) (d : D) : Option (List Int) := match (mf [d]).run [] with
  | .ok (.v (.tup ks)) [] => nums ks
  | _ => none
def maxGo (mf : MF) (b : D) (kb : List Int) : List D → Option D
  | [] => some b
  | d :: ds => match keyI mf d with
    | some kd => if lexGt kd kb = true then maxGo mf d kd ds else maxGo mf b kb ds
    | none => none
def maxAll (mf : MF) : List D → Option D
  | d :: ds => match keyI mf d with
    | some k => maxGo mf d k ds
    | none => none
  | [] => none
def fMaxK (mf : MF) (x : R) : M R := match x.lis with
  | some ds => match maxAll mf ds with
    | some r => if ds.length < 64 then pure (.v r) else bad
    | none => bad
  | none => bad
def cMaxK (mf : MF) (ma : ME) : ME := fun σ => do
  let x ← ma σ
  fMaxK mf x
variable [L2.TabP]
section
variable {X : Cx} {pins : List (Addr × Obj)} {σ : L2.St} {H : Hp} {s : Shared} {G : Hp → Prop} {mf : MF} {f S it l : Addr} {k : Nat} {O : Ow}
theorem next_item {H1 : Hp} {xs : List V} {v : V} {j : Nat} {E : Value → Shared → Prop} {A : Around} (I : Inv X pins σ H1 s) (hS : SqL X.K H1 l xs) (hv : xs[j]? = some v) (fp : FpOk X pins H1 it) (hit : s.heap.IsListIter it l j) (hh : A.handled = none) :
    wpAny (model X.prog X.w) A (pyNext (.ref it)) (fun r s1 => ∃ u, r = some u ∧ RelV v u ∧ Inv X pins σ H1 s1 ∧ s1.heap.IsListIter it l (j + 1)) E s := by
  obtain ⟨us, rv, pl, _⟩ := I.list hS
  have hl : s.heap.IsList l us.toArray := pl.isList
  have hne : l ≠ it := by
    rintro rfl
    obtain ⟨o, e, c, _⟩ := hit
    obtain ⟨o', e', c', _⟩ := hl
    rw [e] at e'; cases e'
    rw [c] at c'; injection c' with z; exact absurd z (by decide)
  obtain ⟨u, hu, ru⟩ := rv.get hv
  have W := Walks.list (prog := X.prog) (w := X.w) (A := A) hh it l hne us.toArray
  refine W.item j s _ _ (by have := (List.getElem?_eq_some_iff.mp hu).1; simpa using this) ⟨hit, hl⟩ fun u' h' tk' hP hst' hk' => ?_
  have e : some u' = some u := by rw [← hu]; simpa using hP.symm
  cases e
  obtain ⟨f0, f1, f2, f3, f4, f5⟩ := fp
  exact ⟨u, rfl, ru, I.turned (t' := tk') (fun b o hb e => hk' b o (by simpa using hb) e) f0 f1 f3 f4 f5, hst'.1⟩
theorem next_none {H1 : Hp} {xs : List V} {j : Nat} {E : Value → Shared → Prop} {A : Around} (I : Inv X pins σ H1 s) (hS : SqL X.K H1 l xs) (hv : j = xs.length) (fp : FpOk X pins H1 it) (hit : s.heap.IsListIter it l j) (hh : A.handled = none) :
    wpAny (model X.prog X.w) A (pyNext (.ref it)) (fun r s1 => r = none ∧ Inv X pins σ H1 s1) E s := by
  obtain ⟨us, rv, pl, _⟩ := I.list hS
  have hl : s.heap.IsList l us.toArray := pl.isList
  have hne : l ≠ it := by
    rintro rfl
    obtain ⟨o, e, c, _⟩ := hit
    obtain ⟨o', e', c', _⟩ := hl
    rw [e] at e'; cases e'
    rw [c] at c'; injection c' with z; exact absurd z (by decide)
  have W := Walks.list (prog := X.prog) (w := X.w) (A := A) hh it l hne us.toArray
  have ej : j = us.toArray.size := by rw [List.size_toArray, hv, rv.length]
  rw [ej] at hit
  refine W.done s _ _ ⟨hit, hl⟩ fun h' tk' hk' => ?_
  obtain ⟨f0, f1, f2, f3, f4, f5⟩ := fp
  exact ⟨rfl, I.turned (t' := tk') (fun b o hb e => hk' b o (by simpa using hb) e) f0 f1 f3 f4 f5⟩
/-- the best so far -/
structure BSt (X : Cx) (pins : List (Addr × Obj)) (σ : L2.St) (G : Hp → Prop) (O : Ow) (H : Hp) (S it l : Addr) (j : Nat) (d : D) (kb : List Int) (s' : Shared) : Prop where
  ex : ∃ O' H' v kv, Inv X pins σ H' s' ∧ Go O O' H H' ∧ Dom O' H' ∧ G H' ∧ H' S = some (.lst [v, kv]) ∧ Rep X.K X.mg O' H' d v ∧ Rep X.K X.mg O' H' (.tup (kb.map D.int)) kv ∧ O' S = .tmp ∧ FpOk X pins H' it ∧ s'.heap.IsListIter it l j
def MaxQ (X : Cx) (pins : List (Addr × Obj)) (σ : L2.St) (O : Ow) (H : Hp) (res : D) (u : Value) (s' : Shared) : Prop :=
  ∃ O' H' v, Inv X pins σ H' s' ∧ Go O O' H H' ∧ Dom O' H' ∧ Rep X.K X.mg O' H' res v ∧ RelV v u
theorem rep_nums {K : PySem.W.Frag} {mg : Str → Option Value} {O : Ow} {H : Hp} {ks : List D} {kb : List Int} {v : V} (r : Rep K mg O H (.tup ks) v) (e : nums ks = some kb) : Rep K mg O H (.tup (kb.map D.int)) v := by
  obtain ⟨a, ys, rfl, sq, ra⟩ := r
  have := nums_rep ra e
  subst this
  exact ⟨a, _, rfl, sq, repAll_ints kb⟩
theorem rep_tupInts {K : PySem.W.Frag} {mg : Str → Option Value} {O : Ow} {H : Hp} {kb : List Int} {v : V} (r : Rep K mg O H (.tup (kb.map D.int)) v) : ∃ a, v = .ref a ∧ SqT K H a (kb.map V.int) := by
  obtain ⟨a, ys, rfl, sq, ra⟩ := r
  have : ∀ (kb : List Int) (ys : List V), RepAll K mg O H (kb.map D.int) ys → ys = kb.map V.int := by
    intro kb
    induction kb with
    | nil => intro ys h; exact h
    | cons a t ih =>
      intro ys h
      obtain ⟨y, r, rfl, h1, h2⟩ := h
      rw [show y = V.int a from h1, ih _ h2]; rfl
  rw [this kb ys ra] at sq
  exact ⟨a, rfl, sq⟩

theorem vals2 {v kv : V} {its : List Value} (h : Vals [v, kv] its) : ∃ u ku, its = [u, ku] ∧ RelV v u ∧ RelV kv ku := by
  cases h with
  | cons r1 r2 => cases r2 with
    | cons r3 r4 => cases r4; exact ⟨_, _, rfl, r1, r3⟩
/-- the two put in -/
theorem best_put {H1 : Hp} {zs : List V} {its : List Value} {c0 : Nat} {v kv : V} {u ku : Value} (I : Inv X pins σ H1 s) (hS : H1 S = some (.lst zs)) (hget : s.heap.get? S = some (seqObj "list" its.toArray c0)) (rv : RelV v u) (rk : RelV kv ku) :
    Inv X pins σ (upd H1 S (.lst [v, kv])) { s with heap := s.heap.update S (Obj.mapSeq fun _ => #[u, ku]) } := by
  have s1 := Heap.SameBut.update s.heap S (Obj.mapSeq fun _ => #[u, ku])
  obtain ⟨c2, hc2⟩ : ∃ c2, (s.heap.update S (Obj.mapSeq fun _ => #[u, ku])).get? S = some (seqObj "list" #[u, ku] c2) := ⟨_, get?_update_seq hget fun _ => #[u, ku]⟩
  refine I.write (x := S) (e := S) (t' := s.toks) (by rw [hS]; trivial) (.inl rfl) (fun b o hb e => (s1.2 b hb).trans e) ⟨_, hc2⟩ ⟨by rw [sizeLine_eq]; simp, [u, ku], c2, .cons rv (.cons rk .nil), hc2⟩
theorem best_clear {H1 : Hp} {zs : List V} {its : List Value} {c0 : Nat} (I : Inv X pins σ H1 s) (hS : H1 S = some (.lst zs)) (hget : s.heap.get? S = some (seqObj "list" its.toArray c0)) :
    Inv X pins σ (upd H1 S (.lst [])) { s with heap := s.heap.update S (Obj.mapSeq fun _ => #[]) } := by
  have s1 := Heap.SameBut.update s.heap S (Obj.mapSeq fun _ => (#[] : Array Value))
  obtain ⟨c2, hc2⟩ : ∃ c2, (s.heap.update S (Obj.mapSeq fun _ => (#[] : Array Value))).get? S = some (seqObj "list" #[] c2) := ⟨_, get?_update_seq hget fun _ => #[]⟩
  refine I.write (x := S) (e := S) (t' := s.toks) (by rw [hS]; trivial) (.inl rfl) (fun b o hb e => (s1.2 b hb).trans e) ⟨_, hc2⟩ ⟨Nat.zero_le _, [], c2, .nil, hc2⟩
theorem iter_put {h : Heap} {g : Obj → Obj} {j : Nat} (hne : S ≠ it) (hit : h.IsListIter it l j) : (h.update S g).IsListIter it l j := by
  obtain ⟨oi, ei, ci, di⟩ := hit
  exact ⟨oi, ((Heap.SameBut.update h S g).2 it hne.symm).trans ei, ci, di⟩
theorem fpOk_put {H1 : Hp} {o : HO} (hne : S ≠ it) (fp : FpOk X pins H1 it) : FpOk X pins (upd H1 S o) it := ⟨by rw [upd_ne hne.symm]; exact fp.1, fp.2⟩

end
section
variable {X : Cx} {k : Nat} {e : Expr} {ma : ME} {p pos kp : Pos} {kx : Expr} {mf : MF} {G : Addr → Hp → Prop}
end
end L3

set_option Elab.async false
set_option linter.all false
set_option maxRecDepth 100000
set_option maxHeartbeats 1000000
namespace L3
open PySem PySem.Spec L2 PyProof.Rows
variable [L2.TabP]
/-! ### the same rules, shut -/
section
variable {X : Cx} {scope esc : Scope} {EN N : List Str} {n : Nat} {cap : List Nat} {elt : Expr} {ifs : List Expr} {pos tpos p : Pos} {x y : Str} {t : En → M Bool} {el : ME} {j : Nat}
end
section
variable {X : Cx} {scope esc : Scope} {EN N : List Str} {cap : List Nat} {elt a b' : Expr} {ifs : List Expr} {pos tpos p cpos p1 p2 : Pos} {x y : Str} {t : En → M Bool} {el : ME} {ms : MA} {k : Nat}
end
section
variable {X : Cx} {k : Nat} {e : Expr} {ma : ME} {p pos kp : Pos}
end
omit [L2.TabP] in
@[simp] theorem e_compD {j n : Nat} {cap : List Nat} {t : En → M Bool} {el : ME} {σ : En} : cCompD j n cap t el σ = (match σ[j]? with
  | some (.dct kvs) => do
    chk (kvs.length < sizeLine)
    let xs ← kLoop t el (cpEn n cap σ) (kvs.map fun kv => kD kv.1)
    pure (.fr xs)
  | _ => bad) := rfl
omit [L2.TabP] in
@[simp] theorem e_maxK {mf : MF} {ma : ME} {σ : En} : cMaxK mf ma σ = (do
  let x ← ma σ
  fMaxK mf x) := rfl
end L3

set_option Elab.async false
set_option linter.all false
set_option maxRecDepth 100000
set_option maxHeartbeats 1000000
namespace L3
open PySem PySem.Spec L2 PyProof.Rows
variable [L2.TabP]
/-! ### t[lo:hi] of a tuple, the whole too; t[::-1] -/
section
open HT
variable {prog : Program} {w : World} {A : Around} {E : Value → Shared → Prop} {s : Shared}
end
def oSlW (x : R) (lo hi : Option Int) : M R :=
  match x with
  | .v (.tup xs) => pure (.v (.tup (cutD xs lo hi)))
  | _ => bad
def cSlW (a : ME) (lo hi : MO) : ME := fun σ => do
  let x ← a σ
  let l ← lo σ
  let h ← hi σ
  oSlW x l h
section
variable {X : Cx} {e st : Expr} {m ms : ME} {lo hi : Option Expr} {ml mh : MO} {pos p2 : Pos}
/-- t[::-1] -/
def cRev (a : ME) (ms : MO) : ME := fun σ => do
  let x ← a σ
  let o ← ms σ
  match x, o with
  | .v (.tup xs), some i => if i = -1 then pure (.v (.tup xs.reverse)) else bad
  | _, _ => bad
end
end L3

set_option Elab.async false
set_option linter.all false
set_option maxRecDepth 100000
set_option maxHeartbeats 1000000
namespace L3
open PySem PySem.Spec L2 PyProof.Rows
variable [L2.TabP]
/-! ### sorted(..) of ints, some of them equal -/
section
variable {K : PySem.W.Frag} {mg : Str → Option Value} {O : Ow} {H : Hp}
end
/-- the ints in order -/
def srtI (ns : List Int) : List Int := ns.mergeSort fun a b => decide (a ≤ b)
end L3

set_option Elab.async false
set_option linter.all false
set_option maxRecDepth 100000
set_option maxHeartbeats 1000000
namespace L3
open PySem PySem.Spec L2 PyProof.Rows
variable [L2.TabP]
/-! ### str(..) of an int; sorted(..) of ints; len(set(..)) of ints -/
def fStrI : List R → M R
  | [.v (.int i)] => if i.natAbs.log2 < 1920 then pure (.v (.str (toString i))) else bad
  | _ => bad
def fSortI : List R → M R
  | [x] => match x.lis.bind nums with
    | some ns => if ns.length < 64 then pure (.fr ((srtI ns).map D.int)) else bad
    | none => bad
  | _ => bad
/-- how many there are -/
def dcnt (ns : List Int) : Nat := (ns.foldl step_dedup []).length
def cLenSet (m : ME) : ME := fun σ => do
  let x ← m σ
  match x.lis.bind nums with
  | some ns => if ns.length < 64 then pure (.v (.int (dcnt ns : Nat))) else bad
  | none => bad
section
variable {X : Cx} {e st : Expr} {m : ME} {lo hi : Option Expr} {ml mh mo : MO} {pos p2 p p' pos' : Pos}
end
omit [L2.TabP] in
@[simp] theorem e_slW {a : ME} {lo hi : MO} {σ : En} : cSlW a lo hi σ = (do
  let x ← a σ
  let l ← lo σ
  let h ← hi σ
  oSlW x l h) := rfl
omit [L2.TabP] in
@[simp] theorem e_slWt {xs : List D} {l h : Option Int} : oSlW (.v (.tup xs)) l h = pure (.v (.tup (cutD xs l h))) := rfl
omit [L2.TabP] in
@[simp] theorem e_rev {a : ME} {ms : MO} {σ : En} : cRev a ms σ = (do
  let x ← a σ
  let o ← ms σ
  match x, o with
  | .v (.tup xs), some i => if i = -1 then pure (.v (.tup xs.reverse)) else bad
  | _, _ => bad) := rfl
omit [L2.TabP] in
@[simp] theorem e_lenSet {m : ME} {σ : En} : cLenSet m σ = (do
  let x ← m σ
  match x.lis.bind nums with
  | some ns => if ns.length < 64 then pure (.v (.int (dcnt ns : Nat))) else bad
  | none => bad) := rfl
omit [L2.TabP] in
@[simp] theorem e_sortI {x : R} : fSortI [x] = (match x.lis.bind nums with
    | some ns => if ns.length < 64 then pure (.fr ((srtI ns).map D.int)) else bad
    | none => bad) := rfl
end L3

set_option Elab.async false
set_option linter.all false
set_option maxRecDepth 100000
set_option maxHeartbeats 1000000
namespace L3
open PySem PySem.Spec L2
/-! ### for k, x in enumerate(xs) -/
variable [L2.TabP]
def enuD (k : Nat) : List D → List D
  | [] => []
  | x :: xs => .tup [.int (k : Nat), x] :: enuD (k + 1) xs
def cForE (is : List Nat) (ms : MA) (b : MS) : MS := fun σ => do
  let rs ← ms σ
  match rs with
  | [.fr xs] => fLoop (tupB is b) (enuD 0 xs) σ
  | _ => bad
omit [L2.TabP] in
@[simp] theorem e_forE {is : List Nat} {ms : MA} {b : MS} {σ : En} : cForE is ms b σ = (do
  let rs ← ms σ
  match rs with
  | [.fr xs] => fLoop (tupB is b) (enuD 0 xs) σ
  | _ => bad) := rfl
end L3

set_option Elab.async false
set_option linter.all false
set_option maxRecDepth 100000
set_option maxHeartbeats 1000000
namespace L3
open PySem PySem.Spec L2 PyProof.Rows
variable [L2.TabP]
/-! ### k in d, d a dict of places -/
def cPIn (j : Nat) (mk : ME) : ME := fun σ => do
  let k ← mk σ
  match pdOf σ[j]?, k with
  | some kvs, .v kd => match unPl kd with
    | some p => pure (.v (.bl (pval kvs p).isSome))
    | none => bad
  | _, _ => bad
section
variable {X : Cx} {j : Nat} {x : Str} {i : Expr} {mk : ME} {p pos : Pos}
end
/-! ### a def that returns a new dict of places -/
abbrev MPD := List D → M (List (Pl × D))
def tsPd (K : PySem.W.Frag) (mg : Str → Option Value) (j : Nat) (m : MS) : TS := fun Dn σV H => ∃ O σ S σ' S' kvs, S3 K mg O σ S σV H ∧ (m σ).run S = .ok (.nx σ') S' ∧ σ'[j]? = some (.pd kvs) ∧ ∀ O' a xs H', Gs O O' H H' → Dom O' H' → S' = [] → O' a = .loc j → H' a = some (PD a xs) → PdOk a xs → RepPD K mg O' H' kvs xs → Dn.rt (.ref a) H'
abbrev CSp (X : Cx) (j : Nat) (sts : List Stmt) (m : MS) : Prop := PSs X sts (tsPd X.K X.mg j m)
/-- x = f(..), f such a def -/
def cPSet (i : Nat) (mf : MPD) (ms : MA) : MS := fun σ => do
  let rs ← ms σ
  let kvs ← mf (rs.map R.arg)
  pure (.nx (σ.set i (.pd kvs)))
/-! ### shut -/
section
variable (X : Cx)
structure WSp (j : Nat) (e : List Stmt) (m : MS) : Prop where
  un : CSp X j e m
end
omit [L2.TabP] in
@[simp] theorem e_pin {j : Nat} {mk : ME} {σ : En} : cPIn j mk σ = (do
  let k ← mk σ
  match pdOf σ[j]?, k with
  | some kvs, .v kd => match unPl kd with
    | some p => pure (.v (.bl (pval kvs p).isSome))
    | none => bad
  | _, _ => bad) := rfl
omit [L2.TabP] in
@[simp] theorem e_pset {i : Nat} {mf : MPD} {ms : MA} {σ : En} : cPSet i mf ms σ = (do
  let rs ← ms σ
  let kvs ← mf (rs.map R.arg)
  pure (.nx (σ.set i (.pd kvs)))) := rfl
end L3

set_option Elab.async false
set_option linter.all false
set_option maxRecDepth 100000
set_option maxHeartbeats 1000000
namespace L3
open PySem PySem.Spec L2
variable [L2.TabP]
/-! ### d in a list of plain data -/
def rInD (K : PySem.W.Frag) : R2 := fun x y H Q => ∃ d es, L2.Rep K H d x ∧ L2.Rep K H (.list es) y ∧ SeqAt.shaped d = true ∧ SeqAt.shaped (.list es) = true ∧ Q (.bl (es.any fun e => PyData.eqv e d)) H
omit [L2.TabP] in
theorem op_inD {X : Cx} (hu : X.A.units + 64 < cLine) : OpR X (compareOp .In) (rInD X.K) := by
  intro pins s σ H x y v u Q I rx ry h
  obtain ⟨d, es, a, b, sa, sb, q⟩ := h
  obtain ⟨as, ra⟩ := a.reads I rx
  obtain ⟨bs, rb⟩ := b.reads I ry
  have hc : PyData.canLayAll0 es = true := by simpa [PyData.canLay0] using SeqAt.canLay_of_shaped sb
  have hd := SeqAt.depth_of_shaped sb
  have hdd := SeqAt.depth_of_shaped sa
  refine SeqAt.in_list_reads rb ra hc (SeqAt.canLay_of_shaped sa) ?_ ⟨.bl _, H, I, rfl, q⟩
  have h1 : PyData.depth (.list es) = PyData.depthAll es + 1 := by simp [PyData.depth, Nat.add_comm]
  have : min (PyData.depthAll es) d.depth ≤ PyData.depthAll es := Nat.min_le_left _ _
  omega
def oInD (x y : R) : M R := match y.arg with
  | .lst es => if x.arg.gd 64 = true ∧ (D.lst es).gd 64 = true then pure (.v (.bl (es.any fun e => peq e x.arg))) else bad
  | _ => bad
theorem any_py {d : D} (hd : d.gd 64 = true) : ∀ {es : List D}, gdAll es 63 = true → (D.py.pys es).any (fun e => PyData.eqv e d.py) = es.any fun e => peq e d
  | [], _ => rfl
  | e :: es, h => by
    have h : (e.gd 63 && gdAll es 63) = true := h
    rw [Bool.and_eq_true] at h
    show (PyData.eqv e.py d.py || (D.py.pys es).any fun e => PyData.eqv e d.py) = (peq e d || es.any fun e => peq e d)
    rw [eqv_py e d 63 64 h.1 hd, any_py hd h.2]
theorem bInD {K : PySem.W.Frag} {mg : Str → Option Value} : Bin K mg (rInD K) oInD := fun O σ S σV H x y rx ry r' S' Q st hx hy h q => by
  unfold oInD at h
  split at h
  · rename_i es ey
    by_cases c : rx.arg.gd 64 = true ∧ (D.lst es).gd 64 = true
    · rw [if_pos c] at h
      cases h
      have hy' := R.arg_py (by rw [ey]; exact c.2) hy
      rw [ey] at hy'
      refine ⟨_, D.py.pys es, R.arg_py c.1 hx, hy', gd_shaped c.1, gd_shaped (a := .lst es) c.2, ?_⟩
      rw [any_py c.1 (show gdAll es 63 = true from c.2)]
      exact q O _ H (Go.refl _ _) st rfl trivial
    · rw [if_neg c] at h; cases h
  · cases h
end L3

set_option Elab.async false
set_option linter.all false
set_option maxRecDepth 100000
set_option maxHeartbeats 1000000
namespace L3
open PySem PySem.Spec L2
variable [L2.TabP]
/-! ### a list inside a tree, under a name of its own: x = t[k]; ..; all of it up to the block's end -/
def lvs : List Tr → Option (List D)
  | [] => some []
  | .lf d :: ts => (lvs ts).map (d :: ·)
  | _ :: _ => none
omit [L2.TabP] in
theorem lvs_eq : ∀ {ts : List Tr} {xs : List D}, lvs ts = some xs → ts = xs.map .lf
  | [], xs, h => by cases h; rfl
  | .lf d :: ts, xs, h => by
    unfold lvs at h
    cases e : lvs ts with
    | none => rw [e] at h; cases h
    | some ys => rw [e] at h; cases h; rw [lvs_eq e]; rfl
  | .ls _ :: _, _, h => by cases h
  | .dc _ _ :: _, _, h => by cases h
  | .ob _ _ _ :: _, _, h => by cases h
  | .any :: _, _, h => by cases h
  | .tp _ :: _, _, h => by cases h
omit [L2.TabP] in
theorem lvs_map : ∀ {xs : List D}, lvs (xs.map .lf) = some xs
  | [] => rfl
  | d :: xs => by show (lvs (xs.map .lf)).map (d :: ·) = _; rw [lvs_map]; rfl
def noV : Slot → Bool
  | .vd _ => false
  | .vp _ => false
  | _ => true
def borB (i : Nat) (x : Pt) (t0 : Tr) : Fl → M Fl
  | .nx σ' => (match σ'[i]?, σ'[x.i]? with
    | some (.ow true ys), some (.tr .view .any) => if σ'.all noV = true then pure (.nx ((σ'.set i .emp).set x.i (.tr .own (Tr.put x.p t0 (.ls (ys.map .lf)))))) else bad
    | _, _ => bad)
  | _ => bad
def cBor (i : Nat) (mp : MP) (b : MS) : MS := fun σ => do
  let x ← mp σ
  match x.t, σ[x.i]? with
  | .ls us, some (.tr .own t0) => (match lvs us with
    | some xs => if x.m = .own ∧ i ≠ x.i ∧ i < σ.length then (do
        let fl ← b ((σ.set x.i (.tr .view .any)).set i (.ow true xs))
        borB i x t0 fl) else bad
    | none => bad)
  | _, _ => bad
theorem treeAll_rep {K : PySem.W.Frag} {mg : Str → Option Value} {O : Ow} {H : Hp} {w : Own} {p : List Nat} : ∀ {xs : List D} {ys : List V} {n : Nat}, TreeAll K mg O H w p n (xs.map .lf) ys → RepAll K mg O H xs ys
  | [], _, _, h => h
  | _ :: _, _, _, h => by obtain ⟨y, r, e, a, b⟩ := h; exact ⟨y, r, e, a, treeAll_rep b⟩
noncomputable def borO (i j : Nat) (a : Addr) (O : Ow) : Ow := fun b => if b = a then .loc i else match O b with
  | .tr j' p => if j' = j then .out else .tr j' p
  | o => o
open Classical in
noncomputable def backO (j : Nat) (O O' : Ow) : Ow := fun b => if ∃ p, O b = .tr j p then O b else O' b
section
variable {K : PySem.W.Frag} {mg : Str → Option Value} {O O' : Ow} {H H' : Hp} {i j : Nat} {a : Addr} {p : List Nat}
omit [L2.TabP] in
theorem borO_ne (ho : O a = .tr j p) {b : Addr} {o : Own} (h : O b = o) (hn : ∀ q, o ≠ .tr j q) : borO i j a O b = o := by
  unfold borO
  rw [if_neg (by rintro rfl; exact hn p (h.symm.trans ho))]
  rw [h]
  cases o with
  | tr j' q => exact if_neg (by rintro rfl; exact hn q rfl)
  | _ => rfl
omit [L2.TabP] in
theorem borO_tr {b : Addr} {q : List Nat} (h : O b = .tr j q) (hn : b ≠ a) : borO i j a O b = .out := by
  unfold borO
  rw [if_neg hn, h]
  exact if_pos rfl
omit [L2.TabP] in
theorem borO_at : borO i j a O a = .loc i := if_pos rfl
theorem bor_gs (ho : O a = .tr j p) (g : Gs (borO i j a O) O' H H') : Gs O (backO j O O') H H' := by
  refine ⟨fun b o e h n => g.cells b o e ?_ n, fun b hb f => ?_, g.has, g.tb, g.gd⟩
  · rcases h with h | h | h
    · exact .inl (borO_ne ho h fun q z => by cases z)
    · exact .inr (.inl (borO_ne ho h fun q z => by cases z))
    · exact .inr (.inr h)
  · have nt : ¬ ∃ p, O b = .tr j p := by rintro ⟨p, z⟩; rcases f with f | f <;> rw [f] at z <;> cases z
    have e : borO i j a O b = O b := by rcases f with f | f <;> rw [f] <;> exact borO_ne ho f fun q z => by cases z
    unfold backO
    rw [if_neg nt, g.own b hb (by rw [e]; exact f), e]
theorem SlotR.back {w : Own} (g : Fre O O') (hw : ∀ a, O a = w → O' a = w) (ht : ∀ a p, O a = w.at p → O' a = w.at p) {s : Slot} (h1 : ∀ xs, s ≠ .vw xs) (h2 : noV s = true) (h3 : ∀ t, s ≠ .tr .view t) {u : Option V} (h : SlotR K mg O H w s u) : SlotR K mg O' H w s u := by
  cases s with
  | emp => trivial
  | val _ => obtain ⟨v, q, r⟩ := h; exact ⟨v, q, r.fre g⟩
  | ow _ _ => obtain ⟨a, ys, q, o, l, r⟩ := h; exact ⟨a, ys, q, hw a o, l, r.fre g⟩
  | vw _ => exact absurd rfl (h1 _)
  | dct _ => obtain ⟨a, ys, q, o, l, r⟩ := h; exact ⟨a, ys, q, hw a o, l, r.fre g⟩
  | vd _ => cases h2
  | pd _ => obtain ⟨a, ys, q, o, l, r⟩ := h; exact ⟨a, ys, q, hw a o, l, r.1, r.2.fre g⟩
  | vp _ => cases h2
  | tr m _ =>
    obtain ⟨v, q, r⟩ := h
    refine ⟨v, q, r.all (fun _ _ z => Rep.fre g z) fun a _ p o l _ => ⟨?_, l⟩⟩
    cases m with
    | view => exact absurd rfl (h3 _)
    | own => exact ht a p o
    | par => exact ht a p o
end
theorem set_ne2 {α : Type} {l : List α} {i j k : Nat} {x y : α} (h1 : i ≠ k) (h2 : j ≠ k) : ((l.set j x).set i y)[k]? = l[k]? := by
  rw [List.getElem?_set_ne h1, List.getElem?_set_ne h2]
omit [L2.TabP] in
@[simp] theorem e_cBor {i : Nat} {mp : MP} {b : MS} {σ : En} : cBor i mp b σ = (do
  let x ← mp σ
  match x.t, σ[x.i]? with
  | .ls us, some (.tr .own t0) => (match lvs us with
    | some xs => if x.m = .own ∧ i ≠ x.i ∧ i < σ.length then (do
        let fl ← b ((σ.set x.i (.tr .view .any)).set i (.ow true xs))
        borB i x t0 fl) else bad
    | none => bad)
  | _, _ => bad) := rfl
end L3

set_option Elab.async false
set_option linter.all false
set_option maxRecDepth 100000
set_option maxHeartbeats 1000000
namespace L3
open PySem PySem.Spec L2 PyProof.Rows PySem.W
/-! ### sorted(..) of rows (epoch, stamp, ..), no two of one place -/
section
variable {prog : Program} {w : World} {A : Around} {s : Shared} {E : Value → Shared → Prop}
end
section
variable [L2.TabP] {X : Cx} {pins : List (Addr × Obj)} {σ : L2.St} {H : Hp} {s : Shared} {A : Around} {E : Value → Shared → Prop} {O : Ow} {Q : VK}
end
variable [L2.TabP]
end L3

set_option Elab.async false
set_option linter.all false
set_option maxRecDepth 100000
set_option maxHeartbeats 1000000
namespace L3
open PySem PySem.Spec L2
variable [L2.TabP]
/-! ### trees with tuples in them, dicts with numbers as keys -/
def vTup (ms : MTs) : MT := fun σ => do
  let ts ← ms σ
  chk (ts.length ≤ 1000)
  pure (.tp ts)
def keyIx (ks : List Key) (i : Int) : Option Nat := ks.findIdx? fun k => decide (k = .inl i)
omit [L2.TabP] in
theorem keyIx_get {ks : List Key} {i : Int} {n : Nat} (h : keyIx ks i = some n) : ks[n]? = some (.inl i) := by
  obtain ⟨h1, h2, _⟩ := List.findIdx?_eq_some_iff_getElem.mp h
  rw [List.getElem?_eq_getElem h1]
  exact congrArg some (of_decide_eq_true h2)
def pDi (m : MP) (mk : ME) : MP := fun σ => do
  let x ← m σ
  let k ← mk σ
  match x.t, k with
  | .dc ks ts, .v (.int i) => (match keyIx ks i with
    | some n => kidM ts n (Pt.mk x.i (x.p ++ [n]) x.m)
    | none => bad)
  | _, _ => bad
def pIt (m : MP) (mk : ME) : MP := fun σ => do
  let x ← m σ
  let k ← mk σ
  match x.t, k with
  | .tp ts, .v (.int j) => if 0 ≤ j then kidM ts j.toNat (Pt.mk x.i (x.p ++ [j.toNat]) x.m) else bad
  | _, _ => bad
section
variable {X : Cx} {e k : Expr} {es : List Expr} {m : MP} {mk : ME} {mt : MT} {ms : MTs} {pos : Pos} {j : Nat} {p : List Nat} {n : Nat}
theorem cv_tup {x1} (h : CVs X j p 0 es ms) : CV X j p (.Tuple es x1 pos) (vTup ms) := pe_imp (pe_tup h) fun σV H Q ⟨O, σ, S, t, S', st, h, q⟩ => by
  obtain ⟨ts, S1, h1, h⟩ := M.inv h
  obtain ⟨_, S2, h2, h⟩ := M.inv h
  obtain ⟨hl, rfl⟩ := chk_inv h2
  cases h
  refine ⟨O, σ, S, ts, _, st, h1, fun O1 vs H1 g1 st1 ta => ⟨Nat.le_of_lt (small1000 (by rw [ta.len]; exact hl)), fun a ha => ?_⟩⟩
  exact q (updO O1 a (.tr j p)) _ _ (g1.trans (Go.new ha)) (st1.new ha) ⟨a, vs, rfl, updO_same, upd_same, ta.go (Go.new ha)⟩
theorem cd_consI {key : Int} {i : Nat} {p0 : Pos} {v : Expr} {keys : List (Option Expr)} {values : List Expr} {ks : List Key} (hv : CV X j (p ++ [n]) v mt) (hr : CD X pos j p (n + 1) keys values ks ms) :
    CD X pos j p n (some (.Constant (.int key) i p0) :: keys) (v :: values) (.inl key :: ks) (vCons mt ms) := by
  obtain ⟨trs, h1, h2⟩ := hr.ex
  refine ⟨_, pps_cons pe_int hv h1, fun σV H Q ⟨O, σ, S, r, S', st, h, q⟩ => ?_⟩
  obtain ⟨t, S1, e1, h⟩ := M.inv h
  obtain ⟨ts, S2, e2, h⟩ := M.inv h
  cases h
  show tvOf _ _ _ _ _ σV H fun y H2 => tPairs trs σV H2 fun ps H3 => Q ((V.int key, y) :: ps) H3
  refine ⟨O, σ, S, t, S1, st, e1, fun O1 y H1 g1 st1 tr => h2 _ _ _ ?_⟩
  exact ⟨O1, σ, S1, ts, _, st1, e2, fun O2 vs H2 g2 st2 ta => q O2 (y :: vs) H2 (g1.trans g2) st2 ⟨y, vs, rfl, tr.go g2, ta⟩⟩
theorem cp_di (hu : X.A.units + 64 < cLine) (he : CP X e m) (hk : CE X k mk) (hs : NoSl k := by exact fun _ _ => rfl) : CP X (.Subscript e k pos) (pDi m mk) := pe_imp (pe_dget (by omega) he hk hs) fun σV H Q ⟨O, σ, S, r, S', st, h, q⟩ => by
  obtain ⟨x, S1, h1, h⟩ := M.inv h
  obtain ⟨kr, S2, h2, h⟩ := M.inv h
  split at h
  · rename_i ks ts i et
    split at h
    · rename_i n en
      have c := keyIx_get en
      unfold kidM at h
      split at h
      · rename_i s es
        cases h
        refine ⟨O, σ, S, x, S1, st, h1, fun O1 v H1 g1 st1 pr => ?_⟩
        refine ⟨O1, σ, S1, _, _, st1, h2, fun O2 vk H2 g2 st2 rk nk => ?_⟩
        have pr2 := pr.go g2
        have tr := pr2.tree st2
        rw [et] at tr
        obtain ⟨a, ys, ev, o, l, hq, r⟩ := tr
        subst ev
        obtain ⟨y, ey, _⟩ := r.get es
        cases (show vk = .int i from rk)
        refine ⟨a, y, rfl, ?_, q O2 y H2 (g1.trans g2) st2 (pr2.kid (by rw [et]; exact es) (by unfold kidV; rw [l]; exact zip_get hq.1 ey))⟩
        have := DGet.k (k := Sum.inl i) l
        rw [show valV (ks.zip ys) (Sum.inl i) = some y from zip_find hq.2 c ey] at this
        exact this
      · cases h
    · cases h
  · cases h
theorem cp_it (he : CP X e m) (hk : CE X k mk) (hs : PlainIx k) : CP X (.Subscript e k pos) (pIt m mk) := pe_imp (pe_ix ix_seq he hk hs) fun σV H Q ⟨O, σ, S, r, S', st, h, q⟩ => by
  obtain ⟨x, S1, h1, h⟩ := M.inv h
  obtain ⟨kr, S2, h2, h⟩ := M.inv h
  split at h
  · rename_i ts j et
    by_cases c : 0 ≤ j
    · rw [if_pos c] at h
      unfold kidM at h
      split at h
      · rename_i s es
        cases h
        refine ⟨O, σ, S, x, S1, st, h1, fun O1 v H1 g1 st1 pr => ?_⟩
        refine ⟨O1, σ, S1, _, _, st1, h2, fun O2 vk H2 g2 st2 rk nk => ?_⟩
        have pr2 := pr.go g2
        have tr := pr2.tree st2
        rw [et] at tr
        obtain ⟨a, ys, ev, o, l, r⟩ := tr
        subst ev
        obtain ⟨y, ey, _⟩ := r.get es
        cases (show vk = .int j from rk)
        have ej : ((j.toNat : Nat) : Int) = j := Int.toNat_of_nonneg c
        exact .inr (.inl ⟨a, ys, j, y, rfl, rfl, SqT.of l, by rw [← ej]; exact atI_nat ey, q O2 y H2 (g1.trans g2) st2 (pr2.kid (by rw [et]; exact es) (by unfold kidV; rw [l]; exact ey))⟩)
      · cases h
    · rw [if_neg c] at h; cases h
  · cases h
theorem wv_tup {x1} (h : WVs X j p 0 es ms) : WV X j p (.Tuple es x1 pos) (vTup ms) := ⟨cv_tup h.un⟩
theorem wd_consI {key : Int} {i : Nat} {p0 : Pos} {v : Expr} {keys : List (Option Expr)} {values : List Expr} {ks : List Key} (hv : WV X j (p ++ [n]) v mt) (hr : CD X pos j p (n + 1) keys values ks ms) :
    CD X pos j p n (some (.Constant (.int key) i p0) :: keys) (v :: values) (.inl key :: ks) (vCons mt ms) := cd_consI hv.un hr
theorem wp_di (hu : X.A.units + 64 < cLine) (he : WP X e m) (hk : WE X k mk) (hs : NoSl k := by exact fun _ _ => rfl) : WP X (.Subscript e k pos) (pDi m mk) := ⟨cp_di hu he.un hk.un hs⟩
theorem wp_it (he : WP X e m) (hk : WE X k mk) (hs : PlainIx k) : WP X (.Subscript e k pos) (pIt m mk) := ⟨cp_it he.un hk.un hs⟩
end
end L3

set_option Elab.async false
set_option linter.all false
set_option maxRecDepth 100000
set_option maxHeartbeats 1000000
namespace L3
open PySem PySem.Spec L2
variable [L2.TabP]
/-! ### bodies whose returns keep the names' slots: defs that change a tree and tell something -/
inductive Fq where
  | nx (σ : En) | rt (d : D) (σ : En)
abbrev MSq := En → M Fq
def PoQ (K : PySem.W.Frag) (mg : Str → Option Value) (O : Ow) (σ : En) (S' : Store) (σV : St) (H : Hp) (f : Fq) (Dn : Ends) : Prop := match f with
  | .nx σ' => PoN K mg O σ S' σV H σ' Dn.nx
  | .rt d σ' => ∀ O' σV' H' v, Gs O O' H H' → S3 K mg O' σ' S' σV' H' → Kp σ σ' σV σV' → Rep K mg O' H' d v → Dn.rt v H'
theorem PoQ.gs {K : PySem.W.Frag} {mg : Str → Option Value} {O O1 : Ow} {σ σ1 : En} {S' : Store} {σV σV1 : St} {H H1 : Hp} {f : Fq} {Dn : Ends} (h : PoQ K mg O σ S' σV H f Dn) (g : Gs O O1 H H1) (k : Kp σ σ1 σV σV1) : PoQ K mg O1 σ1 S' σV1 H1 f Dn := by
  cases f with
  | nx σ' => exact PoN.gs h g k
  | rt d σ' => exact fun O' σV' H' v g' st k' r => h O' σV' H' v (g.trans g') st (k.trans k') r
def tqOf (K : PySem.W.Frag) (mg : Str → Option Value) (m : MSq) : TS := fun Dn σV H => ∃ O σ S f S', S3 K mg O σ S σV H ∧ (m σ).run S = .ok f S' ∧ PoQ K mg O σ S' σV H f Dn
abbrev CQ (X : Cx) (st : Stmt) (m : MSq) : Prop := PS X st (tqOf X.K X.mg m)
abbrev CQs (X : Cx) (sts : List Stmt) (m : MSq) : Prop := PSs X sts (tqOf X.K X.mg m)
def qOf (a : MS) : MSq := fun σ => do
  let fl ← a σ
  match fl with
  | .nx σ' => pure (.nx σ')
  | _ => bad
def qRet (m : ME) : MSq := fun σ => do
  let r ← m σ
  let d ← r.dat
  pure (.rt d σ)
def qIf (t : En → M Bool) (a b : MSq) : MSq := fun σ => do
  let t ← t σ
  if t = true then a σ else b σ
def qPass : MSq := fun σ => pure (.nx σ)
def qSeq (a b : MSq) : MSq := fun σ => do
  let f ← a σ
  match f with
  | .nx σ' => b σ'
  | f => pure f
section
variable {X : Cx} {st : Stmt} {rest : List Stmt} {pos : Pos} {a b : MSq}
theorem cq_of {m : MS} (h : CS X st m) : CQ X st (qOf m) := ps_imp h fun D σV H ⟨O, σ, S, fl, S', s3, h, q⟩ => by
  obtain ⟨f, S1, h1, h⟩ := M.inv h
  refine ⟨O, σ, S, f, S1, s3, h1, ?_⟩
  cases f with
  | nx σ' => cases h; exact q
  | bk _ => cases h
  | ct σ' => cases h
  | rt r => cases h
theorem cq_ret {e : Expr} {m : ME} (he : CE X e m) : CQ X (.Return (some e) pos) (qRet m) := ps_imp (ps_ret he) fun D σV H ⟨O, σ, S, f, S', st, h, q⟩ => by
  obtain ⟨r, S1, h1, h⟩ := M.inv h
  obtain ⟨d, S2, h2, h⟩ := M.inv h
  cases h
  refine ⟨O, σ, S, r, S1, st, h1, fun O1 v H1 g1 st1 rr nn => ?_⟩
  obtain ⟨rd, rfl⟩ := dat_rep (H₀ := H) rr nn h2
  exact q (frz H O1) σV H1 v g1.frz.gs (st1.frz H) (Kp.refl _ _) rd
theorem cq_if {c : Expr} {A B : List Stmt} {t : En → M Bool} (hc : CT X c t) (ha : CQs X A a) (hb : CQs X B b) : CQ X (.If c A B pos) (qIf t a b) := ps_imp (ps_if hc ha hb) fun D σV H ⟨O, σ, S, fl, S', st, h, q⟩ => by
  obtain ⟨t, S1, h1, h⟩ := M.inv h
  refine ⟨O, σ, S, t, S1, st, h1, fun O1 H1 g1 st1 => ?_⟩
  cases t with
  | false =>
    rw [if_neg Bool.false_ne_true] at h
    exact iteF ⟨O1, σ, S1, fl, S', st1, h, q.gs g1.gs (Kp.refl _ _)⟩
  | true =>
    rw [if_pos rfl] at h
    exact iteT ⟨O1, σ, S1, fl, S', st1, h, q.gs g1.gs (Kp.refl _ _)⟩
theorem cqs_nil : CQs X [] qPass := pss_imp pss_nil fun D σV H ⟨O, σ, S, fl, S', st, h, q⟩ => by cases h; exact q O σV H (Gs.refl _ _) st (Kp.refl _ _)
theorem cqs_one (h : CQ X st a) : CQs X [st] a := pss_one h
theorem cqs_cons (h1 : CQ X st a) (h2 : CQs X rest b) : CQs X (st :: rest) (qSeq a b) := pss_imp (pss_cons h1 h2) fun D σV H ⟨O, σ, S, fl, S', st, h, q⟩ => by
  obtain ⟨f1, S1, h1, h⟩ := M.inv h
  refine ⟨O, σ, S, f1, S1, st, h1, ?_⟩
  cases f1 with
  | nx σ1 => exact fun O1 σV1 H1 g1 st1 k1 => ⟨O1, σ1, S1, fl, S', st1, h, q.gs g1 k1⟩
  | rt d σ1 => cases h; exact q
end
abbrev MTB := List Tr → List D → M (D × List Tr)
def fnTB (nt n N : Nat) (b : MSq) : MTB := fun ts ds => if ts.length = nt ∧ nt + ds.length = n then do
    let fl ← b (ts.map (.tr .par) ++ ds.map .val ++ List.replicate (N - n) .emp)
    match fl with
    | .rt d σ' => do
      let ts' ← trEnd nt σ'
      pure (d, ts')
    | _ => bad
  else bad
def spTB (K : PySem.W.Frag) (mg : Str → Option Value) (mf : MTB) : Sp := fun vs H Q _ => ∃ O ws ts ds us us' rd ts' S', vs = us ++ us' ∧ Dom O H ∧ (ts.length = ws.length ∧ us.length = ws.length) ∧ (ws.map (·.1)).Nodup ∧ Roots K mg O H ws ts us ∧ RepAll K mg O H ds us' ∧
  (mf ts ds).run [] = .ok (rd, ts') S' ∧ ∀ O' v H', GoT (Un ws) O O' H H' → Dom O' H' → S' = [] → ts'.length = ws.length → Roots K mg O' H' ws ts' us → Rep K mg O' H' rd v → Q v H'
theorem tb_ok {P : Program} {w : World} {K : PySem.W.Frag} {mg : Str → Option Value} {base : Heap} {x qual : Str} {st : Stmt} {ps N : List Str} {k : Nat} {mb : MSq} {f : Addr} {fd : FuncData} {nt n nl : Nat} (F : Fun K x qual st f fd) (Sc : FnScope N ps (defScope st)) (hn : ps.length = n) (hl : N.length = nl)
    (hb : ∀ (cdv : Value) (A : Around) (outer : List Env) (s : Shared) (H : Hp) (E : XK), Room k (A.deeper (PyProof.Rows.envOfC qual (defScope st) s.heap.objs.size f cdv)) →
      CQs (cxOf CX0 P w K mg base N qual (defScope st) f cdv A outer s H E).nox (defBody st) mb) : FnOk P w K mg base CX0 (k + 1) f fd ps (spTB K mg (fnTB nt n nl mb)) := by
  subst hn hl
  have flen : ∀ {ts : List Tr} {ds : List D} {ts' : D × List Tr} {S S' : Store}, (fnTB nt ps.length N.length mb ts ds).run S = .ok ts' S' → ts.length = nt ∧ nt + ds.length = ps.length := fun {ts ds ts' S S'} h => by
    unfold fnTB at h
    by_cases c : ts.length = nt ∧ nt + ds.length = ps.length
    · exact c
    · rw [if_neg c] at h; cases h
  refine F.ok Sc ?_ ?_
  · rintro vs H Q E ⟨O, ws, ts, ds, us, us', rd, ts', S', rfl, dm, hl, nd, rt, ra, h, q⟩
    have := flen h
    rw [List.length_append, ra.len]; omega
  rintro cdv A outer s H vs Q E hr ⟨O, ws, ts, ds, us, us', rd, ts', S', rfl, dm, ⟨hl1, hl2⟩, nd, rt, ra, h, q⟩
  refine ⟨_, hb cdv A outer s H E hr, ?_⟩
  obtain ⟨c1, c2⟩ := flen h
  have hlu := ra.len
  unfold fnTB at h
  rw [if_pos ⟨c1, c2⟩] at h
  obtain ⟨fl, S1, h1, h⟩ := M.inv h
  have st0 : S3 K mg (inO ws O) (ts.map (.tr .par) ++ ds.map .val ++ List.replicate (N.length - ps.length) .emp) [] (L2.start N (us ++ us')) H := by
    refine ⟨⟨fun b hb => dm.has b fun z => hb (inO_free.mpr z), dm.tabs⟩, ?_, fun j s e => ?_, rfl⟩
    · unfold L2.start
      simp only [List.length_append, List.length_map, List.length_replicate]
      omega
    · unfold L2.start
      rw [List.append_assoc] at e
      by_cases hj : j < ts.length
      · rw [List.getElem?_append_left (by rw [List.length_map]; exact hj), List.getElem?_map] at e
        have hw : ws[j]? = some ws[j] := List.getElem?_eq_getElem _
        obtain ⟨t, u, et, eu, tr⟩ := rt j _ hw
        rw [et] at e
        cases e
        have ev : ((us ++ us').map some ++ List.replicate (N.length - (us ++ us').length) none)[j]? = some (some u) := by
          rw [List.getElem?_append_left (by simp only [List.length_map, List.length_append]; omega), List.getElem?_map, List.getElem?_append_left (by omega), eu]
          rfl
        refine ⟨u, by rw [ev]; rfl, TreeR.allP (fun _ _ z => Rep.fre inO_fre z) t (fun b u r ob hb _ => ⟨?_, hb⟩) tr⟩
        show inO ws O b = .tr j ([] ++ r)
        unfold inO
        have ob : O b = .tr ws[j].1 (ws[j].2 ++ r) := ob
        rw [ob]
        have := look_at (k := 0) (r := r) nd hw
        rw [Nat.zero_add] at this
        exact this
      · rw [List.getElem?_append_right (by rw [List.length_map]; omega), List.length_map] at e
        by_cases hj2 : j - ts.length < ds.length
        · rw [List.getElem?_append_left (by rw [List.length_map]; exact hj2), List.getElem?_map] at e
          cases ed : ds[j - ts.length]? with
          | none => rw [ed] at e; cases e
          | some d =>
            rw [ed] at e
            cases e
            obtain ⟨v, ev, rv⟩ := ra.get ed
            have ev' : ((us ++ us').map some ++ List.replicate (N.length - (us ++ us').length) none)[j]? = some (some v) := by
              rw [List.getElem?_append_left (by simp only [List.length_map, List.length_append]; omega), List.getElem?_map, List.getElem?_append_right (by omega), show us.length = ts.length by omega, ev]
              rfl
            exact ⟨v, by rw [ev']; rfl, rv.fre inO_fre⟩
        · rw [List.getElem?_append_right (by rw [List.length_map]; omega), List.getElem?_replicate] at e
          split at e
          · cases e; exact trivial
          · cases e
  have fin : ∀ {σ' : En}, (trEnd nt σ').run S1 = .ok ts' S' → ∀ O' σV' H' v, Gs (inO ws O) O' H H' → S3 K mg O' σ' S1 σV' H' → Kp (ts.map (.tr .par) ++ ds.map .val ++ List.replicate (N.length - ps.length) .emp) σ' (L2.start N (us ++ us')) σV' → Rep K mg O' H' rd v → Q v H' := fun {σ'} h O' σV' H' v g st' kp rv => by
    obtain ⟨ts2, S2, h2, h⟩ := M.inv h
    obtain ⟨_, S3', h3, h⟩ := M.inv h
    obtain ⟨hnt, rfl⟩ := chk_inv h3
    cases h
    obtain ⟨tl, tk⟩ := trs_len h2
    have eS : S1 = S' := by
      have : ∀ {ss : List Slot} {ts : List Tr} {S S' : Store}, (trsOf ss).run S = .ok ts S' → S = S' := by
        intro ss
        induction ss with
        | nil => intro ts S S' h; cases h; rfl
        | cons s r ih =>
          intro ts S S' h
          cases s with
          | tr m t =>
            cases m with
            | par => obtain ⟨ts', S1, h1, h⟩ := M.inv h; cases h; exact ih h1
            | own => cases h
            | view => cases h
          | _ => cases h
      exact this h2
    subst eS
    have o2o : ∀ {b : Addr}, H b ≠ none → ¬ WOw (Un ws) (O b) → bkO ws H O O' b = O b := fun a b => if_pos ⟨a, b⟩
    have o2n : ∀ {b : Addr}, ¬ (H b ≠ none ∧ ¬ WOw (Un ws) (O b)) → bkO ws H O O' b = outO ws H O O' b := fun a => if_neg a
    have old : ∀ {b : Addr}, H b ≠ none → ¬ WOw (Un ws) (O b) → O' b = inO ws O b := fun {b} hb hw => g.own b hb (inO_un hw)
    have fre : Fre O' (bkO ws H O O') := ⟨fun b hb => by
      by_cases c : H b ≠ none ∧ ¬ WOw (Un ws) (O b)
      · rw [o2o c.1 c.2]; exact inO_free.mp ((old c.1 c.2).symm.trans hb)
      · rw [o2n c]; unfold outO; rw [hb]⟩
    refine q (bkO ws H O O') v H' ⟨fun b o e h n => ?_, fun b hb hw => o2o hb hw, g.has, g.tb, g.gd⟩ ⟨fun b hb => ?_, st'.dom.tabs⟩ st'.emp ?_ (fun k r hw => ?_) (rv.fre fre)
    · rcases h with h | h
      · exact g.cells b o e ((inO_un h).elim .inl fun z => .inr (.inl z)) n
      · exact g.cells b o e (.inr (.inr h)) n
    · by_cases c : H b ≠ none ∧ ¬ WOw (Un ws) (O b)
      · exact g.has b c.1
      · rw [o2n c] at hb
        refine st'.dom.has b fun z => hb ?_
        unfold outO
        rw [z]
    · omega
    · have hk : k < ws.length := (List.getElem?_eq_some_iff.mp hw).1
      have hkt : k < ts'.length := by omega
      obtain ⟨t0, u, et0, eu, _⟩ := rt k r hw
      have et : ts'[k]? = some ts'[k] := List.getElem?_eq_getElem _
      have es := tk k _ et
      have es' : σ'[k]? = some (.tr .par ts'[k]) := by
        rw [List.getElem?_take_of_lt (by omega)] at es
        exact es
      obtain ⟨_, ev⟩ := kp.2.2 k .par _ es' (by intro z; cases z)
      have ev0 : (L2.start N (us ++ us'))[k]? = some (some u) := by
        unfold L2.start
        rw [List.getElem?_append_left (by simp only [List.length_map, List.length_append]; omega), List.getElem?_map, List.getElem?_append_left (by omega), eu]
        rfl
      obtain ⟨v, e1, tr⟩ := st'.loc k _ es'
      rw [ev, ev0] at e1
      cases e1
      refine ⟨_, u, et, eu, TreeR.allP (fun _ _ z => Rep.fre fre z) _ (fun b o q ob hb _ => ⟨?_, hb⟩) tr⟩
      have ob : O' b = .tr k q := ob
      have c : ¬ (H b ≠ none ∧ ¬ WOw (Un ws) (O b)) := fun c => by
        have := old c.1 c.2
        rw [ob] at this
        rcases inO_un c.2 with z | z <;> rw [z] at this <;> cases this
      rw [o2n c]
      unfold outO
      rw [ob]
      dsimp only
      rw [hw]
      rfl
  refine ⟨inO ws O, _, [], fl, S1, st0, h1, ?_⟩
  cases fl with
  | nx σ' => cases h
  | rt d σ' =>
    obtain ⟨ts2, S2, h2, h⟩ := M.inv h
    cases h
    exact fin h2
theorem has_tb {P : Program} {w : World} {K : PySem.W.Frag} {mg : Str → Option Value} {base : Heap} {x : Str} {st : Stmt} {ps N : List Str} {k : Nat} {mb : MSq} {nt n nl : Nat} (Df : Df K mg x st ps) (Sc : FnScope N ps (defScope st)) (hn : ps.length = n) (hl : N.length = nl)
    (hb : ∀ (f : Addr) (cdv : Value) (A : Around) (outer : List Env) (s : Shared) (H : Hp) (E : XK), Room k (A.deeper (PyProof.Rows.envOfC x (defScope st) s.heap.objs.size f cdv)) →
      CQs (cxOf CX0 P w K mg base N x (defScope st) f cdv A outer s H E).nox (defBody st) mb) : Has P w K mg base x ps (k + 1) (spTB K mg (fnTB nt n nl mb)) := by
  obtain ⟨f, fd, F, b, m⟩ := Df.ex
  exact ⟨f, fd, tb_ok F Sc hn hl (fun cdv => hb f cdv), b, F.kp, m⟩
/-- if not f(x, ..): .., where f changes the tree x -/
def cIfTB (i : Nat) (mf : MTB) (ms : MA) (a b : MS) : MS := fun σ => do
  let rs ← ms σ
  let ds ← dats rs
  match σ[i]? with
  | some (.tr m t) => (if m ≠ .view then (do
      let r ← mf [t] ds
      match r with
      | (.bl c, [t']) => if (!c) = true then a (σ.set i (.tr m t')) else b (σ.set i (.tr m t'))
      | _ => bad) else bad)
  | _ => bad
section
variable {X : Cx} {x y z : Str} {ps : List Str} {k i j : Nat} {mr : MTB} {p p1 p2 pos pos' : Pos} {es : List Expr} {ms : MA} {a b : MS} {A B : List Stmt}
theorem cs_ifTB (h : Has X.prog X.w X.K X.mg X.base x ps k (spTB X.K X.mg mr)) (hr : Room k X.A) (hg : Gl X x) (ha : CA X es ms) (hN : X.N[i]? = some y) (hv : Vis X.env.scope y) (hA : CSs X A a) (hB : CSs X B b)
    (hd : (y == ("__debug__" : Str)) = false := by decide) (hcd : (y == ("__classdict__" : Str)) = false := by decide) (hdb : (x == ("__debug__" : Str)) = false := by decide)
    (he : starEach (.Name y p1 :: es) X.env = (false, eval (.Name y p1) X.env) :: starEach es X.env := by rfl) (hpl : (backTo pos (starEach es X.env)).any (·.1) = false := by rfl) :
    CS X (.If (.UnaryOp .Not (.Call (.Name x p) (.Name y p1 :: es) [] pos) p2) A B pos') (cIfTB i mr ms a b) :=
  ps_imp (ps_if (pt_not (pt_val (pe_fn h hr hg (pa_cons (pe_var hN hv hd hcd) ha he) hdb he hpl))) hA hB) fun D σV H ⟨O, σ, S, fl, S', st, h, q⟩ => by
    obtain ⟨rs, S1, h1, h⟩ := M.inv h
    obtain ⟨ds, S2, h2, h⟩ := M.inv h
    split at h
    · rename_i m t e0
      by_cases cm : m ≠ .view
      · rw [if_pos cm] at h
        obtain ⟨⟨rd, ts'⟩, S4, h4, h⟩ := M.inv h
        split at h
        · rename_i c s' er
          cases er
          obtain ⟨v0, e1, tr⟩ := st.loc i _ e0
          rw [ow_of cm] at tr
          refine ⟨v0, var_at e1, O, σ, S, rs, S1, st, h1, fun O1 vs H1 g1 st1 rr nn => ?_⟩
          obtain ⟨rdd, rfl⟩ := dats_rep (H₀ := H) rr nn h2
          have st1' := st1.frz H
          have eS := st1'.emp
          subst eS
          refine ⟨frz H O1, [(i, [])], [t], ds, [v0], vs, _, [s'], _, rfl, st1'.dom, ⟨rfl, rfl⟩, List.nodup_cons.mpr ⟨by simp, List.nodup_nil⟩, ?_, rdd, h4, fun O' v H' gT d eS hl rts rv => ?_⟩
          · intro k r hk
            cases k with
            | zero => cases hk; exact ⟨_, _, rfl, rfl, tr.go g1.frz⟩
            | succ k => simp at hk
          · subst eS
            obtain ⟨t1, u1, e1', e2, tr'⟩ := rts 0 (i, []) rfl
            cases e1'
            cases e2
            have hlt : i < σ.length := (List.getElem?_eq_some_iff.mp e0).1
            have st2 : S3 X.K X.mg O' (σ.set i (.tr m s')) [] σV H' := st1'.goT gT d (List.length_set ..) fun j s e => by
              by_cases hj : i = j
              · subst hj
                rw [List.getElem?_set_self hlt] at e
                cases e
                exact .inr ⟨v0, e1, by rw [ow_of cm]; exact tr'⟩
              · rw [List.getElem?_set_ne hj] at e
                refine .inl ⟨e, fun r ⟨P, hP, _⟩ => ?_⟩
                rw [List.mem_singleton] at hP
                cases hP
                exact hj rfl
            have kp : Kp σ (σ.set i (.tr m s')) σV σV := Kp.put e0 (fun xs z => by cases z) (fun xs z => by cases z) fun m t z hn => by cases z; exact ⟨cm, _, rfl⟩
            cases (show v = .bl c from rv)
            refine ⟨c, rfl, ?_⟩
            cases c with
            | false => exact iteT ⟨O', _, _, fl, S', st2, h, q.gs (g1.frz.gs.trans gT.gs) kp⟩
            | true => exact iteF ⟨O', _, _, fl, S', st2, h, q.gs (g1.frz.gs.trans gT.gs) kp⟩
        · cases h
      · rw [if_neg cm] at h; cases h
    · cases h
end
end L3

set_option Elab.async false
set_option linter.all false
set_option maxRecDepth 100000
set_option maxHeartbeats 1000000
namespace L3
open PySem PySem.Spec L2
variable [L2.TabP]
/-! ### a list of a tree, lent to a name, comes back -/
theorem TM.ow_ne {m : TM} {w : Own} (h : m ≠ .view) : m.ow w = w := by
  cases m with
  | view => exact absurd rfl h
  | own => rfl
  | par => rfl
structure Lent (K : PySem.W.Frag) (mg : Str → Option Value) (i j : Nat) (m : TM) (t0 : Tr) (q : List Nat) (a : Addr) (O : Ow) (σ σ1 : En) (S : Store) (σV σV1 : St) (H : Hp) : Prop where
  st : S3 K mg O σ S σV H
  ne : i ≠ j
  hm : m ≠ .view
  e0 : σ[j]? = some (.tr m t0)
  oa : O a = .tr j q
  pth : ∃ v0 s, σV[j]?.join = some v0 ∧ Tr.atP q t0 = some s ∧ PathV H v0 q (.ref a)
  kq : ∀ (k : Nat) (s : Slot), i ≠ k → j ≠ k → σ1[k]? = some s → (∀ d, s ≠ .val d) → σ[k]? = some s ∧ σV1[k]? = σV[k]?
  vi : σV1[i]? = some (some (.ref a))
  vj : σV1[j]? = σV[j]?
/-- behind the loan -/
structure Back (K : PySem.W.Frag) (mg : Str → Option Value) (i j : Nat) (m : TM) (t0 : Tr) (q : List Nat) (a : Addr) (O O' : Ow) (σ σ' : En) (S' : Store) (σV σV' : St) (H H' : Hp) (ys : List D) : Prop where
  st : S3 K mg (backO j O O') ((σ'.set i .emp).set j (.tr m (Tr.put q t0 (.ls (ys.map .lf))))) S' σV' H'
  gs : Gs O (backO j O O') H H'
  kp : Kp σ ((σ'.set i .emp).set j (.tr m (Tr.put q t0 (.ls (ys.map .lf))))) σV σV'
  fre : Fre O' (backO j O O')
  vi : σV'[i]? = some (some (.ref a))
  oa : backO j O O' a = .tr j q
  la : ∃ zs, H' a = some (.lst zs) ∧ RepAll K mg (backO j O O') H' ys zs
theorem Lent.back {K : PySem.W.Frag} {mg : Str → Option Value} {i j : Nat} {m : TM} {t0 : Tr} {q : List Nat} {a : Addr} {O O' : Ow} {σ σ1 σ' : En} {S S' : Store} {σV σV1 σV' : St} {H H' : Hp} {ys : List D} (L : Lent K mg i j m t0 q a O σ σ1 S σV σV1 H)
    (g' : Gs (borO i j a O) O' H H') (st' : S3 K mg O' σ' S' σV' H') (kp : Kp σ1 σ' σV1 σV') (e1 : σ'[i]? = some (.ow true ys)) (e2 : σ'[j]? = some (.tr .view .any)) (cv : σ'.all noV = true) : Back K mg i j m t0 q a O O' σ σ' S' σV σV' H H' ys := by
  have oa := L.oa
  have st1 := L.st
  have e0 := L.e0
  obtain ⟨_, kv1⟩ := kp.2.1 _ _ e1
  obtain ⟨_, kv2⟩ := kp.2.2 _ _ _ e2 (by intro z; cases z)
  rw [L.vi] at kv1
  rw [L.vj] at kv2
  obtain ⟨a', ysv, ea, oa', la', ra'⟩ := st'.loc _ _ e1
  rw [kv1] at ea
  cases ea
  have gs := bor_gs oa g'
  have frB : Fre O' (backO j O O') := ⟨fun b hb => by
    unfold backO
    rw [if_neg]
    · exact hb
    · rintro ⟨p, z⟩
      by_cases hba : b = a
      · rw [hba, oa'] at hb; cases hb
      · have := g'.own b (st1.dom.has b (by rw [z]; intro w; cases w)) (.inr (borO_tr z hba))
        rw [borO_tr z hba, hb] at this
        cases this⟩
  have keep : ∀ {b : Addr} {o : Own}, O' b = o → o ≠ .out → o ≠ .loc i → backO j O O' b = o := fun {b o} hb n1 n2 => by
    unfold backO
    rw [if_neg]
    · exact hb
    · rintro ⟨p, z⟩
      by_cases hba : b = a
      · rw [hba, oa'] at hb; exact n2 hb.symm
      · have := g'.own b (st1.dom.has b (by rw [z]; intro w; cases w)) (.inr (borO_tr z hba))
        rw [borO_tr z hba, hb] at this
        exact n1 this
  have hl' : σ'.length = σV'.length := st'.len
  have hi' : i < σ'.length := (List.getElem?_eq_some_iff.mp e1).1
  have hj' : j < σ'.length := (List.getElem?_eq_some_iff.mp e2).1
  have bka : backO j O O' a = .tr j q := by unfold backO; rw [if_pos ⟨_, oa⟩]; exact oa
  obtain ⟨v0, sx, ev0, p2, p4⟩ := L.pth
  obtain ⟨v0', ev0', rt0⟩ := st1.loc _ _ e0
  rw [ev0] at ev0'
  cases ev0'
  rw [TM.ow_ne L.hm] at rt0
  refine ⟨⟨⟨fun b hb => ?_, st'.dom.tabs⟩, by simpa using hl', fun k s e => ?_, st'.emp⟩, gs, ?_, frB, kv1, bka, ⟨ysv, la', ra'.fre frB⟩⟩
  · unfold backO at hb
    split at hb
    · exact g'.has b (st1.dom.has b hb)
    · exact st'.dom.has b hb
  · by_cases hj : j = k
    · subst hj
      rw [List.getElem?_set_self (by rw [List.length_set]; exact hj')] at e
      cases e
      refine ⟨v0, by rw [kv2]; exact ev0, ?_⟩
      rw [TM.ow_ne L.hm]
      obtain ⟨v', pv, rs, rb⟩ := rt0.split p2
      cases p4.det pv
      refine rb _ H' _ (fun d v z => Rep.gs gs z) (fun b u r hr ob hb nn => ⟨?_, ?_⟩) ?_
      · unfold backO; rw [if_pos ⟨_, ob⟩]; exact ob
      · refine g'.cells b u hb (.inr (.inl (borO_tr ob ?_))) nn
        rintro rfl
        rw [show O b = .tr j q from oa] at ob
        cases ob
        exact hr (List.prefix_refl _)
      · exact ⟨a, ysv, rfl, bka, la', treeAll_lf (ra'.fre frB)⟩
    · rw [List.getElem?_set_ne hj] at e
      by_cases hi : i = k
      · subst hi
        rw [List.getElem?_set_self hi'] at e
        cases e
        trivial
      · rw [List.getElem?_set_ne hi] at e
        have nv : noV s = true := List.all_eq_true.mp cv s (List.mem_of_getElem? e)
        by_cases hv : ∃ ws, s = .vw ws
        · obtain ⟨ws, rfl⟩ := hv
          obtain ⟨z1, z2⟩ := kp.1 _ _ e
          obtain ⟨z1, z3⟩ := L.kq k _ hi hj z1 (by intro d z; cases z)
          rw [z2, z3]
          obtain ⟨b, zs, y1, y2, y3⟩ := st1.loc _ _ z1
          exact ⟨b, zs, y1, gs.lsV y2, RepAll.gs gs y3⟩
        · by_cases ht : ∃ t, s = .tr .view t
          · obtain ⟨t, rfl⟩ := ht
            obtain ⟨⟨t1, z1, z3⟩, z2⟩ := kp.2.2 _ _ _ e (by intro z; cases z)
            obtain ⟨z1, z4⟩ := L.kq k _ hi hj z1 (by intro d z; cases z)
            cases z3 rfl
            rw [z2, z4]
            obtain ⟨v, y1, y2⟩ := st1.loc _ _ z1
            exact ⟨v, y1, TreeR.all (w := .out) (fun _ _ z => Rep.gs gs z) (fun b u p ob hb nn => ⟨(gs.own b (by rw [hb]; intro z; cases z) (.inr ob)).trans ob, gs.cells b u hb (.inr (.inl ob)) nn⟩) _ y2⟩
          · exact SlotR.back frB (fun b z => keep z (by intro w; cases w) (by intro w; cases w; exact hi rfl)) (fun b p z => keep z (by intro w; cases w) (by intro w; cases w)) (fun ws z => hv ⟨ws, z⟩) nv (fun t z => ht ⟨t, z⟩) (st'.loc k s e)
  · have key : ∀ (k : Nat) (s : Slot), ((σ'.set i .emp).set j (.tr m (Tr.put q t0 (.ls (ys.map .lf)))))[k]? = some s → s ≠ .emp → j ≠ k → i ≠ k ∧ σ'[k]? = some s := fun k s e n1 hj => by
      by_cases hi : i = k
      · subst hi
        rw [List.getElem?_set_ne hj, List.getElem?_set_self hi'] at e
        exact absurd (Option.some.inj e).symm n1
      · rw [set_ne2 hj hi] at e
        exact ⟨hi, e⟩
    have atj : ∀ s, ((σ'.set i .emp).set j (.tr m (Tr.put q t0 (.ls (ys.map .lf)))))[j]? = some s → s = .tr m (Tr.put q t0 (.ls (ys.map .lf))) := fun s e => by
      rw [List.getElem?_set_self (by rw [List.length_set]; exact hj')] at e
      exact (Option.some.inj e).symm
    refine ⟨fun k ws e => ?_, fun k ws e => ?_, fun k m' t e hm => ?_⟩
    · have hj : j ≠ k := by rintro rfl; cases atj _ e
      obtain ⟨hi, e⟩ := key k _ e (by intro z; cases z) hj
      obtain ⟨z1, z2⟩ := kp.1 _ _ e
      obtain ⟨z1, z3⟩ := L.kq k _ hi hj z1 (by intro d z; cases z)
      exact ⟨z1, z2.trans z3⟩
    · have hj : j ≠ k := by rintro rfl; cases atj _ e
      obtain ⟨hi, e⟩ := key k _ e (by intro z; cases z) hj
      obtain ⟨⟨w, z1⟩, z2⟩ := kp.2.1 _ _ e
      obtain ⟨z1, z3⟩ := L.kq k _ hi hj z1 (by intro d z; cases z)
      exact ⟨⟨w, z1⟩, z2.trans z3⟩
    · by_cases hj : j = k
      · subst hj
        cases atj _ e
        exact ⟨⟨t0, e0, fun z => absurd z L.hm⟩, kv2⟩
      · obtain ⟨hi, e⟩ := key k _ e (by intro z; cases z) hj
        obtain ⟨⟨w, z1, z4⟩, z2⟩ := kp.2.2 _ _ _ e hm
        obtain ⟨z1, z3⟩ := L.kq k _ hi hj z1 (by intro d z; cases z)
        exact ⟨⟨w, z1, z4⟩, z2.trans z3⟩
end L3

set_option Elab.async false
set_option linter.all false
set_option maxRecDepth 100000
set_option maxHeartbeats 1000000
namespace L3
open PySem PySem.Spec L2
variable [L2.TabP]
/-! ### g, l = x[e]; ..; the list g goes back at the end, or with x[e] = (g, ..) -/
def gvE (i j : Nat) (m : TM) (T : List D → Tr) (σ' : En) : M (List D × En) := match σ'[i]?, σ'[j]? with
  | some (.ow true ys), some (.tr .view .any) => if σ'.all noV = true then pure (ys, (σ'.set i .emp).set j (.tr m (T ys))) else bad
  | _, _ => bad
def qBack (i j : Nat) (m : TM) (T : List D → Tr) : Fq → M Fq
  | .rt d σ' => do
    let z ← gvE i j m T σ'
    pure (.rt d z.2)
  | .nx _ => bad
abbrev putG (n : Nat) (ks : List Key) (ts : List Tr) (ys : List D) : Tr := Tr.put [n, 0] (.dc ks ts) (.ls (ys.map .lf))
def onlyR : Fq → M Fq
  | .rt d σ => pure (.rt d σ)
  | .nx _ => bad
def qLoan (g l j ie : Nat) (mp : MP) (m4 : MSq) (t5 : En → M Bool) (mC : MSq) (mx : ME) (mR5 mR : MSq) : MSq := fun σ => do
  let x ← mp σ
  match x.p, x.t, σ[j]? with
  | [n], .tp [.ls us, .lf d], some (.tr m (.dc ks ts)) => (match lvs us with
    | some xs => if ((x.i = j ∧ m ≠ .view) ∧ g ≠ j ∧ l ≠ j ∧ g ≠ l) ∧ g < σ.length ∧ l < σ.length ∧ ts.length < 1000 then (do
        let f4 ← m4 (((σ.set j (.tr .view .any)).set g (.ow true xs)).set l (.val d))
        match f4 with
        | .rt r σ' => qBack g j m (putG n ks ts) (.rt r σ')
        | .nx σ2 => (do
          let c ← t5 σ2
          if c = true then (do
            let fC ← mC σ2
            match fC with
            | .rt r σ' => qBack g j m (putG n ks ts) (.rt r σ')
            | .nx σ3 => (do
              let z ← gvE g j m (putG n ks ts) σ3
              let r ← mx z.2
              let dx ← r.dat
              match z.2[ie]? with
              | some (.val (.int i)) => if ks[n]? = some (.inl i) then mR5 (z.2.set j (.tr m (.dc ks (ts.set n (.tp [.ls (z.1.map .lf), .lf dx]))))) >>= onlyR else bad
              | _ => bad))
          else (do
            let f ← mR σ2
            qBack g j m (putG n ks ts) f))) else bad
    | none => bad)
  | _, _, _ => bad
section
variable {K : PySem.W.Frag} {mg : Str → Option Value}
theorem gvE_inv {i j : Nat} {m : TM} {T : List D → Tr} {σ' : En} {z : List D × En} {S S' : Store} (h : (gvE i j m T σ').run S = .ok z S') : S = S' ∧ σ'[i]? = some (.ow true z.1) ∧ σ'[j]? = some (.tr .view .any) ∧ σ'.all noV = true ∧ z.2 = (σ'.set i .emp).set j (.tr m (T z.1)) := by
  unfold gvE at h
  split at h
  · rename_i ys e1 e2
    by_cases c : σ'.all noV = true
    · rw [if_pos c] at h
      cases h
      exact ⟨rfl, e1, e2, c, rfl⟩
    · rw [if_neg c] at h; cases h
  · cases h
theorem Lent.ret {i j : Nat} {m : TM} {n : Nat} {ks : List Key} {ts : List Tr} {a : Addr} {O O1 : Ow} {σ σ1 σ' : En} {S S1 S' : Store} {σV σV1 : St} {H H1 : Hp} {r : D} {f : Fq} {Dn : Ends} (L : Lent K mg i j m (.dc ks ts) [n, 0] a O1 σ σ1 S σV σV1 H1) (g1 : Gs O O1 H H1)
    (h : (qBack i j m (putG n ks ts) (.rt r σ')).run S1 = .ok f S') (q : PoQ K mg O σ S' σV H f Dn) : ∀ O' σV' H' v, Gs (borO i j a O1) O' H1 H' → S3 K mg O' σ' S1 σV' H' → Kp σ1 σ' σV1 σV' → Rep K mg O' H' r v → Dn.rt v H' := fun O' σV' H' v g' st' kp rv => by
  obtain ⟨z, S2, hz, h⟩ := M.inv h
  cases h
  obtain ⟨rfl, e1, e2, cv, ez⟩ := gvE_inv hz
  have B := L.back g' st' kp e1 e2 cv
  rw [ez] at q
  exact q _ σV' H' v (g1.trans B.gs) B.st B.kp (rv.fre B.fre)
theorem putG_eq {n : Nat} {ks : List Key} {ts : List Tr} {us : List Tr} {d : D} (h : ts[n]? = some (.tp [.ls us, .lf d])) (ys : List D) : putG n ks ts ys = .dc ks (ts.set n (.tp [.ls (ys.map .lf), .lf d])) := by
  show Tr.put [n, 0] (.dc ks ts) _ = _
  unfold Tr.put
  show (match ts[n]? with | some u => Tr.sub (.dc ks ts) n (Tr.put [0] u (.ls (ys.map .lf))) | none => .dc ks ts) = _
  rw [h]
  rfl
end
theorem repAll_all {K : PySem.W.Frag} {mg : Str → Option Value} {O O' : Ow} {H H' : Hp} (f : ∀ d v, Rep K mg O H d v → Rep K mg O' H' d v) : ∀ {ds : List D} {ys : List V}, RepAll K mg O H ds ys → RepAll K mg O' H' ds ys
  | [], _, h => h
  | _ :: _, _, h => by obtain ⟨y, r, e, a, b⟩ := h; exact ⟨y, r, e, f _ _ a, repAll_all f b⟩
theorem loan_read {K : PySem.W.Frag} {mg : Str → Option Value} {g l j ie : Nat} {mp : MP} {m4 : MSq} {t5 : En → M Bool} {mC : MSq} {mx : ME} {mR5 mR : MSq} : ∀ Dn σV H, tqOf K mg (qLoan g l j ie mp m4 t5 mC mx mR5 mR) Dn σV H →
    tSeq (tAsg (tpOf K mg mp) (gTup K 2 (gNames [g, l]))) (tSeq (tqOf K mg m4) (tSeq (tIfS (ttOf K mg t5) (tSeq (tqOf K mg mC) (tSeq (sDPut (tVar j) (tVar ie) (tTup (tCons (tVar g) (tCons (teOf K mg mx) tNil)))) (tqOf K mg mR5))) tNext) (tqOf K mg mR))) Dn σV H := by
  rintro Dn σV H ⟨O, σ, S, f, S', st, h, q⟩
  obtain ⟨x, S1, h1, h⟩ := M.inv h
  split at h
  · rename_i n us d m ks ts ep et e0
    split at h
    · rename_i xs el
      by_cases c : ((x.i = j ∧ m ≠ .view) ∧ g ≠ j ∧ l ≠ j ∧ g ≠ l) ∧ g < σ.length ∧ l < σ.length ∧ ts.length < 1000
      · rw [if_pos c] at h
        obtain ⟨⟨⟨xi, hm⟩, ngj, nlj, ngl⟩, hg, hl, hts⟩ := c
        obtain ⟨f4, S2, h4, h⟩ := M.inv h
        refine ⟨O, σ, S, x, S1, st, h1, fun O1 v H1 g1 st1 pr => ?_⟩
        have tr := pr.tree st1
        obtain ⟨t0, v0, p1, p2, p3, p4⟩ := pr
        rw [xi] at p1 p3 tr
        rw [e0] at p1
        have ep1 := Option.some.inj p1
        injection ep1 with em et0
        subst et0
        rw [← em, TM.ow_ne hm, et, ep] at tr
        rw [ep] at p2 p4
        rw [et] at p2
        obtain ⟨aT, zs, rfl, oT, lT, y1, zr, rfl, tr1, y2, zr2, rfl, tr2, rfl⟩ := (tr : TreeR K mg O1 H1 (.loc j) [n] (.tp [.ls us, .lf d]) v)
        obtain ⟨a, yl, rfl, oa, la, ra⟩ := tr1
        cases lvs_eq el
        have ra := treeAll_rep ra
        have oa : O1 a = .tr j [n, 0] := oa
        have tr2 : Rep K mg O1 H1 d y2 := tr2
        have tsn : ts[n]? = some (.tp [.ls (xs.map .lf), .lf d]) := by
          have : (match (Tr.dc ks ts).kids[n]? with | some s => Tr.atP [] s | none => none) = some (.tp [.ls (xs.map .lf), .lf d]) := p2
          cases hk : ts[n]? with
          | none => rw [show (Tr.dc ks ts).kids[n]? = none from hk] at this; cases this
          | some s => rw [show (Tr.dc ks ts).kids[n]? = some s from hk] at this; exact this
        have pth : PathV H1 v0 [n, 0] (.ref a) := PathV.snoc (n := 0) (y := .ref a) (by unfold kidV; rw [lT]; rfl) p4
        refine ⟨aT, _, rfl, SqT.of lT, rfl, _, _, rfl, _, _, rfl, rfl, ?_⟩
        have hgV : g < σV.length := by rw [← st1.len]; exact hg
        have hlV : l < σV.length := by rw [← st1.len]; exact hl
        have hjl : j < σ.length := (List.getElem?_eq_some_iff.mp e0).1
        have fr1 : Fre O1 (borO g j a O1) := ⟨fun b hb => borO_ne oa hb fun q z => by cases z⟩
        have st2 : S3 K mg (borO g j a O1) (((σ.set j (.tr .view .any)).set g (.ow true xs)).set l (.val d)) S1 ((σV.set g (some (.ref a))).set l (some y2)) H1 := by
          refine ⟨⟨fun b hb => ?_, st1.dom.tabs⟩, by simpa using st1.len, fun k s e => ?_, st1.emp⟩
          · by_cases hba : b = a
            · rw [hba, la]; intro z; cases z
            · refine st1.dom.has b fun z => hb (borO_ne oa z fun q z => by cases z)
          · by_cases hkl : l = k
            · subst hkl
              rw [List.getElem?_set_self (by simpa using hl)] at e
              cases e
              rw [List.getElem?_set_self (by simpa using hlV)]
              exact ⟨y2, rfl, tr2.fre fr1⟩
            · rw [List.getElem?_set_ne hkl] at e ⊢
              by_cases hi : g = k
              · subst hi
                rw [List.getElem?_set_self (by rw [List.length_set]; exact hg)] at e
                cases e
                rw [List.getElem?_set_self hgV]
                exact ⟨a, yl, rfl, borO_at, la, ra.fre fr1⟩
              · by_cases hj : j = k
                · rw [List.getElem?_set_ne hi, ← hj, List.getElem?_set_self hjl] at e
                  cases e
                  rw [List.getElem?_set_ne hi, ← hj]
                  exact ⟨v0, p3, trivial⟩
                · rw [set_ne2 hi hj] at e
                  rw [List.getElem?_set_ne hi]
                  exact (st1.loc k s e).fre fr1 (fun b z => borO_ne oa z fun q z => by cases z) (fun b z => borO_ne oa z fun q z => by cases z) (fun b p z => borO_ne oa z fun q z => by cases z; exact hj rfl)
        have L : Lent K mg g j m (.dc ks ts) [n, 0] a O1 σ (((σ.set j (.tr .view .any)).set g (.ow true xs)).set l (.val d)) S1 σV ((σV.set g (some (.ref a))).set l (some y2)) H1 := by
          refine ⟨st1, ngj, hm, e0, oa, ⟨v0, .ls (xs.map .lf), p3, ?_, pth⟩, fun k s hi hj e nv => ?_, ?_, ?_⟩
          · show (match (Tr.dc ks ts).kids[n]? with | some s => Tr.atP [0] s | none => none) = _
            rw [show (Tr.dc ks ts).kids[n]? = _ from tsn]
            rfl
          · have hkl : l ≠ k := by
              rintro rfl
              rw [List.getElem?_set_self (by simpa using hl)] at e
              exact nv d (Option.some.inj e).symm
            rw [List.getElem?_set_ne hkl, set_ne2 hi hj] at e
            rw [List.getElem?_set_ne hkl, List.getElem?_set_ne hi]
            exact ⟨e, rfl⟩
          · rw [List.getElem?_set_ne ngl.symm, List.getElem?_set_self hgV]
          · rw [List.getElem?_set_ne nlj, List.getElem?_set_ne ngj]
        refine ⟨_, _, _, f4, S2, st2, h4, ?_⟩
        cases f4 with
        | rt r σ' => exact fun O' σV' H' v g' st' kp rv => L.ret g1.gs h q O' σV' H' v g' st' kp rv
        | nx σ2 =>
          intro O2 σV2 H2 g2 st2' kp2
          obtain ⟨c, S3', h5, h⟩ := M.inv h
          refine ⟨O2, σ2, S2, c, S3', st2', h5, fun O3 H3 g3 st3 => ?_⟩
          have g23 := g2.trans g3.gs
          cases c with
          | false =>
            rw [if_neg Bool.false_ne_true] at h
            obtain ⟨fR, S4, hR, h⟩ := M.inv h
            refine iteF ⟨O3, σ2, S3', fR, S4, st3, hR, ?_⟩
            cases fR with
            | nx σ' => cases h
            | rt r σ' => exact fun O' σV' H' v g' st' kp rv => L.ret g1.gs h q O' σV' H' v (g23.trans g') st' (kp2.trans kp) rv
          | true =>
            rw [if_pos rfl] at h
            obtain ⟨fC, S4, hC, h⟩ := M.inv h
            refine iteT ⟨O3, σ2, S3', fC, S4, st3, hC, ?_⟩
            cases fC with
            | rt r σ' => exact fun O' σV' H' v g' st' kp rv => L.ret g1.gs h q O' σV' H' v (g23.trans g') st' (kp2.trans kp) rv
            | nx σ3 =>
              intro O4 σV4 H4 g4 st4 kp4
              obtain ⟨⟨ys, σ5⟩, S5, hz, h6⟩ := M.inv h
              obtain ⟨r, S6, hx, h7⟩ := M.inv h6
              obtain ⟨dx, S7, hdx, h8⟩ := M.inv h7
              clear h h6 h7
              obtain ⟨rfl, e1, e2, cv, ez⟩ := gvE_inv hz
              have ez : σ5 = (σ3.set g .emp).set j (.tr m (putG n ks ts ys)) := ez
              obtain ⟨Bst, Bgs, Bkp, Bfre, Bvi, Boa, zl, Bla, Bra⟩ := L.back (g23.trans g4) st4 (kp2.trans kp4) e1 e2 cv
              have Bst : S3 K mg (backO j O1 O4) σ5 S4 σV4 H4 := by rw [ez]; exact Bst
              have Bkp : Kp σ σ5 σV σV4 := by rw [ez]; exact Bkp
              have hj3 : j < σ3.length := (List.getElem?_eq_some_iff.mp e2).1
              have e5 : σ5[j]? = some (.tr m (.dc ks (ts.set n (.tp [.ls (ys.map .lf), .lf d])))) := by rw [ez, List.getElem?_set_self (by simpa using hj3), putG_eq tsn]
              dsimp only at hx hdx h8
              split at h8
              · rename_i i ei
                by_cases ck : ks[n]? = some (.inl i)
                · rw [if_pos ck] at h8
                  refine ⟨.ref a, Bvi, _, σ5, S4, r, S6, Bst, hx, fun O6 vx H6 g6 st6 rr nn => ⟨by show 2 ≤ sizeLine; rw [sizeLine_eq]; omega, fun T hT => ?_⟩⟩
                  obtain ⟨rdx, rfl⟩ := dat_rep (H₀ := H4) rr nn hdx
                  have st6' := st6.frz H4
                  have st7 : S3 K mg (updO (frz H4 O6) T (.tr j [n])) σ5 S6 σV4 (upd H6 T (.tup [.ref a, vx])) := st6'.new hT
                  have g7 : Go (backO j O1 O4) (updO (frz H4 O6) T (.tr j [n])) H4 (upd H6 T (.tup [.ref a, vx])) := g6.frz.trans (Go.new hT)
                  have ha4 : H4 a ≠ none := by rw [Bla]; intro z; cases z
                  have oa7 : updO (frz H4 O6) T (.tr j [n]) a = .tr j [n, 0] := (g7.own a ha4).trans Boa
                  have la7 : upd H6 T (.tup [.ref a, vx]) a = some (.lst zl) := g7.same.at' _ _ Bla
                  obtain ⟨v1, ev1, tr7⟩ := st7.loc j _ e5
                  rw [TM.ow_ne hm] at tr7
                  obtain ⟨ad, yd, rfl, od, ld, hq, rd7⟩ := tr7
                  obtain ⟨vi, evi, rvi⟩ := st7.loc ie _ ei
                  cases (show vi = .int i from rvi)
                  refine ⟨.ref ad, var_at ev1, .int i, var_at evi, ad, _, rfl, DPut.k (k := Sum.inl i) ld ?_, ?_⟩
                  · have := rd7.len
                    rw [List.length_set] at this
                    rw [List.length_zip]
                    exact small1000 (by omega)
                  have hln := rd7.len
                  rw [List.length_set] at hln
                  have hnk : n < ks.length := (List.getElem?_eq_some_iff.mp ck).1
                  have ek : putK (ks.zip yd) (Sum.inl i) (.ref T) = ks.zip (yd.set n (.ref T)) := by
                    unfold putK
                    rw [if_pos (zip_any hq.1 ck)]
                    exact zip_putK hq.2 ck (by omega)
                  rw [ek]
                  have nTd : T ≠ ad := by
                    rintro rfl
                    rw [upd_same] at ld
                    cases ld
                  have nad : a ≠ ad := by
                    rintro rfl
                    rw [la7] at ld
                    cases ld
                  have pr7 : PthR (upd H6 T (.tup [.ref a, vx])) σ5 σV4 ⟨j, [], m, .dc ks (ts.set n (.tp [.ls (ys.map .lf), .lf d]))⟩ (.ref ad) := ⟨_, _, e5, rfl, ev1, rfl⟩
                  obtain ⟨s1, s2, s3⟩ := st7.putT (u' := .dK (ks.zip (yd.set n (.ref T)))) (s' := .dc ks (ts.set n (.tp [.ls (ys.map .lf), .lf dx]))) pr7 hm e5 od ld (by rintro (⟨_, z⟩ | ⟨_, _, z⟩) <;> cases z) (by intro ps z; cases z) (by intro q z; cases z) fun f gg => by
                    refine ⟨ad, _, rfl, od, upd_same, ⟨by rw [List.length_set]; exact hq.1, hq.2⟩, ?_⟩
                    have := TreeAll.set (w := .loc j) (p := []) (m := 0) (k := n) (s' := .tp [.ls (ys.map .lf), .lf dx]) (y' := .ref T) f (fun b u i r _ ob hb _ => ⟨ob, gg b u _ (by intro z; cases z) ob hb⟩) rd7 (by rw [List.length_set]; omega) (by
                      rw [Nat.zero_add]
                      refine ⟨T, [.ref a, vx], rfl, updO_same, by rw [upd_ne nTd, upd_same], ?_⟩
                      refine ⟨.ref a, [vx], rfl, ⟨a, zl, rfl, oa7, by rw [upd_ne nad]; exact la7, ?_⟩, vx, [], rfl, ?_, rfl⟩
                      · exact treeAll_lf (repAll_all (fun d v z => f d v (Rep.go g7 z)) Bra)
                      · exact f _ _ (Rep.go (Go.new hT) rdx))
                    rwa [List.set_set] at this
                  obtain ⟨fr, S9, h9, h10⟩ := M.inv h8
                  refine ⟨_, _, _, fr, S9, s1, h9, ?_⟩
                  have q' := q.gs (g1.gs.trans (Bgs.trans (g7.gs.trans s2))) (Bkp.trans s3)
                  cases fr with
                  | nx _ => cases h10
                  | rt r σ' => cases h10; exact q'
                · rw [if_neg ck] at h8; cases h8
              · cases h8
      · rw [if_neg c] at h; cases h
    · cases h
  · cases h
end L3

set_option Elab.async false
set_option linter.all false
set_option maxRecDepth 100000
set_option maxHeartbeats 1000000
namespace L3
open PySem PySem.Spec L2 PyProof.Rows
/-! ### max(..) of tuples of ints -/
def keyT : D → Option (List Int)
  | .tup ks => nums ks
  | _ => none
theorem keyT_inv {d : D} {k : List Int} (h : keyT d = some k) : ∃ ks, d = .tup ks ∧ nums ks = some k := by
  unfold keyT at h
  split at h
  · exact ⟨_, rfl, h⟩
  · cases h
def maxGoT (b : D) (kb : List Int) : List D → Option D
  | [] => some b
  | d :: ds => match keyT d with
    | some kd => if lexGt kd kb = true then maxGoT d kd ds else maxGoT b kb ds
    | none => none
def maxAllT : List D → Option D
  | d :: ds => match keyT d with
    | some k => maxGoT d k ds
    | none => none
  | [] => none
def fMaxT : List R → M R
  | [x] => match x.lis with
    | some ds => match maxAllT ds with
      | some r => pure (.v r)
      | none => bad
    | none => bad
  | _ => bad
variable [L2.TabP]
section
variable {X : Cx} {pins : List (Addr × Obj)} {σ : L2.St} {H : Hp} {s : Shared} {S it l : Addr} {O : Ow}
theorem maxT_loop {ds : List D} {xs : List V} {res : D} (hcl : X.A.in1.handled = none) (hu : X.A.units + 64 < cLine) (hnS : H S = none) (hSi : S ≠ it) (ra : RepAll X.K X.mg O H ds xs) (hl : SqL X.K H l xs) :
    ∀ (r : List D) (j : Nat) (d : D) (kb : List Int) (s' : Shared), ds.drop j = r → BSt X pins σ (fun _ => True) O H S it l j d kb s' → j ≤ ds.length → maxGoT d kb r = some res →
      codeAny (model X.prog X.w) X.A (.builtin "max.loop" ⟨[.ref it, .none, .ref S], []⟩) (fun r s' => ∃ u, r = .ok (.ret u) ∧ MaxQ X pins σ O H res u s') s' := by
  have hname : (toString "max" ++ toString ".loop" : String) = "max.loop" := by decide
  have hh := hcl
  have lx := ra.len
  intro r
  induction r with
  | nil =>
    intro j d kb s' hdr B hj hg
    cases hg
    obtain ⟨O1, H1, v, kv, I1, g1, d1, G1, hS, rd, rk, ot, fp, hit⟩ := B.ex
    obtain ⟨hsz, its, n, vals, hget⟩ := I1.hok S _ hS
    obtain ⟨u, ku, rfl, ru, rku⟩ := vals2 vals
    have hjl : j = xs.length := by
      have := congrArg List.length hdr
      rw [List.length_drop, List.length_nil] at this
      omega
    refine codeAny_builtin PySem.F.entry_max_loop ?_
    rw [Around.under_plainId PySem.F.plain_max_loop _]
    show wpAny _ X.A.in1 (seqItems? (.ref S) >>= _) _ _ _
    refine wpAny_bind (wpAny_seqItems hget rfl ?_)
    show wpAny _ X.A.in1 (tryCatch (pyNext (.ref it)) _ >>= _) _ _ _
    refine wpAny_bind (wpAny_tryCatch (wpAny_mono (next_none (E := fun _ _ => False) I1 (g1.same.seq hl) hjl fp hit hh) (fun r s1 hq => ?_) fun _ _ hF => hF.elim))
    obtain ⟨rfl, I2⟩ := hq
    obtain ⟨_, its2, n2, vals2', hget2⟩ := I2.hok S _ hS
    show wpAny _ X.A.in1 (updateSeq S (fun _ => #[]) >>= _) _ _ _
    refine wpAny_bind ?_
    refine wpAny_updateSeq hget2 rfl (hz := by rw [List.size_toArray, ← vals2'.length, sizeLine_eq]; simp) (wpAny_bind (wpAny_letGo (wpAny_pure ?_)))
    exact ⟨u, rfl, O1, _, v, best_clear I2 hS hget2, ⟨upd_over hnS g1.same hS _, g1.own⟩, d1.updL hS, rd.updL (by rw [ot]; intro z; cases z) hS, ru⟩
  | cons d2 r ih =>
    intro j d kb s' hdr B hj hg
    unfold maxGoT at hg
    cases ek : keyT d2 with
    | none => rw [ek] at hg; cases hg
    | some kd =>
      rw [ek] at hg
      replace hg : (if lexGt kd kb = true then maxGoT d2 kd r else maxGoT d kb r) = some res := hg
      obtain ⟨O1, H1, v, kv, I1, g1, d1, G1, hS, rd, rk, ot, fp, hit⟩ := B.ex
      obtain ⟨hsz, its, n, vals, hget⟩ := I1.hok S _ hS
      obtain ⟨u, ku, rfl, ru, rku⟩ := vals2 vals
      have hd2 : ds[j]? = some d2 := by
        have := congrArg (·[0]?) hdr
        simpa using this
      have hdr' : ds.drop (j + 1) = r := by
        have := congrArg (List.drop 1) hdr
        simpa [List.drop_drop] using this
      have hjl : j + 1 ≤ ds.length := (List.getElem?_eq_some_iff.mp hd2).1
      obtain ⟨v2, hv2, rd2⟩ := ra.get hd2
      refine codeAny_builtin PySem.F.entry_max_loop ?_
      rw [Around.under_plainId PySem.F.plain_max_loop _]
      show wpAny _ X.A.in1 (seqItems? (.ref S) >>= _) _ _ _
      refine wpAny_bind (wpAny_seqItems hget rfl ?_)
      show wpAny _ X.A.in1 (tryCatch (pyNext (.ref it)) _ >>= _) _ _ _
      refine wpAny_bind (wpAny_tryCatch (wpAny_mono (next_item (E := fun _ _ => False) I1 (g1.same.seq hl) hv2 fp hit hh) (fun r s1 hq => ?_) fun _ _ hF => hF.elim))
      obtain ⟨u2, rfl, ru2, I2, hit2⟩ := hq
      have g3 : Go O1 O1 H1 H1 := Go.refl _ _
      have I3 := I2
      have hS3 := hS
      have ot3 := ot
      have d3 := d1
      have hit3 := hit2
      have fp3 := fp
      obtain ⟨_, its3, n3, vals3, hget3⟩ := I3.hok S _ hS3
      obtain ⟨ks, rfl, hn⟩ := keyT_inv ek
      have rk3' := rep_nums (rd2.go g1) hn
      obtain ⟨a3, rfl, sq3⟩ := rep_tupInts rk3'
      obtain ⟨a1, rfl, sq1⟩ := rep_tupInts rk
      have ru2' := ru2
      cases ru2
      cases rku
      obtain ⟨t3, i3, p3, _⟩ := I3.tuple sq3
      obtain ⟨t1, i1, p1, _⟩ := I3.tuple sq1
      show wpAny _ X.A.in1 (tryCatch (holding [.ref a3, .ref a3] (richCompare .Gt (.ref a3) (.ref a1) >>= _)) _ >>= _) _ _ _
      refine wpAny_bind (wpAny_tryCatch (wpAny_holding (wpAny_bind ((gt_tupInts p3 p1 (intsAre_of i3) (intsAre_of i1) (by show X.A.units + 1 < cLine; omega) ?_)))))
      refine wpAny_bind (wpAny_holding (wpAny_truthy_bool ?_))
      refine wpAny_bind (wpAny_letGo (wpAny_pure ?_))
      by_cases hb : lexGt kd kb = true
      · rw [if_pos hb] at hg
        simp only [hb, if_true]
        refine wpAny_bind ?_
        refine wpAny_updateSeq hget3 rfl (hz := by rw [List.size_toArray, ← vals3.length, sizeLine_eq]; simp) (wpAny_bind (wpAny_letGo ?_))
        rw [hname]
        refine wpAny_pure ⟨plainId_quiet PySem.F.plain_max_loop _, ih (j + 1) _ kd _ hdr' ?_ hjl hg⟩
        exact ⟨O1, _, .ref a3, .ref a3, best_put (v := .ref a3) (kv := .ref a3) I3 hS3 hget3 (show RelV (.ref a3) (.ref a3) from rfl) (show RelV (.ref a3) (.ref a3) from rfl), ⟨upd_over hnS g1.same hS3 _, g1.own⟩, d3.updL hS3, trivial, upd_same, (rd2.go g1).updL (by rw [ot3]; intro z; cases z) hS3, rk3'.updL (by rw [ot3]; intro z; cases z) hS3, ot3, fpOk_put hSi fp3, iter_put hSi hit3⟩
      · rw [if_neg hb] at hg
        simp only [hb, if_false]
        refine wpAny_bind (wpAny_letGo ?_)
        rw [hname]
        refine wpAny_pure ⟨plainId_quiet PySem.F.plain_max_loop _, ih (j + 1) d kb _ hdr' ?_ hjl hg⟩
        exact ⟨O1, H1, v, .ref a1, I3, g1, d3, trivial, hS3, rd, rk, ot3, fp3, hit3⟩
theorem maxT_call {ds : List D} {xs : List V} {res : D} {E : Value → Shared → Prop} (I : Inv X pins σ H s) (dm : Dom O H) (ra : RepAll X.K X.mg O H ds xs) (hl : SqL X.K H l xs) (hcl : X.A.in1.handled = none) (hu : X.A.units + 64 < cLine) (hm : maxAllT ds = some res) :
    wpAny (model X.prog X.w) X.A (call (.builtin "max") [.ref l]) (MaxQ X pins σ O H res) E s := by
  have hname : (toString "max" ++ toString ".loop" : String) = "max.loop" := by decide
  have hh := hcl
  cases ds with
  | nil => cases hm
  | cons d ds =>
    replace hm : (match keyT d with | some k => maxGoT d k ds | none => none) = some res := hm
    cases ek : keyT d with
    | none => rw [ek] at hm; cases hm
    | some kd =>
      rw [ek] at hm
      obtain ⟨ks, rfl, hn⟩ := keyT_inv ek
      obtain ⟨us, rv, pl, _⟩ := I.list hl
      have hls : s.heap.IsList l us.toArray := pl.isList
      refine call_function_tree PySem.F.kind_max PySem.F.plain_max PySem.F.entry_max (PySem.F.args_max1 _) ?_
      show wpAny _ X.A.in1 (Builtin.Builtins.bindParams "max" ["key", "default"] 0 ⟨[], []⟩ >>= _) _ _ s
      refine wpAny_bind (wpAny_of_eq (show Builtin.Builtins.bindParams "max" ["key", "default"] 0 ⟨[], []⟩ = pure [none, none] from rfl) ?_)
      refine wpAny_bind (wpAny_pure ?_)
      refine wpAny_bind (wpAny_pyIter_list hls ?_)
      refine wpAny_bind (wpAny_newList ?_ (Nat.zero_le _))
      rw [hname]
      have I1 : Inv X pins σ H { s with heap := s.heap.push { cls := .type "list_iterator", data := .fields #[.ref l, .int 0 0] } } := I.kept (t' := s.toks) fun b o e => Heap.get?_push_of_some _ e
      have hI : (s.heap.push { cls := .type "list_iterator", data := .fields #[.ref l, .int 0 0] }).get? s.heap.objs.size = some { cls := .type "list_iterator", data := .fields #[.ref l, .int 0 0] } := Heap.get?_push_size _ rfl
      have hsz : (s.heap.push { cls := .type "list_iterator", data := .fields #[.ref l, .int 0 0] }).objs.size = s.heap.objs.size + 1 := size_push' ..
      generalize hh1 : s.heap.push { cls := .type "list_iterator", data := .fields #[.ref l, .int 0 0] } = h1 at *
      have frS : H h1.objs.size = none := I1.hok.fresh (Nat.le_refl _)
      have hSi : h1.objs.size ≠ s.heap.objs.size := by rw [hsz]; omega
      have I2 : Inv X pins σ (upd H h1.objs.size (.lst [])) { s with heap := h1.push (seqObj "list" #[] 0) } :=
        I1.laid (t' := s.toks) (fun b o e => Heap.get?_push_of_some _ e) (Nat.le_refl _) ⟨Nat.zero_le _, [], 0, .nil, Heap.get?_push_size _ rfl⟩
      have fp : FpOk X pins (upd H h1.objs.size (.lst [])) s.heap.objs.size := I.fpOk (Nat.le_refl _) (by rw [upd_ne hSi.symm]; exact I.hok.fresh (Nat.le_refl _))
      have hit : (h1.push (seqObj "list" #[] 0)).IsListIter s.heap.objs.size l 0 := ⟨_, Heap.get?_push_of_some _ hI, rfl, rfl⟩
      have go2 : Go O (updO O h1.objs.size .tmp) H (upd H h1.objs.size (.lst [])) := Go.new frS
      have dm2 : Dom (updO O h1.objs.size .tmp) (upd H h1.objs.size (.lst [])) := dm.new frS
      have ot2 : updO O h1.objs.size .tmp h1.objs.size = .tmp := updO_same
      have hS2 : upd H h1.objs.size (.lst []) h1.objs.size = some (.lst []) := upd_same
      have hget : (h1.push (seqObj "list" #[] 0)).get? h1.objs.size = some (seqObj "list" #[] 0) := Heap.get?_push_size _ rfl
      refine wpAny_pure ⟨plainId_quiet PySem.F.plain_max_loop _, ?_⟩
      generalize h1.push (seqObj "list" #[] 0) = h2 at *
      generalize h1.objs.size = S at *
      generalize s.heap.objs.size = it at *
      generalize updO O S .tmp = O2 at *
      generalize upd H S (.lst []) = H2 at *
      obtain ⟨v, hv, rd⟩ := ra.get (i := 0) (d := .tup ks) rfl
      refine codeAny_builtin PySem.F.entry_max_loop ?_
      rw [Around.under_plainId PySem.F.plain_max_loop _]
      show wpAny _ X.A.in1 (seqItems? (.ref S) >>= _) _ _ _
      refine wpAny_bind (wpAny_seqItems hget rfl ?_)
      show wpAny _ X.A.in1 (tryCatch (pyNext (.ref it)) _ >>= _) _ _ _
      refine wpAny_bind (wpAny_tryCatch (wpAny_mono (next_item (E := fun _ _ => False) I2 (go2.same.seq hl) hv fp hit hh) (fun r s1 hq => ?_) fun _ _ hF => hF.elim))
      obtain ⟨u2, rfl, ru2, I3, hit2⟩ := hq
      have I4 := I3
      have hS3 := hS2
      have ot3 := ot2
      have d3 := dm2
      obtain ⟨_, its3, n3, vals3, hget3⟩ := I4.hok S _ hS3
      have rk3' := rep_nums (rd.go go2) hn
      show wpAny _ X.A.in1 (updateSeq S (fun _ => #[u2, u2]) >>= _) _ _ _
      refine wpAny_bind ?_
      refine wpAny_updateSeq hget3 rfl (hz := by rw [List.size_toArray, ← vals3.length, sizeLine_eq]; simp) ?_
      rw [hname]
      refine wpAny_pure ⟨plainId_quiet PySem.F.plain_max_loop _, codeAny_mono (maxT_loop (pins := pins) (σ := σ) hcl hu frS hSi ra hl ds 1 _ kd _ rfl ?_ (by simp) hm) fun r s' hq => ?_⟩
      · exact ⟨O2, _, v, v, best_put I4 hS3 hget3 ru2 ru2, ⟨upd_over frS go2.same hS3 _, go2.own⟩, d3.updL hS3, trivial, upd_same, (rd.go go2).updL (by rw [ot3]; intro z; cases z) hS3, rk3'.updL (by rw [ot3]; intro z; cases z) hS3, ot3, fpOk_put hSi fp, iter_put hSi hit2⟩
      · obtain ⟨u, rfl, hq⟩ := hq
        exact hq
theorem call_maxT (hc : X.calm = true) (hu : X.A.units + 64 < cLine) : CallR X (.builtin "max") (fun xs H Q => ∃ (l : Addr) (ys : List V) (O : Ow) (ds : List D) (res : D), xs = [.ref l] ∧ SqL X.K H l ys ∧ Dom O H ∧ RepAll X.K X.mg O H ds ys ∧ maxAllT ds = some res ∧
    ∀ O' H' v, Go O O' H H' → Dom O' H' → Rep X.K X.mg O' H' res v → Q v H') := by
  intro pins s σ H xs us Q I rv ⟨l, ys, O, ds, res, ex, hl, dm, ra, hm, q⟩
  subst ex
  obtain ⟨u, rfl, r1⟩ := vals1 rv
  cases r1
  refine thn (maxT_call I dm ra hl (show X.A.in1.handled = none from I.ok.hd hc) hu hm) fun u s3 ⟨O3, H3, v, I3, g3, d3, rd3, rv3⟩ => ?_
  exact ⟨v, H3, I3, rv3, q O3 H3 v g3 d3 rd3⟩
end
theorem kMaxT {K : PySem.W.Frag} {mg : Str → Option Value} : BinC K mg (fun xs H Q => ∃ (l : Addr) (ys : List V) (O : Ow) (ds : List D) (res : D), xs = [.ref l] ∧ SqL K H l ys ∧ Dom O H ∧ RepAll K mg O H ds ys ∧ maxAllT ds = some res ∧
    ∀ O' H' v, Go O O' H H' → Dom O' H' → Rep K mg O' H' res v → Q v H') fMaxT := fun O σ S σV H vs rs r' S' Q st hr h q => by
  unfold fMaxT at h
  split at h
  · rename_i x
    obtain ⟨v, rfl, hx⟩ := reps1 hr
    split at h
    · rename_i ds e
      split at h
      · rename_i res e2
        cases h
        obtain ⟨a, ys, rfl, l, ra⟩ := R.lis_rep hx e
        exact ⟨a, ys, O, ds, res, rfl, l, st.dom, ra, e2, fun O' H' v g d r => q O' v H' g (st.go g d) r trivial⟩
      · cases h
    · cases h
  · cases h
omit [L2.TabP] in
theorem e_maxT {x : R} : fMaxT [x] = match x.lis with
    | some ds => match maxAllT ds with
      | some r => pure (.v r)
      | none => bad
    | none => bad := rfl
end L3

set_option Elab.async false
set_option linter.all false
set_option maxRecDepth 100000
set_option maxHeartbeats 1000000
namespace L3
open PySem PySem.Spec L2
variable [L2.TabP]
section
variable {X : Cx} {g l j ie : Nat} {e c5 ex : Expr} {es : List Expr} {k kk : Nat} {tpos pos p1 p2 p3 p4 p5 p6 p7 : Pos} {S4 C5 R5 : Stmt} {R : List Stmt} {xj xi xg : Str} {mp : MP} {m4 mC mR5 mR : MSq} {t5 : En → M Bool} {mx : ME}
theorem cqs_loan (hc : X.calm = true) (hu : X.A.units + 64 < cLine) (hg : PGs X es (gNames [g, l])) (he : WP X e mp) (h4 : CQ X S4 m4) (h5 : WT X c5 t5) (hC : CQ X C5 mC) (hNj : X.N[j]? = some xj) (hvj : Vis X.env.scope xj) (hNi : X.N[ie]? = some xi) (hvi : Vis X.env.scope xi) (hNg : X.N[g]? = some xg) (hvg : Vis X.env.scope xg)
    (hx : WE X ex mx) (hR5 : CQ X R5 mR5) (hR : CQs X R mR)
    (hn : (assignEach es X.env).length = 2 := by rfl) (hst : (assignEach es X.env).findIdx? (·.1) = none := by rfl)
    (hs : swapsWithSole [.Tuple es k tpos] e pos.line X.env = pure false := by rfl) (hw : swappedStores [.Tuple es k tpos] e X.env = pure none := by rfl) (h1 : (assignEach [.Tuple es k tpos] X.env).map (·.2) = [assign (.Tuple es k tpos) X.env] := by rfl)
    (hs2 : swapsWith (.Tuple [.Name xg p4, ex] kk p5) (some (.Subscript (.Name xj p1) (.Name xi p2) p3)) p6.line X.env = pure false := by rfl)
    (hst2 : starEach [.Name xg p4, ex] X.env = (false, eval (.Name xg p4) X.env) :: starEach [ex] X.env := by rfl) (hst3 : starEach [ex] X.env = (false, eval ex X.env) :: starEach [] X.env := by rfl)
    (d1 : (xj == ("__debug__" : Str)) = false := by decide) (d2 : (xi == ("__debug__" : Str)) = false := by decide) (d3 : (xg == ("__debug__" : Str)) = false := by decide)
    (c1 : (xj == ("__classdict__" : Str)) = false := by decide) (c2 : (xi == ("__classdict__" : Str)) = false := by decide) (c3 : (xg == ("__classdict__" : Str)) = false := by decide) :
    CQs X (.Assign [.Tuple es k tpos] e pos :: S4 :: .If c5 [C5, .Assign [.Subscript (.Name xj p1) (.Name xi p2) p3] (.Tuple [.Name xg p4, ex] kk p5) p6, R5] [] p7 :: R) (qLoan g l j ie mp m4 t5 mC mx mR5 mR) :=
  pss_imp (pss_cons (ps_asg he.un (pg_tup hc hg hn hst) hs hw h1) (pss_cons h4 (pss_cons (ps_if h5.un (pss_cons hC (pss_cons (ps_dput (by omega) (pe_var hNj hvj d1 c1) (pe_var hNi hvi d2 c2) (pe_tup (pa_cons (pe_var hNg hvg d3 c3) (pa_cons hx.un pa_nil hst3) hst2)) hs2) (pss_one hR5))) pss_nil) hR))) loan_read
end
section
variable {X : Cx} {st : Stmt} {rest : List Stmt} {pos : Pos} {a b : MSq}
theorem wq_of {m : MS} (h : WS X st m) : CQ X st (qOf m) := cq_of h.un
theorem wq_ret {e : Expr} {m : ME} (he : WE X e m) : CQ X (.Return (some e) pos) (qRet m) := cq_ret he.un
theorem wq_if {c : Expr} {A B : List Stmt} {t : En → M Bool} (hc : WT X c t) (ha : CQs X A a) (hb : CQs X B b) : CQ X (.If c A B pos) (qIf t a b) := cq_if hc.un ha hb
end
section
variable {X : Cx} {x y z : Str} {ps : List Str} {k i j : Nat} {mr : MTB} {p p1 p2 pos pos' : Pos} {es : List Expr} {ms : MA} {a b : MS} {A B : List Stmt}
theorem ws_ifTB (h : Has X.prog X.w X.K X.mg X.base x ps k (spTB X.K X.mg mr)) (hr : Room k X.A) (hg : Gl X x) (ha : WA X es ms) (hN : X.N[i]? = some y) (hv : Vis X.env.scope y) (hA : WSs X A a) (hB : WSs X B b)
    (hd : (y == ("__debug__" : Str)) = false := by decide) (hcd : (y == ("__classdict__" : Str)) = false := by decide) (hdb : (x == ("__debug__" : Str)) = false := by decide)
    (he : starEach (.Name y p1 :: es) X.env = (false, eval (.Name y p1) X.env) :: starEach es X.env := by rfl) (hpl : (backTo pos (starEach es X.env)).any (·.1) = false := by rfl) :
    WS X (.If (.UnaryOp .Not (.Call (.Name x p) (.Name y p1 :: es) [] pos) p2) A B pos') (cIfTB i mr ms a b) := ⟨cs_ifTB h hr hg ha.un hN hv hA.un hB.un hd hcd hdb he hpl⟩
end
section
omit [L2.TabP]
@[simp] theorem e_vTup {ms : MTs} {σ : En} : vTup ms σ = (do
  let ts ← ms σ
  chk (ts.length ≤ 1000)
  pure (.tp ts)) := rfl
@[simp] theorem e_pDi {m : MP} {mk : ME} {σ : En} : pDi m mk σ = (do
  let x ← m σ
  let k ← mk σ
  match x.t, k with
  | .dc ks ts, .v (.int i) => (match keyIx ks i with
    | some n => kidM ts n (Pt.mk x.i (x.p ++ [n]) x.m)
    | none => bad)
  | _, _ => bad) := rfl
@[simp] theorem e_pIt {m : MP} {mk : ME} {σ : En} : pIt m mk σ = (do
  let x ← m σ
  let k ← mk σ
  match x.t, k with
  | .tp ts, .v (.int j) => if 0 ≤ j then kidM ts j.toNat (Pt.mk x.i (x.p ++ [j.toNat]) x.m) else bad
  | _, _ => bad) := rfl
@[simp] theorem e_qOf {a : MS} {σ : En} : qOf a σ = (do
  let fl ← a σ
  match fl with
  | .nx σ' => pure (.nx σ')
  | _ => bad) := rfl
@[simp] theorem e_qRet {m : ME} {σ : En} : qRet m σ = (do
  let r ← m σ
  let d ← r.dat
  pure (.rt d σ)) := rfl
@[simp] theorem e_qIf {t : En → M Bool} {a b : MSq} {σ : En} : qIf t a b σ = (do
  let t ← t σ
  if t = true then a σ else b σ) := rfl
@[simp] theorem e_qPass {σ : En} : qPass σ = pure (.nx σ) := rfl
@[simp] theorem e_qSeq {a b : MSq} {σ : En} : qSeq a b σ = (do
  let f ← a σ
  match f with
  | .nx σ' => b σ'
  | f => pure f) := rfl
end
end L3

set_option Elab.async false
set_option linter.all false
set_option maxRecDepth 100000
set_option maxHeartbeats 1000000
namespace K25
open PySem PySem.Spec L2 L3
def top (i : Nat) : Stmt := PySem.Challenge.pw_oneslate_k25_whole_promises_rise.main.body.getD i (.Pass ⟨0, 0, 0, 0⟩)
abbrev s_answer_to : Stmt := top 1
theorem sc_answer_to : FnScope ["letter", "word", "load"] ["letter", "word", "load"] (defScope s_answer_to) := ⟨rfl, rfl, rfl, by decide +kernel, rfl, by decide +kernel, by decide +kernel⟩
abbrev s_page_of : Stmt := top 3
theorem sc_page_of : FnScope ["book", "epoch", "page"] ["book", "epoch"] (defScope s_page_of) := ⟨rfl, rfl, rfl, by decide +kernel, rfl, by decide +kernel, by decide +kernel⟩
abbrev s_with_page : Stmt := top 4
theorem sc_with_page : FnScope ["book", "epoch", "promised", "kept", "slate", "pages"] ["book", "epoch", "promised", "kept", "slate"] (defScope s_with_page) := ⟨rfl, rfl, rfl, by decide +kernel, rfl, by decide +kernel, by decide +kernel⟩
abbrev s_late : Stmt := top 5
theorem sc_late : FnScope ["book", "letter", "promised"] ["book", "letter", "promised"] (defScope s_late) := ⟨rfl, rfl, rfl, by decide +kernel, rfl, by decide +kernel, by decide +kernel⟩
abbrev s_heard_ask : Stmt := top 6
theorem sc_heard_ask : FnScope ["book", "letter", "stamp", "page"] ["book", "letter"] (defScope s_heard_ask) := ⟨rfl, rfl, rfl, by decide +kernel, rfl, by decide +kernel, by decide +kernel⟩
abbrev s_heard_tell : Stmt := top 7
theorem sc_heard_tell : FnScope ["book", "letter", "stamp", "promised"] ["book", "letter"] (defScope s_heard_tell) := ⟨rfl, rfl, rfl, by decide +kernel, rfl, by decide +kernel, by decide +kernel⟩
abbrev s_heard : Stmt := top 8
theorem sc_heard : FnScope ["book", "letter"] ["book", "letter"] (defScope s_heard) := ⟨rfl, rfl, rfl, by decide +kernel, rfl, by decide +kernel, by decide +kernel⟩
abbrev s_law_cell_at : Stmt := top 10
theorem sc_law_cell_at : FnScope ["script", "k"] ["script", "k"] (defScope s_law_cell_at) := ⟨rfl, rfl, rfl, by decide +kernel, rfl, by decide +kernel, by decide +kernel⟩
abbrev s_law_told : Stmt := top 11
theorem sc_law_told : FnScope ["epoch", "stamp", "number"] ["epoch", "stamp"] (defScope s_law_told) := ⟨rfl, rfl, rfl, by decide +kernel, rfl, by decide +kernel, by decide +kernel⟩
abbrev s_law_letter : Stmt := top 12
theorem sc_law_letter : FnScope ["cell", "keeper", "epoch", "stamp", "load"] ["cell", "keeper"] (defScope s_law_letter) := ⟨rfl, rfl, rfl, by decide +kernel, rfl, by decide +kernel, by decide +kernel⟩
abbrev s_law_letters : Stmt := top 13
theorem sc_law_letters : FnScope ["script", "keeper", "letters", "cell"] ["script"] (defScope s_law_letters) := ⟨rfl, rfl, rfl, by decide +kernel, rfl, by decide +kernel, by decide +kernel⟩
abbrev s_law_step : Stmt := top 14
theorem sc_law_step : FnScope ["seen", "letter", "answer", "epoch", "stamp", "granted", "last"] ["seen", "letter", "answer"] (defScope s_law_step) := ⟨rfl, rfl, rfl, by decide +kernel, rfl, by decide +kernel, by decide +kernel⟩
abbrev s_law : Stmt := top 15
theorem sc_law : FnScope ["script", "book", "seen", "letter", "before", "answer", "behind"] ["script"] (defScope s_law) := ⟨rfl, rfl, rfl, by decide +kernel, rfl, by decide +kernel, by decide +kernel⟩
structure Txt [L2.TabP] (K : PySem.W.Frag) (mg : Str → Option Value) (base : Heap) : Prop where
  d_answer_to : Df K mg "answer_to" s_answer_to ["letter", "word", "load"]
  d_page_of : Df K mg "page_of" s_page_of ["book", "epoch"]
  d_with_page : Df K mg "with_page" s_with_page ["book", "epoch", "promised", "kept", "slate"]
  d_late : Df K mg "late" s_late ["book", "letter", "promised"]
  d_heard_ask : Df K mg "heard_ask" s_heard_ask ["book", "letter"]
  d_heard_tell : Df K mg "heard_tell" s_heard_tell ["book", "letter"]
  d_heard : Df K mg "heard" s_heard ["book", "letter"]
  d_law_cell_at : Df K mg "_law_cell_at" s_law_cell_at ["script", "k"]
  d_law_told : Df K mg "_law_told" s_law_told ["epoch", "stamp"]
  d_law_letter : Df K mg "_law_letter" s_law_letter ["cell", "keeper"]
  d_law_letters : Df K mg "_law_letters" s_law_letters ["script"]
  d_law_step : Df K mg "_law_step" s_law_step ["seen", "letter", "answer"]
  d_law : Df K mg "law" s_law ["script"]
  l_with_page : ∃ c Pt, Lm K c Pt (lamQ "with_page") ∧ ∀ (f : Addr) (oc : Value) (od : Option Addr) (kV doc pm : Value) (an : Option Addr) (cdv ct : Value) (osl : Array (Option Value)), mg "with_page" = some (.ref f) → K.lookup f = some ⟨oc, od, .func (PySem.W.fnOf "with_page" "with_page" (defArgs s_with_page) (defBody s_with_page) (defScope s_with_page) .none kV doc pm an cdv ct), osl⟩ → cdv = .ref c
  bm : Bm base mg
  B : Bl3 mg
  kt : Kit K
section
variable [L2.TabP] {P : Program} {w : World} {K : PySem.W.Frag} {mg : Str → Option Value} {base : Heap}
def b_answer_to : MS :=
    (cRet (cTup (cCons (cVar 1) (cCons (c2 oIx (cVar 0) (cK (.int 2))) (cCons (c2 oIx (cVar 0) (cK (.int 1))) (cCons (c2 oIx (cVar 0) (cK (.int 3))) (cCons (c2 oIx (cVar 0) (cK (.int 4))) (cCons (cVar 2) cNil))))))))
def m_answer_to : MF := fnOf 3 3 b_answer_to
theorem has_answer_to (T : Txt K mg base) : Has P w K mg base "answer_to" ["letter", "word", "load"] 1 (spF K mg m_answer_to) := by
  show Has P w K mg base _ _ _ (spF K mg (fnOf 3 3 b_answer_to))
  refine has_of (k := 0) T.d_answer_to sc_answer_to rfl rfl fun f cdv A outer s H E hr => ?_
  have hu := hr.units
  refine @WSs.un _ _ _ _ ?_
  refine @wss_one _ _ _ _ ?_
  · exact (ws_ret (we_tup (wa_cons (we_var 1) (wa_cons (we_ix ix_seq bIx (we_var 0) we_int (fun _ _ => rfl)) (wa_cons (we_ix ix_seq bIx (we_var 0) we_int (fun _ _ => rfl)) (wa_cons (we_ix ix_seq bIx (we_var 0) we_int (fun _ _ => rfl)) (wa_cons (we_ix ix_seq bIx (we_var 0) we_int (fun _ _ => rfl)) (wa_cons (we_var 2) wa_nil))))))))
def l_page_of_0 : MS :=
    (cIfS (cT (c2 oEq (c2 oIx (cVar 2) (cK (.int 0))) (cVar 1))) (cRet (cSl (cVar 2) (cPart (cK (.int 1))) cNoPart)) cPass)
def b_page_of_1 : MS :=
    (cRet (cTup (cCons (cTup (cCons (cK (.int 0)) (cCons (cK (.int 0)) cNil))) (cCons (cTup (cCons (cK (.int 0)) (cCons (cK (.int 0)) cNil))) (cCons (cK (.non)) cNil)))))
def b_page_of : MS :=
    cSeq (cFor 2 (iT (cVar 0)) l_page_of_0) b_page_of_1
def m_page_of : MF := fnOf 2 3 b_page_of
theorem has_page_of (T : Txt K mg base) : Has P w K mg base "page_of" ["book", "epoch"] 1 (spF K mg m_page_of) := by
  show Has P w K mg base _ _ _ (spF K mg (fnOf 2 3 b_page_of))
  refine has_of (k := 0) T.d_page_of sc_page_of rfl rfl fun f cdv A outer s H E hr => ?_
  have hu := hr.units
  refine @WSs.un _ _ _ _ ?_
  refine @wss_cons _ _ _ _ _ _ ?_ (@wss_one _ _ _ _ ?_)
  · exact (ws_for (i := 2) PassesOwn.never rfl (wf_tup (we_var 0)) sc_page_of.nd rfl (Or.inl rfl) (wss_one (ws_if (wt_cmp (op_eqD hu) bEq (we_ix ix_seq bIx (we_var 2) we_int (fun _ _ => rfl)) (we_var 1) (nomark _)) (wss_one (ws_ret (we_slice (we_var 2) (wo_some we_int) wo_none))) wss_nil)))
  · exact (ws_ret (we_tup (wa_cons (we_tup (wa_cons we_int (wa_cons we_int wa_nil))) (wa_cons (we_tup (wa_cons we_int (wa_cons we_int wa_nil))) (wa_cons we_non wa_nil)))))
def b_with_page_2 : MS :=
    (cRet (cB fTuple (cCons (cSortK koInt (fnOf 1 1 (cRet (c2 oIx (cVar 0) (cK (.int 0))))) (cVar 5)) cNil)))
def b_with_page_1 : MS :=
    cSeq (cMutS 5 uAppend (cCons (cTup (cCons (cVar 1) (cCons (cVar 2) (cCons (cVar 3) (cCons (cVar 4) cNil))))) cNil)) b_with_page_2
def b_with_page : MS :=
    cSeq (cOwn 5 (cComp 1 [1] (iT (cVar 0)) (cT (c2 oNe (c2 oIx (cVar 0) (cK (.int 0))) (cVar 1))) (cVar 0))) b_with_page_1
def m_with_page : MF := fnOf 5 6 b_with_page
theorem has_with_page (T : Txt K mg base) : Has P w K mg base "with_page" ["book", "epoch", "promised", "kept", "slate"] 4 (spF K mg m_with_page) := by
  show Has P w K mg base _ _ _ (spF K mg (fnOf 5 6 b_with_page))
  obtain ⟨c, Pt, L, hc⟩ := T.l_with_page
  refine has_ofL (k := 3) T.d_with_page hc sc_with_page rfl rfl fun f A outer s H E hr => ?_
  have hu := hr.units
  refine @WSs.un _ _ _ _ ?_
  refine @wss_cons _ _ _ _ _ _ ?_ (@wss_cons _ _ _ _ _ _ ?_ (@wss_one _ _ _ _ ?_))
  · exact (ws_asgO (i := 5) (esc := (defScope s_with_page)) (EN := ["book", "epoch", "promised", "kept", "slate", "pages"]) (N := ["page", "epoch"]) (n := 1) (cap := [1]) ⟨rfl, by decide +kernel, by decide +kernel, by decide +kernel, by decide +kernel, rfl, by decide +kernel⟩ sc_with_page.nd rfl rfl (by decide) (wc_tup (we_var 0)) rfl (fun _ _ _ _ => ⟨Or.inl rfl, rfl⟩) (fun _ _ _ _ => (wfs_one (wt_cmp (op_neD hu) bNe (we_ix ix_seq bIx (we_var 0) we_int (fun _ _ => rfl)) (we_var 1) (nomark _)))) (fun _ _ _ _ => (we_var 0)))
  · exact (ws_mut (i := 5) PySem.F.slot_list_append PySem.F.type_list_append mt_append mAppend (wa_cons (we_tup (wa_cons (we_var 1) (wa_cons (we_var 2) (wa_cons (we_var 3) (wa_cons (we_var 4) wa_nil))))) wa_nil) rfl (Or.inl rfl))
  · exact (ws_ret (we_callTy call_tuple_of kTuple rfl T.B.tuple' bt_tuple (wa_cons (we_sortL (k := 0) (N := ["page"]) (p1 := "page") koInt_ok rfl T.B.sorted (hr.mono (by omega)) L T.bm rfl rfl ⟨rfl, rfl, rfl, by decide +kernel, rfl, by decide +kernel, by decide +kernel⟩ (fun _ _ _ _ => rfl) (fun _ _ _ _ _ _ => (we_ix ix_seq bIx (we_var 0) we_int (fun _ _ => rfl))) (we_var 5)) wa_nil)))
def b_late : MS :=
    (cRet (cTup (cCons (cVar 0) (cCons (cCall m_answer_to (cCons (cVar 1) (cCons (cK (.str "late")) (cCons (cTup (cCons (cVar 2) cNil)) cNil)))) cNil))))
def m_late : MF := fnOf 3 3 b_late
theorem has_late (T : Txt K mg base) : Has P w K mg base "late" ["book", "letter", "promised"] 2 (spF K mg m_late) := by
  show Has P w K mg base _ _ _ (spF K mg (fnOf 3 3 b_late))
  refine has_of (k := 1) T.d_late sc_late rfl rfl fun f cdv A outer s H E hr => ?_
  have hu := hr.units
  refine @WSs.un _ _ _ _ ?_
  refine @wss_one _ _ _ _ ?_
  · exact (ws_ret (we_tup (wa_cons (we_var 0) (wa_cons (we_call (has_answer_to T) (hr.mono (by omega)) rfl (wa_cons (we_var 1) (wa_cons we_str (wa_cons (we_tup (wa_cons (we_var 2) wa_nil)) wa_nil)))) wa_nil))))
def b_heard_ask_3 : MS :=
    (cRet (cTup (cCons (cCall m_with_page (cCons (cVar 0) (cCons (c2 oIx (cVar 1) (cK (.int 3))) (cCons (cVar 2) (cCons (c2 oIx (cVar 3) (cK (.int 1))) (cCons (c2 oIx (cVar 3) (cK (.int 2))) cNil)))))) (cCons (cCall m_answer_to (cCons (cVar 1) (cCons (cK (.str "grant")) (cCons (cSl (cVar 3) (cPart (cK (.int 1))) cNoPart) cNil)))) cNil))))
def b_heard_ask_2 : MS :=
    cSeq (cIfS (cT (c2 (oCmpT lexLe) (cVar 2) (c2 oIx (cVar 3) (cK (.int 0))))) (cRet (cCall m_late (cCons (cVar 0) (cCons (cVar 1) (cCons (c2 oIx (cVar 3) (cK (.int 0))) cNil))))) cPass) b_heard_ask_3
def b_heard_ask_1 : MS :=
    cSeq (cSet 3 (cCall m_page_of (cCons (cVar 0) (cCons (c2 oIx (cVar 1) (cK (.int 3))) cNil)))) b_heard_ask_2
def b_heard_ask : MS :=
    cSeq (cSet 2 (c2 oIx (cVar 1) (cK (.int 4)))) b_heard_ask_1
def m_heard_ask : MF := fnOf 2 4 b_heard_ask
theorem has_heard_ask (T : Txt K mg base) : Has P w K mg base "heard_ask" ["book", "letter"] 5 (spF K mg m_heard_ask) := by
  show Has P w K mg base _ _ _ (spF K mg (fnOf 2 4 b_heard_ask))
  refine has_of (k := 4) T.d_heard_ask sc_heard_ask rfl rfl fun f cdv A outer s H E hr => ?_
  have hu := hr.units
  refine @WSs.un _ _ _ _ ?_
  refine @wss_cons _ _ _ _ _ _ ?_ (@wss_cons _ _ _ _ _ _ ?_ (@wss_cons _ _ _ _ _ _ ?_ (@wss_one _ _ _ _ ?_)))
  · exact (ws_set (i := 2) sc_heard_ask.nd rfl (Or.inl rfl) (we_ix ix_seq bIx (we_var 1) we_int (fun _ _ => rfl)))
  · exact (ws_set (i := 3) sc_heard_ask.nd rfl (Or.inl rfl) (we_call (has_page_of T) (hr.mono (by omega)) rfl (wa_cons (we_var 0) (wa_cons (we_ix ix_seq bIx (we_var 1) we_int (fun _ _ => rfl)) wa_nil))))
  · exact (ws_if (wt_cmp (op_leTup hu) bCmpT (we_var 2) (we_ix ix_seq bIx (we_var 3) we_int (fun _ _ => rfl)) (nomark _)) (wss_one (ws_ret (we_call (has_late T) (hr.mono (by omega)) rfl (wa_cons (we_var 0) (wa_cons (we_var 1) (wa_cons (we_ix ix_seq bIx (we_var 3) we_int (fun _ _ => rfl)) wa_nil)))))) wss_nil)
  · exact (ws_ret (we_tup (wa_cons (we_call (has_with_page T) (hr.mono (by omega)) rfl (wa_cons (we_var 0) (wa_cons (we_ix ix_seq bIx (we_var 1) we_int (fun _ _ => rfl)) (wa_cons (we_var 2) (wa_cons (we_ix ix_seq bIx (we_var 3) we_int (fun _ _ => rfl)) (wa_cons (we_ix ix_seq bIx (we_var 3) we_int (fun _ _ => rfl)) wa_nil)))))) (wa_cons (we_call (has_answer_to T) (hr.mono (by omega)) rfl (wa_cons (we_var 1) (wa_cons we_str (wa_cons (we_slice (we_var 3) (wo_some we_int) wo_none) wa_nil)))) wa_nil))))
def b_heard_tell_3 : MS :=
    (cRet (cTup (cCons (cCall m_with_page (cCons (cVar 0) (cCons (c2 oIx (cVar 1) (cK (.int 3))) (cCons (cVar 2) (cCons (cVar 2) (cCons (c2 oIx (c2 oIx (cVar 1) (cK (.int 5))) (cK (.int 3))) cNil)))))) (cCons (cCall m_answer_to (cCons (cVar 1) (cCons (cK (.str "kept")) (cCons (cTup cNil) cNil)))) cNil))))
def b_heard_tell_2 : MS :=
    cSeq (cIfS (cT (c2 (oCmpT lexLt) (cVar 2) (cVar 3))) (cRet (cCall m_late (cCons (cVar 0) (cCons (cVar 1) (cCons (cVar 3) cNil))))) cPass) b_heard_tell_3
def b_heard_tell_1 : MS :=
    cSeq (cSet 3 (c2 oIx (cCall m_page_of (cCons (cVar 0) (cCons (c2 oIx (cVar 1) (cK (.int 3))) cNil))) (cK (.int 0)))) b_heard_tell_2
def b_heard_tell : MS :=
    cSeq (cSet 2 (c2 oIx (cVar 1) (cK (.int 4)))) b_heard_tell_1
def m_heard_tell : MF := fnOf 2 4 b_heard_tell
theorem has_heard_tell (T : Txt K mg base) : Has P w K mg base "heard_tell" ["book", "letter"] 5 (spF K mg m_heard_tell) := by
  show Has P w K mg base _ _ _ (spF K mg (fnOf 2 4 b_heard_tell))
  refine has_of (k := 4) T.d_heard_tell sc_heard_tell rfl rfl fun f cdv A outer s H E hr => ?_
  have hu := hr.units
  refine @WSs.un _ _ _ _ ?_
  refine @wss_cons _ _ _ _ _ _ ?_ (@wss_cons _ _ _ _ _ _ ?_ (@wss_cons _ _ _ _ _ _ ?_ (@wss_one _ _ _ _ ?_)))
  · exact (ws_set (i := 2) sc_heard_tell.nd rfl (Or.inl rfl) (we_ix ix_seq bIx (we_var 1) we_int (fun _ _ => rfl)))
  · exact (ws_set (i := 3) sc_heard_tell.nd rfl (Or.inl rfl) (we_ix ix_seq bIx (we_call (has_page_of T) (hr.mono (by omega)) rfl (wa_cons (we_var 0) (wa_cons (we_ix ix_seq bIx (we_var 1) we_int (fun _ _ => rfl)) wa_nil))) we_int (fun _ _ => rfl)))
  · exact (ws_if (wt_cmp (op_ltTup hu) bCmpT (we_var 2) (we_var 3) (nomark _)) (wss_one (ws_ret (we_call (has_late T) (hr.mono (by omega)) rfl (wa_cons (we_var 0) (wa_cons (we_var 1) (wa_cons (we_var 3) wa_nil)))))) wss_nil)
  · exact (ws_ret (we_tup (wa_cons (we_call (has_with_page T) (hr.mono (by omega)) rfl (wa_cons (we_var 0) (wa_cons (we_ix ix_seq bIx (we_var 1) we_int (fun _ _ => rfl)) (wa_cons (we_var 2) (wa_cons (we_var 2) (wa_cons (we_ix ix_seq bIx (we_ix ix_seq bIx (we_var 1) we_int (fun _ _ => rfl)) we_int (fun _ _ => rfl)) wa_nil)))))) (wa_cons (we_call (has_answer_to T) (hr.mono (by omega)) rfl (wa_cons (we_var 1) (wa_cons we_str (wa_cons (we_tup wa_nil) wa_nil)))) wa_nil))))
def b_heard_1 : MS :=
    (cRet (cCall m_heard_tell (cCons (cVar 0) (cCons (cVar 1) cNil))))
def b_heard : MS :=
    cSeq (cIfS (cT (c2 oEq (c2 oIx (cVar 1) (cK (.int 0))) (cK (.str "ask")))) (cRet (cCall m_heard_ask (cCons (cVar 0) (cCons (cVar 1) cNil)))) cPass) b_heard_1
def m_heard : MF := fnOf 2 2 b_heard
theorem has_heard (T : Txt K mg base) : Has P w K mg base "heard" ["book", "letter"] 6 (spF K mg m_heard) := by
  show Has P w K mg base _ _ _ (spF K mg (fnOf 2 2 b_heard))
  refine has_of (k := 5) T.d_heard sc_heard rfl rfl fun f cdv A outer s H E hr => ?_
  have hu := hr.units
  refine @WSs.un _ _ _ _ ?_
  refine @wss_cons _ _ _ _ _ _ ?_ (@wss_one _ _ _ _ ?_)
  · exact (ws_if (wt_cmp (op_eqD hu) bEq (we_ix ix_seq bIx (we_var 1) we_int (fun _ _ => rfl)) we_str (nomark _)) (wss_one (ws_ret (we_call (has_heard_ask T) (hr.mono (by omega)) rfl (wa_cons (we_var 0) (wa_cons (we_var 1) wa_nil))))) wss_nil)
  · exact (ws_ret (we_call (has_heard_tell T) (hr.mono (by omega)) rfl (wa_cons (we_var 0) (wa_cons (we_var 1) wa_nil))))
def b_law_cell_at_1 : MS :=
    (cRet (cK (.int 0)))
def b_law_cell_at : MS :=
    cSeq (cIfS (cT (c2 oLt (cVar 1) (cB fLen (cCons (cVar 0) cNil)))) (cRet (c2 oIx (cVar 0) (cVar 1))) cPass) b_law_cell_at_1
def m_law_cell_at : MF := fnOf 2 2 b_law_cell_at
theorem has_law_cell_at (T : Txt K mg base) : Has P w K mg base "_law_cell_at" ["script", "k"] 1 (spF K mg m_law_cell_at) := by
  show Has P w K mg base _ _ _ (spF K mg (fnOf 2 2 b_law_cell_at))
  refine has_of (k := 0) T.d_law_cell_at sc_law_cell_at rfl rfl fun f cdv A outer s H E hr => ?_
  have hu := hr.units
  refine @WSs.un _ _ _ _ ?_
  refine @wss_cons _ _ _ _ _ _ ?_ (@wss_one _ _ _ _ ?_)
  · exact (ws_if (wt_cmp op_lt bLt (we_var 1) (we_callB call_len_seq kLen rfl T.B.len bt_len (wa_cons (we_var 0) wa_nil)) (nomark _)) (wss_one (ws_ret (we_ix ix_seq bIx (we_var 0) (we_var 1) (fun _ _ => rfl)))) wss_nil)
  · exact (ws_ret we_int)
def b_law_told_1 : MS :=
    (cRet (cTup (cCons (cTup (cCons (cTup (cCons (cK (.str "cell")) (cCons (cVar 2) cNil))) cNil)) (cCons (cTup (cCons (cTup (cCons (c2 oIx (cVar 1) (cK (.int 1))) (cCons (c2 oIx (cVar 1) (cK (.int 0))) (cCons (cVar 2) cNil)))) cNil)) (cCons (cTup (cCons (c2 oDivB (c2 oIx (cVar 1) (cK (.int 0))) (cK (.int 2))) (cCons (cK (.non)) cNil))) (cCons (cK (.non)) cNil))))))
def b_law_told : MS :=
    cSeq (cSet 2 (c2 oAdd (c2 oAdd (cK (.int 1)) (cVar 0)) (c2 oMulB (cK (.int 3)) (c2 oAdd (c2 oIx (cVar 1) (cK (.int 1))) (c2 oMulB (cK (.int 6)) (c2 oIx (cVar 1) (cK (.int 0)))))))) b_law_told_1
def m_law_told : MF := fnOf 2 3 b_law_told
theorem has_law_told (T : Txt K mg base) : Has P w K mg base "_law_told" ["epoch", "stamp"] 1 (spF K mg m_law_told) := by
  show Has P w K mg base _ _ _ (spF K mg (fnOf 2 3 b_law_told))
  refine has_of (k := 0) T.d_law_told sc_law_told rfl rfl fun f cdv A outer s H E hr => ?_
  have hu := hr.units
  refine @WSs.un _ _ _ _ ?_
  refine @wss_cons _ _ _ _ _ _ ?_ (@wss_one _ _ _ _ ?_)
  · exact (ws_set (i := 2) sc_law_told.nd rfl (Or.inl rfl) (we_op op_add bAdd (we_op op_add bAdd we_int (we_var 0)) (we_op op_mulB bMulB we_int (we_op op_add bAdd (we_ix ix_seq bIx (we_var 1) we_int (fun _ _ => rfl)) (we_op op_mulB bMulB we_int (we_ix ix_seq bIx (we_var 1) we_int (fun _ _ => rfl)))))))
  · exact (ws_ret (we_tup (wa_cons (we_tup (wa_cons (we_tup (wa_cons we_str (wa_cons (we_var 2) wa_nil))) wa_nil)) (wa_cons (we_tup (wa_cons (we_tup (wa_cons (we_ix ix_seq bIx (we_var 1) we_int (fun _ _ => rfl)) (wa_cons (we_ix ix_seq bIx (we_var 1) we_int (fun _ _ => rfl)) (wa_cons (we_var 2) wa_nil)))) wa_nil)) (wa_cons (we_tup (wa_cons (we_op op_fdivB bDivB (we_ix ix_seq bIx (we_var 1) we_int (fun _ _ => rfl)) we_int) (wa_cons we_non wa_nil))) (wa_cons we_non wa_nil))))))
def b_law_letter_5 : MS :=
    (cRet (cTup (cCons (cK (.str "tell")) (cCons (c2 oIx (cVar 3) (cK (.int 1))) (cCons (cVar 1) (cCons (cVar 2) (cCons (cVar 3) (cCons (cVar 4) cNil))))))))
def b_law_letter_4 : MS :=
    cSeq (cSet 4 (cTup (cCons (cTup (cCons (cK (.int 0)) (cCons (cK (.int 0)) cNil))) (cCons (c2 oIx (cVar 3) (cK (.int 0))) (cCons (cTup (cCons (cK (.str "put")) (cCons (cK (.str "cell")) (cCons (c2 oAdd (c2 oAdd (cK (.int 1)) (cVar 2)) (c2 oMulB (cK (.int 3)) (c2 oAdd (c2 oIx (cVar 3) (cK (.int 1))) (c2 oMulB (cK (.int 6)) (c2 oIx (cVar 3) (cK (.int 0))))))) cNil)))) (cCons (cCall m_law_told (cCons (cVar 2) (cCons (cVar 3) cNil))) cNil)))))) b_law_letter_5
def b_law_letter_3 : MS :=
    cSeq (cIfS (cT (c2 oLt (c2 oMod (cVar 0) (cK (.int 4))) (cK (.int 2)))) (cRet (cTup (cCons (cK (.str "ask")) (cCons (c2 oIx (cVar 3) (cK (.int 1))) (cCons (cVar 1) (cCons (cVar 2) (cCons (cVar 3) (cCons (cTup cNil) cNil)))))))) cPass) b_law_letter_4
def b_law_letter_2 : MS :=
    cSeq (cIfS (cT (c2 oEq (c2 oMod (c2 oDivB (cVar 0) (cK (.int 84))) (cK (.int 5))) (cK (.int 0)))) (cSet 3 (cTup (cCons (c2 oAdd (c2 oIx (cVar 3) (cK (.int 0))) (c2 oPow (cK (.int 10)) (cK (.int 20)))) (cCons (c2 oIx (cVar 3) (cK (.int 1))) cNil)))) cPass) b_law_letter_3
def b_law_letter_1 : MS :=
    cSeq (cSet 3 (cTup (cCons (c2 oAdd (cK (.int 1)) (c2 oMod (c2 oDivB (cVar 0) (cK (.int 12))) (cK (.int 7)))) (cCons (c2 oMod (c2 oDivB (cVar 0) (cK (.int 420))) (cK (.int 4))) cNil)))) b_law_letter_2
def b_law_letter : MS :=
    cSeq (cSet 2 (c2 oMod (c2 oDivB (cVar 0) (cK (.int 4))) (cK (.int 3)))) b_law_letter_1
def m_law_letter : MF := fnOf 2 5 b_law_letter
theorem has_law_letter (T : Txt K mg base) : Has P w K mg base "_law_letter" ["cell", "keeper"] 2 (spF K mg m_law_letter) := by
  show Has P w K mg base _ _ _ (spF K mg (fnOf 2 5 b_law_letter))
  refine has_of (k := 1) T.d_law_letter sc_law_letter rfl rfl fun f cdv A outer s H E hr => ?_
  have hu := hr.units
  refine @WSs.un _ _ _ _ ?_
  refine @wss_cons _ _ _ _ _ _ ?_ (@wss_cons _ _ _ _ _ _ ?_ (@wss_cons _ _ _ _ _ _ ?_ (@wss_cons _ _ _ _ _ _ ?_ (@wss_cons _ _ _ _ _ _ ?_ (@wss_one _ _ _ _ ?_)))))
  · exact (ws_set (i := 2) sc_law_letter.nd rfl (Or.inl rfl) (we_op op_mod bMod (we_op op_fdivB bDivB (we_var 0) we_int) we_int))
  · exact (ws_set (i := 3) sc_law_letter.nd rfl (Or.inl rfl) (we_tup (wa_cons (we_op op_add bAdd we_int (we_op op_mod bMod (we_op op_fdivB bDivB (we_var 0) we_int) we_int)) (wa_cons (we_op op_mod bMod (we_op op_fdivB bDivB (we_var 0) we_int) we_int) wa_nil))))
  · exact (ws_if (wt_cmp (op_eqD hu) bEq (we_op op_mod bMod (we_op op_fdivB bDivB (we_var 0) we_int) we_int) we_int (nomark _)) (wss_one (ws_set (i := 3) sc_law_letter.nd rfl (Or.inl rfl) (we_tup (wa_cons (we_op op_add bAdd (we_ix ix_seq bIx (we_var 3) we_int (fun _ _ => rfl)) (we_op op_pow bPow we_int we_int)) (wa_cons (we_ix ix_seq bIx (we_var 3) we_int (fun _ _ => rfl)) wa_nil))))) wss_nil)
  · exact (ws_if (wt_cmp op_lt bLt (we_op op_mod bMod (we_var 0) we_int) we_int (nomark _)) (wss_one (ws_ret (we_tup (wa_cons we_str (wa_cons (we_ix ix_seq bIx (we_var 3) we_int (fun _ _ => rfl)) (wa_cons (we_var 1) (wa_cons (we_var 2) (wa_cons (we_var 3) (wa_cons (we_tup wa_nil) wa_nil))))))))) wss_nil)
  · exact (ws_set (i := 4) sc_law_letter.nd rfl (Or.inl rfl) (we_tup (wa_cons (we_tup (wa_cons we_int (wa_cons we_int wa_nil))) (wa_cons (we_ix ix_seq bIx (we_var 3) we_int (fun _ _ => rfl)) (wa_cons (we_tup (wa_cons we_str (wa_cons we_str (wa_cons (we_op op_add bAdd (we_op op_add bAdd we_int (we_var 2)) (we_op op_mulB bMulB we_int (we_op op_add bAdd (we_ix ix_seq bIx (we_var 3) we_int (fun _ _ => rfl)) (we_op op_mulB bMulB we_int (we_ix ix_seq bIx (we_var 3) we_int (fun _ _ => rfl)))))) wa_nil)))) (wa_cons (we_call (has_law_told T) (hr.mono (by omega)) rfl (wa_cons (we_var 2) (wa_cons (we_var 3) wa_nil))) wa_nil))))))
  · exact (ws_ret (we_tup (wa_cons we_str (wa_cons (we_ix ix_seq bIx (we_var 3) we_int (fun _ _ => rfl)) (wa_cons (we_var 1) (wa_cons (we_var 2) (wa_cons (we_var 3) (wa_cons (we_var 4) wa_nil))))))))
def l_law_letters_0 : MS :=
    (cIfS (tAndM (cT (c2 oEq (c2 oMod (cVar 3) (cK (.int 4))) (cK (.int 3)))) (cT (c2 oGt (cB fLen (cCons (cVar 2) cNil)) (cK (.int 0))))) (cMutS 2 uAppend (cCons (c2 oIx (cVar 2) (c2 oMod (c2 oDivB (cVar 3) (cK (.int 4))) (cB fLen (cCons (cVar 2) cNil)))) cNil)) (cMutS 2 uAppend (cCons (cCall m_law_letter (cCons (cVar 3) (cCons (cVar 1) cNil))) cNil)))
def b_law_letters_3 : MS :=
    (cRetO 2)
def b_law_letters_2 : MS :=
    cSeq (cFor 3 (iL (cSl (cVar 0) cNoPart (cPart (cK (.int 63))))) l_law_letters_0) b_law_letters_3
def b_law_letters_1 : MS :=
    cSeq (cOwn 2 (cLst cNil)) b_law_letters_2
def b_law_letters : MS :=
    cSeq (cSet 1 (c2 oMod (cCall m_law_cell_at (cCons (cVar 0) (cCons (cK (.int 0)) cNil))) (cK (.int 6)))) b_law_letters_1
def m_law_letters : MF := fnOf 1 4 b_law_letters
theorem has_law_letters (T : Txt K mg base) : Has P w K mg base "_law_letters" ["script"] 3 (spF K mg m_law_letters) := by
  show Has P w K mg base _ _ _ (spF K mg (fnOf 1 4 b_law_letters))
  refine has_of (k := 2) T.d_law_letters sc_law_letters rfl rfl fun f cdv A outer s H E hr => ?_
  have hu := hr.units
  refine @WSs.un _ _ _ _ ?_
  refine @wss_cons _ _ _ _ _ _ ?_ (@wss_cons _ _ _ _ _ _ ?_ (@wss_cons _ _ _ _ _ _ ?_ (@wss_one _ _ _ _ ?_)))
  · exact (ws_set (i := 1) sc_law_letters.nd rfl (Or.inl rfl) (we_op op_mod bMod (we_call (has_law_cell_at T) (hr.mono (by omega)) rfl (wa_cons (we_var 0) (wa_cons we_int wa_nil))) we_int))
  · exact (ws_own (i := 2) sc_law_letters.nd rfl (Or.inl rfl) (we_lst wa_nil))
  · exact (ws_for (i := 3) PassesOwn.never rfl (wf_list (we_slice (we_var 0) wo_none (wo_some we_int))) sc_law_letters.nd rfl (Or.inl rfl) (wss_one (ws_if (WW.ct (ww_and (wt_cmp (op_eqD hu) bEq (we_op op_mod bMod (we_var 3) we_int) we_int (nomark _)) (ww_and1 (wt_cmp op_gt bGt (we_callB call_len_seq kLen rfl T.B.len bt_len (wa_cons (we_var 2) wa_nil)) we_int (nomark _))))) (wss_one (ws_mut (i := 2) PySem.F.slot_list_append PySem.F.type_list_append mt_append mAppend (wa_cons (we_ix ix_seq bIx (we_var 2) (we_op op_mod bMod (we_op op_fdivB bDivB (we_var 3) we_int) (we_callB call_len_seq kLen rfl T.B.len bt_len (wa_cons (we_var 2) wa_nil))) (fun _ _ => rfl)) wa_nil) rfl (Or.inl rfl))) (wss_one (ws_mut (i := 2) PySem.F.slot_list_append PySem.F.type_list_append mt_append mAppend (wa_cons (we_call (has_law_letter T) (hr.mono (by omega)) rfl (wa_cons (we_var 3) (wa_cons (we_var 1) wa_nil))) wa_nil) rfl (Or.inl rfl))))))
  · exact (ws_retO 2)
def q4_law_step : MSq :=
    (qIf (cT (c2 oEq (c2 oIx (cVar 2) (cK (.int 0))) (cK (.str "grant")))) (qSeq (qIf (tOrM (cT (c2 oNe (c2 oIx (cVar 1) (cK (.int 0))) (cK (.str "ask")))) (tOrM (cT (c2 oInD (cVar 4) (cVar 5))) (cT (c2 oNe (c2 oIx (cVar 2) (cK (.int 5))) (cVar 6))))) (qRet (cK (.bl false))) qPass)
    (qSeq (qIf (tAndM (cT (c2 oGt (cB fLen (cCons (cVar 5) cNil)) (cK (.int 0)))) (cT (c2 (oCmpT lexGt) (cB fMaxT (cCons (cVar 5) cNil)) (cVar 4)))) (qRet (cK (.bl false))) qPass)
    (qSeq (qOf (cMutS 5 uAppend (cCons (cVar 4) cNil)))
    (qRet (cNot (c2 (oCmpT lexLt) (cVar 4) (c2 oIx (cVar 6) (cK (.int 0))))))))) qPass)
def qc_law_step : MSq :=
    (qIf (tOrM (cT (c2 oNe (c2 oIx (cVar 1) (cK (.int 0))) (cK (.str "tell")))) (tAndM (cT (c2 oGt (cB fLen (cCons (cVar 5) cNil)) (cK (.int 0)))) (cT (c2 (oCmpT lexGt) (cB fMaxT (cCons (cVar 5) cNil)) (cVar 4))))) (qRet (cK (.bl false))) qPass)
def q5_law_step : MSq :=
    (qRet (cNot (c2 (oCmpT lexLt) (cVar 4) (c2 oIx (cVar 6) (cK (.int 0))))))
def qr_law_step : MSq :=
    (qSeq (qIf (tOrM (cT (c2 oNe (c2 oIx (cVar 2) (cK (.int 0))) (cK (.str "late")))) (cT (c2 oNe (cB fLen (cCons (c2 oIx (cVar 2) (cK (.int 5))) cNil)) (cK (.int 1))))) (qRet (cK (.bl false))) qPass)
    (qSeq (qIf (cT (c2 oEq (c2 oIx (cVar 1) (cK (.int 0))) (cK (.str "ask")))) (qRet (cNot (c2 (oCmpT lexLt) (c2 oIx (c2 oIx (cVar 2) (cK (.int 5))) (cK (.int 0))) (cVar 4)))) qPass)
    (qRet (c2 (oCmpT lexLt) (cVar 4) (c2 oIx (c2 oIx (cVar 2) (cK (.int 5))) (cK (.int 0)))))))
def b_law_step : MSq :=
    (qSeq (qOf (cSet 3 (c2 oIx (cVar 1) (cK (.int 3)))))
    (qSeq (qOf (cSet 4 (c2 oIx (cVar 1) (cK (.int 4)))))
    (qLoan 5 6 0 3 (pDi (pVar 0) (cVar 3)) q4_law_step (cT (c2 oEq (c2 oIx (cVar 2) (cK (.int 0))) (cK (.str "kept")))) qc_law_step (cTup (cCons (cVar 4) (cCons (c2 oIx (c2 oIx (cVar 1) (cK (.int 5))) (cK (.int 3))) cNil))) q5_law_step qr_law_step)))
def m_law_step : MTB := fnTB 1 3 7 b_law_step
theorem has_law_step (T : Txt K mg base) : Has P w K mg base "_law_step" ["seen", "letter", "answer"] 1 (spTB K mg m_law_step) := by
  show Has P w K mg base _ _ _ (spTB K mg (fnTB 1 3 7 b_law_step))
  refine has_tb (k := 0) T.d_law_step sc_law_step rfl rfl fun f cdv A outer s H E hr => ?_
  have hu := hr.units
  exact (cqs_cons (wq_of (ws_set (i := 3) sc_law_step.nd rfl (Or.inl rfl) (we_ix ix_seq bIx (we_var 1) we_int (fun _ _ => rfl))))
    (cqs_cons (wq_of (ws_set (i := 4) sc_law_step.nd rfl (Or.inl rfl) (we_ix ix_seq bIx (we_var 1) we_int (fun _ _ => rfl))))
    (cqs_loan (g := 5) (l := 6) (j := 0) (ie := 3) rfl hu (pgs_names_cons sc_law_step.nd rfl (Or.inl rfl) (pgs_names_cons sc_law_step.nd rfl (Or.inl rfl) pgs_names_nil)) (wp_di hu (wp_var 0) (we_var 3)) (wq_if (wt_cmp (op_eqD hu) bEq (we_ix ix_seq bIx (we_var 2) we_int (fun _ _ => rfl)) we_str (nomark _)) (cqs_cons (wq_if (WW.ct (ww_or (wt_cmp (op_neD hu) bNe (we_ix ix_seq bIx (we_var 1) we_int (fun _ _ => rfl)) we_str (nomark _)) (ww_or (wt_cmp (op_inD hu) bInD (we_var 4) (we_var 5) rfl) (ww_or1 (wt_cmp (op_neD hu) bNe (we_ix ix_seq bIx (we_var 2) we_int (fun _ _ => rfl)) (we_var 6) (nomark _)))))) (cqs_one (wq_ret we_bl)) cqs_nil)
    (cqs_cons (wq_if (WW.ct (ww_and (wt_cmp op_gt bGt (we_callB call_len_seq kLen rfl T.B.len bt_len (wa_cons (we_var 5) wa_nil)) we_int (nomark _)) (ww_and1 (wt_cmp (op_gtTup hu) bCmpT (we_callB (call_maxT rfl hu) kMaxT rfl T.B.max bt_max (wa_cons (we_var 5) wa_nil)) (we_var 4) (nomark _))))) (cqs_one (wq_ret we_bl)) cqs_nil)
    (cqs_cons (wq_of (ws_mut (i := 5) PySem.F.slot_list_append PySem.F.type_list_append mt_append mAppend (wa_cons (we_var 4) wa_nil) rfl (Or.inl rfl)))
    (cqs_one (wq_ret (we_not (we_cmp (op_ltTup hu) bCmpT (we_var 4) (we_ix ix_seq bIx (we_var 6) we_int (fun _ _ => rfl)) (nomark _)))))))) cqs_nil) (wt_cmp (op_eqD hu) bEq (we_ix ix_seq bIx (we_var 2) we_int (fun _ _ => rfl)) we_str (nomark _)) (wq_if (WW.ct (ww_or (wt_cmp (op_neD hu) bNe (we_ix ix_seq bIx (we_var 1) we_int (fun _ _ => rfl)) we_str (nomark _)) (ww_or1 (WW.ct (ww_and (wt_cmp op_gt bGt (we_callB call_len_seq kLen rfl T.B.len bt_len (wa_cons (we_var 5) wa_nil)) we_int (nomark _)) (ww_and1 (wt_cmp (op_gtTup hu) bCmpT (we_callB (call_maxT rfl hu) kMaxT rfl T.B.max bt_max (wa_cons (we_var 5) wa_nil)) (we_var 4) (nomark _)))))))) (cqs_one (wq_ret we_bl)) cqs_nil) rfl (Or.inl rfl) rfl (Or.inl rfl) rfl (Or.inl rfl) (we_tup (wa_cons (we_var 4) (wa_cons (we_ix ix_seq bIx (we_ix ix_seq bIx (we_var 1) we_int (fun _ _ => rfl)) we_int (fun _ _ => rfl)) wa_nil))) (wq_ret (we_not (we_cmp (op_ltTup hu) bCmpT (we_var 4) (we_ix ix_seq bIx (we_var 6) we_int (fun _ _ => rfl)) (nomark _)))) (cqs_cons (wq_if (WW.ct (ww_or (wt_cmp (op_neD hu) bNe (we_ix ix_seq bIx (we_var 2) we_int (fun _ _ => rfl)) we_str (nomark _)) (ww_or1 (wt_cmp (op_neD hu) bNe (we_callB call_len_seq kLen rfl T.B.len bt_len (wa_cons (we_ix ix_seq bIx (we_var 2) we_int (fun _ _ => rfl)) wa_nil)) we_int (nomark _))))) (cqs_one (wq_ret we_bl)) cqs_nil)
    (cqs_cons (wq_if (wt_cmp (op_eqD hu) bEq (we_ix ix_seq bIx (we_var 1) we_int (fun _ _ => rfl)) we_str (nomark _)) (cqs_one (wq_ret (we_not (we_cmp (op_ltTup hu) bCmpT (we_ix ix_seq bIx (we_ix ix_seq bIx (we_var 2) we_int (fun _ _ => rfl)) we_int (fun _ _ => rfl)) (we_var 4) (nomark _))))) cqs_nil)
    (cqs_one (wq_ret (we_cmp (op_ltTup hu) bCmpT (we_var 4) (we_ix ix_seq bIx (we_ix ix_seq bIx (we_var 2) we_int (fun _ _ => rfl)) we_int (fun _ _ => rfl)) (nomark _)))))))))
def l_law_0 : MS :=
    (cSeq (cSet 4 (cCall m_page_of (cCons (cVar 1) (cCons (c2 oIx (cVar 3) (cK (.int 3))) cNil))))
    (cSeq (cUnp [1, 5] (cCall m_heard (cCons (cVar 1) (cCons (cVar 3) cNil))))
    (cSeq (cSet 6 (cCall m_page_of (cCons (cVar 1) (cCons (c2 oIx (cVar 3) (cK (.int 3))) cNil))))
    (cSeq (cIfS (tOrM (cT (c2 (oCmpT lexLt) (c2 oIx (cVar 6) (cK (.int 0))) (c2 oIx (cVar 4) (cK (.int 0))))) (cT (c2 (oCmpT lexLt) (c2 oIx (cVar 6) (cK (.int 0))) (c2 oIx (cVar 6) (cK (.int 1)))))) (cRet (cK (.bl false))) cPass)
    (cSeq (cIfS (cT (c2 oNe (cSl (cVar 5) (cPart (cK (.int 1))) (cPart (cK (.int 5)))) (cTup (cCons (c2 oIx (cVar 3) (cK (.int 2))) (cCons (c2 oIx (cVar 3) (cK (.int 1))) (cCons (c2 oIx (cVar 3) (cK (.int 3))) (cCons (c2 oIx (cVar 3) (cK (.int 4))) cNil))))))) (cRet (cK (.bl false))) cPass)
    (cSeq (cIfTB 2 m_law_step (cCons (cVar 3) (cCons (cVar 5) cNil)) (cRet (cK (.bl false))) cPass)
    (cIfS (cT (c2 oNe (cSl (cVar 6) (cPart (cK (.int 1))) cNoPart) (cLeaf (pIt (pDi (pVar 2) (c2 oIx (cVar 3) (cK (.int 3)))) (cK (.int 1)))))) (cRet (cK (.bl false))) cPass)))))))
def b_law_3 : MS :=
    (cRet (cK (.bl true)))
def b_law_2 : MS :=
    cSeq (cFor 3 (iL (cCall m_law_letters (cCons (cVar 0) cNil))) l_law_0) b_law_3
def b_law_1 : MS :=
    cSeq (cTSet 2 (vDict [.inl 0, .inl 1, .inl 2] (vCons (vTup (vCons (vOwn (cLst cNil)) (vCons (vLeaf (cTup (cCons (cTup (cCons (cK (.int 0)) (cCons (cK (.int 0)) cNil))) (cCons (cK (.non)) cNil)))) vNil))) (vCons (vTup (vCons (vOwn (cLst cNil)) (vCons (vLeaf (cTup (cCons (cTup (cCons (cK (.int 0)) (cCons (cK (.int 0)) cNil))) (cCons (cK (.non)) cNil)))) vNil))) (vCons (vTup (vCons (vOwn (cLst cNil)) (vCons (vLeaf (cTup (cCons (cTup (cCons (cK (.int 0)) (cCons (cK (.int 0)) cNil))) (cCons (cK (.non)) cNil)))) vNil))) vNil))))) b_law_2
def b_law : MS :=
    cSeq (cSet 1 (cTup cNil)) b_law_1
def m_law : MF := fnOf 1 7 b_law
theorem ok_law (T : Txt K mg base) {f : Addr} {fd : FuncData} (F : Fun K "law" "law" s_law f fd) : FnOk P w K mg base CX0 7 f fd ["script"] (spF K mg m_law) := by
  show FnOk P w K mg base CX0 _ f fd _ (spF K mg (fnOf 1 7 b_law))
  refine fn_sim (k := 6) F sc_law rfl rfl fun cdv A outer s H E hr => ?_
  have hu := hr.units
  refine @WSs.un _ _ _ _ ?_
  refine @wss_cons _ _ _ _ _ _ ?_ (@wss_cons _ _ _ _ _ _ ?_ (@wss_cons _ _ _ _ _ _ ?_ (@wss_one _ _ _ _ ?_)))
  · exact (ws_set (i := 1) sc_law.nd rfl (Or.inl rfl) (we_tup wa_nil))
  · exact (ws_tset (j := 2) sc_law.nd rfl (Or.inl rfl) (wv_dict (wd_consI (wv_tup (wvs_cons (wv_own (we_lst wa_nil)) (wvs_cons (wv_leaf (we_tup (wa_cons (we_tup (wa_cons we_int (wa_cons we_int wa_nil))) (wa_cons we_non wa_nil)))) wvs_nil))) (wd_consI (wv_tup (wvs_cons (wv_own (we_lst wa_nil)) (wvs_cons (wv_leaf (we_tup (wa_cons (we_tup (wa_cons we_int (wa_cons we_int wa_nil))) (wa_cons we_non wa_nil)))) wvs_nil))) (wd_consI (wv_tup (wvs_cons (wv_own (we_lst wa_nil)) (wvs_cons (wv_leaf (we_tup (wa_cons (we_tup (wa_cons we_int (wa_cons we_int wa_nil))) (wa_cons we_non wa_nil)))) wvs_nil))) wd_nil)))))
  · exact (ws_for (i := 3) PassesOwn.never rfl (wf_list (we_call (has_law_letters T) (hr.mono (by omega)) rfl (wa_cons (we_var 0) wa_nil))) sc_law.nd rfl (Or.inl rfl) (wss_cons (ws_set (i := 4) sc_law.nd rfl (Or.inl rfl) (we_call (has_page_of T) (hr.mono (by omega)) rfl (wa_cons (we_var 1) (wa_cons (we_ix ix_seq bIx (we_var 3) we_int (fun _ _ => rfl)) wa_nil))))
    (wss_cons (ws_unp rfl (pgs_names_cons sc_law.nd rfl (Or.inl rfl) (pgs_names_cons sc_law.nd rfl (Or.inl rfl) pgs_names_nil)) (we_call (has_heard T) (hr.mono (by omega)) rfl (wa_cons (we_var 1) (wa_cons (we_var 3) wa_nil))))
    (wss_cons (ws_set (i := 6) sc_law.nd rfl (Or.inl rfl) (we_call (has_page_of T) (hr.mono (by omega)) rfl (wa_cons (we_var 1) (wa_cons (we_ix ix_seq bIx (we_var 3) we_int (fun _ _ => rfl)) wa_nil))))
    (wss_cons (ws_if (WW.ct (ww_or (wt_cmp (op_ltTup hu) bCmpT (we_ix ix_seq bIx (we_var 6) we_int (fun _ _ => rfl)) (we_ix ix_seq bIx (we_var 4) we_int (fun _ _ => rfl)) (nomark _)) (ww_or1 (wt_cmp (op_ltTup hu) bCmpT (we_ix ix_seq bIx (we_var 6) we_int (fun _ _ => rfl)) (we_ix ix_seq bIx (we_var 6) we_int (fun _ _ => rfl)) (nomark _))))) (wss_one (ws_ret we_bl)) wss_nil)
    (wss_cons (ws_if (wt_cmp (op_neD hu) bNe (we_slice (we_var 5) (wo_some we_int) (wo_some we_int)) (we_tup (wa_cons (we_ix ix_seq bIx (we_var 3) we_int (fun _ _ => rfl)) (wa_cons (we_ix ix_seq bIx (we_var 3) we_int (fun _ _ => rfl)) (wa_cons (we_ix ix_seq bIx (we_var 3) we_int (fun _ _ => rfl)) (wa_cons (we_ix ix_seq bIx (we_var 3) we_int (fun _ _ => rfl)) wa_nil))))) (nomark _)) (wss_one (ws_ret we_bl)) wss_nil)
    (wss_cons (ws_ifTB (i := 2) (has_law_step T) (hr.mono (by omega)) rfl (wa_cons (we_var 3) (wa_cons (we_var 5) wa_nil)) rfl (Or.inl rfl) (wss_one (ws_ret we_bl)) wss_nil)
    (wss_one (ws_if (wt_cmp (op_neD hu) bNe (we_slice (we_var 6) (wo_some we_int) wo_none) (we_leaf (wp_it (wp_di hu (wp_var 2) (we_ix ix_seq bIx (we_var 3) we_int (fun _ _ => rfl))) we_int (fun _ _ => rfl))) (nomark _)) (wss_one (ws_ret we_bl)) wss_nil)))))))))
  · exact (ws_ret we_bl)
end
end K25

set_option Elab.async false
set_option linter.all false
set_option maxRecDepth 100000
set_option maxHeartbeats 1000000
namespace L3
open PySem PySem.Spec L2
theorem cut_to {α : Type} (xs : List α) (k : Nat) (h : xs.length ≤ k) : cutD xs none (some (k : Int)) = xs := by
  unfold cutD
  rw [HT.sIx_nat, HT.sIx_none, List.drop_zero, Nat.sub_zero, Nat.min_eq_right h, List.take_of_length_le (Nat.le_refl _)]
end L3
namespace L3
open PySem PySem.Spec L2
end L3

set_option Elab.async false
set_option linter.all false
set_option maxRecDepth 100000
set_option maxHeartbeats 1000000
namespace L3
open PySem PySem.Spec L2
/-! ### plain data that is like itself -/
mutual
def D.wid : D → Bool
  | .tup xs => decide (xs.length ≤ 1000) && widAll xs
  | .lst xs => decide (xs.length ≤ 1000) && widAll xs
  | .dic _ _ => true
  | .fn _ => true
  | .ty _ => true
  | .non => true
  | .bl _ => true
  | .int _ => true
  | .str _ => true
def widAll : List D → Bool
  | [] => true
  | x :: xs => x.wid && widAll xs
end
theorem widAll_iff : ∀ {xs : List D}, widAll xs = true ↔ ∀ x ∈ xs, x.wid = true
  | [] => by simp [widAll]
  | x :: xs => by simp [widAll, widAll_iff]
theorem gdAll_iff : ∀ {xs : List D} {n : Nat}, gdAll xs n = true ↔ ∀ x ∈ xs, x.gd n = true
  | [], _ => by simp [gdAll]
  | x :: xs, n => by simp [gdAll, gdAll_iff]
/-- plain, at most n deep, not wide -/
def Ok (n : Nat) (d : D) : Prop := d.gd n = true ∧ d.wid = true
theorem ok_non {n : Nat} : Ok n .non := ⟨rfl, rfl⟩
theorem ok_int {n : Nat} {i : Int} : Ok n (.int i) := ⟨rfl, rfl⟩
theorem ok_str {n : Nat} {x : Str} (h : PySem.PyData.strOk x = true) : Ok n (.str x) := ⟨h, rfl⟩
theorem ok_tup {n : Nat} {xs : List D} (hl : xs.length ≤ 1000) (h : ∀ x ∈ xs, Ok n x) : Ok (n + 1) (.tup xs) :=
  ⟨gdAll_iff.mpr fun x hx => (h x hx).1, by show (decide (xs.length ≤ 1000) && widAll xs) = true; rw [decide_eq_true hl, widAll_iff.mpr fun x hx => (h x hx).2]; rfl⟩
theorem gd_mono : ∀ {d : D} {n m : Nat}, n ≤ m → d.gd n = true → d.gd m = true := by
  intro d
  induction d using D.rec (motive_2 := fun ds => ∀ n m, n ≤ m → gdAll ds n = true → gdAll ds m = true) with
  | non => exact fun _ h => h
  | bl _ => exact fun _ h => h
  | int _ => exact fun _ h => h
  | str _ => exact fun _ h => h
  | fn _ => exact fun _ h => h
  | ty _ => exact fun _ h => h
  | dic _ _ _ => exact fun _ h => h
  | tup xs ih =>
    intro n m hm h
    cases n with
    | zero => cases h
    | succ n =>
      cases m with
      | zero => omega
      | succ m => exact ih n m (by omega) h
  | lst xs ih =>
    intro n m hm h
    cases n with
    | zero => cases h
    | succ n =>
      cases m with
      | zero => omega
      | succ m => exact ih n m (by omega) h
  | nil => rfl
  | cons x xs ih1 ih2 =>
    rename_i n m hm h
    have h : (x.gd n && gdAll xs n) = true := h
    rw [Bool.and_eq_true] at h
    show (x.gd m && gdAll xs m) = true
    rw [ih1 hm h.1, ih2 n m hm h.2]; rfl
theorem ok_mono {n m : Nat} {d : D} (h : Ok n d) (hm : n ≤ m) : Ok m d := ⟨gd_mono hm h.1, h.2⟩
theorem ok1 {n : Nat} {a : D} (h : Ok n a) : Ok (n + 1) (.tup [a]) := ok_tup (by simp) fun x hx => by rw [List.mem_singleton.mp hx]; exact h
theorem ok2 {n : Nat} {a b : D} (h1 : Ok n a) (h2 : Ok n b) : Ok (n + 1) (.tup [a, b]) := ok_tup (by simp) (by simp only [List.forall_mem_cons]; exact ⟨h1, h2, fun _ h => nomatch h⟩)
theorem ok3 {n : Nat} {a b c : D} (h1 : Ok n a) (h2 : Ok n b) (h3 : Ok n c) : Ok (n + 1) (.tup [a, b, c]) := ok_tup (by simp) (by simp only [List.forall_mem_cons]; exact ⟨h1, h2, h3, fun _ h => nomatch h⟩)
theorem ok4 {n : Nat} {a b c d : D} (h1 : Ok n a) (h2 : Ok n b) (h3 : Ok n c) (h4 : Ok n d) : Ok (n + 1) (.tup [a, b, c, d]) := ok_tup (by simp) (by simp only [List.forall_mem_cons]; exact ⟨h1, h2, h3, h4, fun _ h => nomatch h⟩)
@[simp] theorem e_isnw {xs : List D} : R.isN (.vw xs) = false := rfl
@[simp] theorem e_isnl {xs : List D} : R.isN (.v (.lst xs)) = false := rfl
@[simp] theorem e_isnb {b : Bool} : R.isN (.v (.bl b)) = false := rfl
@[simp] theorem e_lenS {z : Str} : fLenS [.v (.str z)] = if z.length ≤ sizeLine then pure (.v (.int (z.length : Nat))) else bad := rfl
@[simp] theorem e_catS {x y : Str} : oCatS (.v (.str x)) (.v (.str y)) = if x.length + y.length ≤ sizeLine then pure (.v (.str (x ++ y))) else bad := rfl
theorem eq_str {x : Str} (h : PySem.PyData.strOk x = true) : oEq (.v (.str x)) (.v (.str x)) = pure (.v (.bl true)) := by rw [e_eq (x := .v (.str x)) (y := .v (.str x)) h h]; simp [peq]
end L3

set_option Elab.async false
set_option linter.all false
set_option maxRecDepth 100000
set_option maxHeartbeats 1000000
namespace L3
open PySem PySem.Spec L2
/-! ### pages of a book -/
structure Pg where
  e : Int
  p1 : Int
  p2 : Int
  k1 : Int
  k2 : Int
  sl : D
def st2 (a b : Int) : D := .tup [.int a, .int b]
def pgD (g : Pg) : D := .tup [.int g.e, st2 g.p1 g.p2, st2 g.k1 g.k2, g.sl]
def sortP (l : List Pg) : List D := (sortB (fun a b : Int => decide (a < b)) ((l.map Pg.e).zip (l.map pgD))).map (·.2)
theorem keys_pg {mf : MF} (h : ∀ g : Pg, mf [pgD g] = pure (.v (.int g.e))) : ∀ l : List Pg, keysOf koInt mf (l.map pgD) = some (l.map Pg.e)
  | [] => rfl
  | g :: l => by
    rw [List.map_cons]
    unfold keysOf
    rw [keys_pg h l]
    have : keyAt koInt mf (pgD g) = some g.e := by unfold keyAt; rw [h]; rfl
    rw [this]
    rfl
theorem apart_int : ∀ {l : List Int}, l.Nodup → apartK (fun a b : Int => decide (a < b)) l = true
  | [], _ => rfl
  | a :: r, h => by
    rw [List.nodup_cons] at h
    unfold apartK
    rw [apart_int h.2, Bool.and_true, List.all_eq_true]
    intro b hb
    have : a ≠ b := fun e => h.1 (e ▸ hb)
    simp only [Bool.or_eq_true, decide_eq_true_eq]
    omega
theorem sort_pg {mf : MF} (h : ∀ g : Pg, mf [pgD g] = pure (.v (.int g.e))) {x : R} {l : List Pg} (hx : x.lis = some (l.map pgD)) (hn : (l.map Pg.e).Nodup) (hl : l.length < 64) : fSortK koInt mf x = pure (.fr (sortP l)) := by
  unfold fSortK
  rw [hx]
  dsimp only
  rw [keys_pg h l]
  dsimp only
  rw [if_pos ⟨apart_int hn, by rw [List.length_map]; exact hl⟩]
  rfl
theorem zip_pg : ∀ l : List Pg, (l.map Pg.e).zip (l.map pgD) = l.map fun g => (g.e, pgD g)
  | [] => rfl
  | g :: l => by rw [List.map_cons, List.map_cons, List.map_cons, List.zip_cons_cons, zip_pg l]
theorem sortP_eq {l l' : List Pg} (hp : l'.Perm l) (hs : l'.Pairwise fun a b => a.e < b.e) : sortP l = l'.map pgD := by
  have hn : (l.map Pg.e).Nodup := by
    have : (l'.map Pg.e).Nodup := by
      rw [List.nodup_iff_pairwise_ne, List.pairwise_map]
      exact hs.imp fun h => by omega
    exact (hp.map Pg.e).nodup_iff.mp this
  have hz : ((l.map fun g => (g.e, pgD g)).map (·.1)).Nodup := by
    rw [List.map_map]; exact hn
  have one := sort_one intKK.toKeyOrd (l := l.map fun g => (g.e, pgD g)) (ps := l'.map fun g => (g.e, pgD g)) hz (hp.map _) (by
    rw [List.pairwise_map]
    exact hs.imp fun h => decide_eq_true h)
  unfold sortP
  rw [zip_pg]
  have : sortB (fun a b : Int => decide (a < b)) (l.map fun g => (g.e, pgD g)) = l'.map fun g => (g.e, pgD g) := one.symm
  rw [this, List.map_map]
  rfl
def Pg.good (g : Pg) : Prop := Ok 5 g.sl
theorem ok_st (a b : Int) (n : Nat) : Ok (n + 1) (st2 a b) := ok2 ok_int ok_int
/-- a page is put in -/
def putL (bk : List Pg) (g : Pg) : List Pg := bk.filter (fun h => !(h.e == g.e)) ++ [g]
theorem putL_nodup {bk : List Pg} {g : Pg} (h : (bk.map Pg.e).Nodup) : ((putL bk g).map Pg.e).Nodup := by
  unfold putL
  rw [List.map_append, List.nodup_append]
  refine ⟨h.sublist (List.filter_sublist.map _), by simp, fun a ha b hb => ?_⟩
  obtain ⟨x, hx, rfl⟩ := List.mem_map.mp ha
  have hb' : b = g.e := by simpa using hb
  subst hb'
  have := (List.mem_filter.mp hx).2
  simpa using this
theorem putL_len (bk : List Pg) (g : Pg) : (putL bk g).length ≤ bk.length + 1 := by
  unfold putL
  rw [List.length_append, List.length_singleton]
  have := List.length_filter_le (fun h : Pg => !(h.e == g.e)) bk
  omega
theorem putL_mem {bk : List Pg} {g x : Pg} (h : x ∈ putL bk g) : x ∈ bk ∨ x = g := by
  unfold putL at h
  rcases List.mem_append.mp h with h | h
  · exact .inl (List.mem_filter.mp h).1
  · exact .inr (List.mem_singleton.mp h)
def Rise (bk : List Pg) : Prop := bk.Pairwise fun a b => a.e < b.e
theorem Rise.nodup {bk : List Pg} (h : Rise bk) : (bk.map Pg.e).Nodup := by
  rw [List.nodup_iff_pairwise_ne, List.pairwise_map]
  exact List.Pairwise.imp (fun h => by omega) h
theorem find_eq {bk : List Pg} {e : Int} {g : Pg} (h : bk.find? (fun x => x.e == e) = some g) : g.e = e ∧ g ∈ bk := ⟨by have := List.find?_some h; simpa using this, List.mem_of_find?_eq_some h⟩
def blank (e : Int) : Pg := ⟨e, 0, 0, 0, 0, .non⟩
def pageAt (bk : List Pg) (e : Int) : Pg := (bk.find? (fun x => x.e == e)).getD (blank e)
theorem pageAt_e (bk : List Pg) (e : Int) : (pageAt bk e).e = e := by
  unfold pageAt
  cases h : bk.find? (fun x => x.e == e) with
  | none => rfl
  | some g => exact (find_eq h).1
theorem pageAt_good {bk : List Pg} {e : Int} (h : ∀ g ∈ bk, g.good) : (pageAt bk e).good := by
  unfold pageAt
  cases q : bk.find? (fun x => x.e == e) with
  | none => exact ok_non
  | some g => exact h g (find_eq q).2
@[simp] theorem e_cmpT {g : List Int → List Int → Bool} {a b c d : Int} : oCmpT g (.v (st2 a b)) (.v (st2 c d)) = pure (.v (.bl (g [a, b] [c, d]))) := rfl
theorem gt_le (a b c d : Int) : lexGt [a, b] [c, d] = !lexLe [a, b] [c, d] := by
  simp only [lexGt, lexLe, lexR]
  by_cases h1 : a = c
  · by_cases h2 : b = d
    · simp [h1, h2]
    · simp only [h1, h2, if_true, if_false]
      rw [Bool.eq_iff_iff]; simp
  · simp only [h1, if_false]
    rw [Bool.eq_iff_iff]; simp
@[simp] theorem e_sortK {Z : KO} {mf : MF} {ma : ME} {σ : En} : cSortK Z mf ma σ = (do
  let x ← ma σ
  fSortK Z mf x) := rfl
end L3
namespace L3
open PySem PySem.Spec L2
end L3

set_option Elab.async false
set_option linter.all false
set_option maxRecDepth 100000
set_option maxHeartbeats 1000000
namespace L3
open PySem PySem.Spec L2
/-! ### a book in which pages are put -/
theorem find_mem {l : List Pg} {g : Pg} (hn : (l.map Pg.e).Nodup) (hg : g ∈ l) : l.find? (fun x => x.e == g.e) = some g := by
  induction l with
  | nil => cases hg
  | cons x l ih =>
    rw [List.map_cons, List.nodup_cons] at hn
    rcases List.mem_cons.mp hg with rfl | hg
    · rw [List.find?_cons_of_pos (by simp)]
    · have hne : ¬ x.e = g.e := fun h => hn.1 (by rw [h]; exact List.mem_map_of_mem hg)
      rw [List.find?_cons_of_neg (by simpa using hne)]
      exact ih hn.2 hg
theorem put_book {bk : List Pg} (hr : Rise bk) (g : Pg) : ∃ bk', Rise bk' ∧ sortP (putL bk g) = bk'.map pgD ∧ (∀ x, x ∈ bk' ↔ x ∈ putL bk g) ∧ bk'.length ≤ bk.length + 1 := by
  have hp := List.mergeSort_perm (putL bk g) (fun a b => decide (a.e ≤ b.e))
  have hs := List.pairwise_mergeSort (le := fun a b : Pg => decide (a.e ≤ b.e)) (fun a b c h1 h2 => by
    have := of_decide_eq_true h1
    have := of_decide_eq_true h2
    exact decide_eq_true (by omega)) (fun a b => by simp only [Bool.or_eq_true, decide_eq_true_eq]; omega) (putL bk g)
  generalize (putL bk g).mergeSort (fun a b => decide (a.e ≤ b.e)) = bk' at hp hs
  have hn : (bk'.map Pg.e).Nodup := (hp.map Pg.e).nodup_iff.mpr (putL_nodup hr.nodup)
  have rise : Rise bk' := by
    unfold Rise
    clear hp
    induction bk' with
    | nil => exact .nil
    | cons x l ih =>
      rw [List.map_cons, List.nodup_cons] at hn
      rw [List.pairwise_cons] at hs ⊢
      refine ⟨fun y hy => ?_, ih hs.2 hn.2⟩
      have h1 := of_decide_eq_true (hs.1 y hy)
      have h2 : x.e ≠ y.e := fun h => hn.1 (by rw [h]; exact List.mem_map_of_mem hy)
      omega
  exact ⟨bk', rise, sortP_eq hp rise, fun x => hp.mem_iff, by rw [hp.length_eq]; exact putL_len bk g⟩
theorem find_put {bk bk' : List Pg} {g : Pg} (hr : Rise bk) (hr' : Rise bk') (hm : ∀ x, x ∈ bk' ↔ x ∈ putL bk g) (e : Int) : bk'.find? (fun x => x.e == e) = if e = g.e then some g else bk.find? (fun x => x.e == e) := by
  by_cases h : e = g.e
  · rw [if_pos h, h]
    exact find_mem hr'.nodup ((hm g).mpr (by unfold putL; exact List.mem_append_right _ (List.mem_singleton.mpr rfl)))
  · rw [if_neg h]
    cases q : bk.find? (fun x => x.e == e) with
    | some x =>
      obtain ⟨xe, xm⟩ := find_eq q
      have : x ∈ bk' := (hm x).mpr (by
        unfold putL
        refine List.mem_append_left _ (List.mem_filter.mpr ⟨xm, ?_⟩)
        have : ¬ x.e = g.e := fun z => h (xe ▸ z)
        simpa using this)
      have := find_mem hr'.nodup this
      rw [xe] at this
      exact this
    | none =>
      refine List.find?_eq_none.mpr fun x hx => ?_
      rcases putL_mem ((hm x).mp hx) with hb | rfl
      · exact List.find?_eq_none.mp q x hb
      · intro z
        exact h (by have : x.e = e := by simpa using z
                    exact this.symm)
theorem pageAt_put {bk bk' : List Pg} {g : Pg} (hr : Rise bk) (hr' : Rise bk') (hm : ∀ x, x ∈ bk' ↔ x ∈ putL bk g) (e : Int) : pageAt bk' e = if e = g.e then g else pageAt bk e := by
  unfold pageAt
  rw [find_put hr hr' hm e]
  split <;> rfl
/-- the book of the epochs 0, 1, 2, written out -/
theorem book_rows {bk : List Pg} (hr : Rise bk) (h3 : ∀ g ∈ bk, 0 ≤ g.e ∧ g.e < 3) : (([0, 1, 2] : List Int).filter fun e => (bk.find? (fun x => x.e == e)).isSome).map (pageAt bk) = bk := by
  have mem : ∀ x, x ∈ (([0, 1, 2] : List Int).filter fun e => (bk.find? (fun x => x.e == e)).isSome).map (pageAt bk) ↔ x ∈ bk := fun x => by
    constructor
    · intro h
      obtain ⟨e, he, rfl⟩ := List.mem_map.mp h
      obtain ⟨g, hg⟩ := Option.isSome_iff_exists.mp (List.mem_filter.mp he).2
      unfold pageAt
      rw [hg]
      exact (find_eq hg).2
    · intro h
      have hf := find_mem hr.nodup h
      refine List.mem_map.mpr ⟨x.e, List.mem_filter.mpr ⟨?_, by rw [hf]; rfl⟩, by unfold pageAt; rw [hf]; rfl⟩
      have := h3 x h
      have : x.e = 0 ∨ x.e = 1 ∨ x.e = 2 := by omega
      rcases this with h | h | h <;> rw [h] <;> simp
  have hs : Rise ((([0, 1, 2] : List Int).filter fun e => (bk.find? (fun x => x.e == e)).isSome).map (pageAt bk)) := by
    unfold Rise
    rw [List.pairwise_map]
    have : (([0, 1, 2] : List Int).filter fun e => (bk.find? (fun x => x.e == e)).isSome).Pairwise (· < ·) := List.Pairwise.filter _ (by simp)
    exact this.imp fun {a b} h => by rw [pageAt_e, pageAt_e]; exact h
  have nd : ∀ {l : List Pg}, Rise l → l.Nodup := fun {l} h => List.Pairwise.imp (fun {a b} h e => by subst e; omega) h
  exact rising_one (lt := fun a b : Pg => a.e < b.e) (fun a h => by omega) (fun a b c h1 h2 => by omega) ((List.perm_ext_iff_of_nodup (nd hs) (nd hr)).mpr mem) hs hr
end L3

set_option Elab.async false
set_option linter.all false
set_option maxRecDepth 100000
set_option maxHeartbeats 1000000
namespace L3
open PySem PySem.Spec L2
/-- a comprehension over a list that is an image -/
theorem comp_on {α : Type} {t : En → M Bool} {el : ME} {σ : En} (f : α → D) (p : α → Bool) (g : α → D) : ∀ xs : List α, (∀ x ∈ xs, t (σ.set 0 (.val (f x))) = pure (p x)) → (∀ x ∈ xs, p x = true → (el (σ.set 0 (.val (f x))) >>= R.dat) = pure (g x)) →
    kLoop t el σ (xs.map f) = pure ((xs.filter p).map g)
  | [], _, _ => rfl
  | x :: xs, h1, h2 => by
    have ih := comp_on f p g xs (fun x hx => h1 x (List.mem_cons_of_mem _ hx)) fun x hx => h2 x (List.mem_cons_of_mem _ hx)
    rw [List.map_cons]
    unfold kLoop
    rw [h1 x List.mem_cons_self, pure_bind]
    cases e : p x with
    | false => rw [if_neg Bool.false_ne_true, ih, List.filter_cons_of_neg (by rw [e]; exact Bool.false_ne_true)]
    | true =>
      have h := h2 x List.mem_cons_self e
      rw [if_pos rfl, ← bind_assoc, h, pure_bind, ih, pure_bind, List.filter_cons_of_pos e]
      rfl
/-- a loop that goes on till the first that answers -/
theorem for_first {α : Type} {b : D → MS} (f : α → D) (p : α → Bool) (v : α → R) (I : En → Prop) : ∀ (xs : List α) (σ : En), I σ →
    (∀ x σ, x ∈ xs → I σ → (p x = true → b (f x) σ = pure (.rt (v x))) ∧ (p x = false → ∃ σ', b (f x) σ = pure (.nx σ') ∧ I σ')) →
    (∀ x, xs.find? p = some x → fLoop b (xs.map f) σ = pure (.rt (v x))) ∧ (xs.find? p = none → ∃ σ', fLoop b (xs.map f) σ = pure (.nx σ') ∧ I σ')
  | [], σ, h0, _ => ⟨fun x h => (nomatch h), fun _ => ⟨σ, rfl, h0⟩⟩
  | x :: xs, σ, h0, step => by
    obtain ⟨s1, s2⟩ := step x σ List.mem_cons_self h0
    cases e : p x with
    | true =>
      rw [List.find?_cons_of_pos e]
      refine ⟨fun y h => ?_, fun h => (nomatch h)⟩
      cases h
      show (b (f x) σ >>= _) = _
      rw [s1 e]; rfl
    | false =>
      obtain ⟨σ1, e1, h1⟩ := s2 e
      have ih := for_first f p v I xs σ1 h1 fun y σ hy => step y σ (List.mem_cons_of_mem _ hy)
      rw [List.find?_cons_of_neg (by rw [e]; exact Bool.false_ne_true)]
      have u : fLoop b ((x :: xs).map f) σ = fLoop b (xs.map f) σ1 := by
        show (b (f x) σ >>= _) = _
        rw [e1]; rfl
      rw [u]
      exact ih
end L3

set_option Elab.async false
set_option linter.all false
set_option maxRecDepth 100000
set_option maxHeartbeats 1000000
namespace K25
open PySem PySem.Spec L2 L3
theorem page_of_eq (bk : List Pg) (e : Int) : m_page_of [.tup (bk.map pgD), .int e] = pure (.v (.tup [st2 (pageAt bk e).p1 (pageAt bk e).p2, st2 (pageAt bk e).k1 (pageAt bk e).k2, (pageAt bk e).sl])) := by
  have cut : ∀ g : Pg, oSl (.v (pgD g)) (some 1) none = pure (.v (.tup [st2 g.p1 g.p2, st2 g.k1 g.k2, g.sl])) := fun g => by
    unfold pgD
    rw [e_slt, if_neg (by simp only [List.length_cons, List.length_nil]; decide)]
    rfl
  have L := for_first (b := fun d σ => l_page_of_0 (σ.set 2 (.val d))) pgD (fun g => g.e == e) (fun g => .v (.tup [st2 g.p1 g.p2, st2 g.k1 g.k2, g.sl])) (fun σ => ∃ s2, σ = [.val (.tup (bk.map pgD)), .val (.int e), s2]) bk [.val (.tup (bk.map pgD)), .val (.int e), .emp] ⟨_, rfl⟩
    (fun g σ _ ⟨s2, es⟩ => by
      subst es
      have ix : oIx (.v (pgD g)) (.v (.int 0)) = pure (.v (.int g.e)) := by unfold pgD; simp
      refine ⟨fun h => ?_, fun h => ⟨[.val (.tup (bk.map pgD)), .val (.int e), .val (pgD g)], ?_, _, rfl⟩⟩
      · simp only [l_page_of_0]
        simp [ix, cut, eq_of_beq h]
      · have h' : ¬ g.e = e := by simpa using h
        simp only [l_page_of_0]
        simp [ix, h'])
  simp only [m_page_of, b_page_of, b_page_of_1]
  unfold pageAt
  cases h : bk.find? (fun g => g.e == e) with
  | some g =>
    have := L.1 g h
    simp [this]
  | none =>
    obtain ⟨σ', e', s2, rfl⟩ := L.2 h
    simp [e', blank, st2]
theorem lam_e (g : Pg) : fnOf 1 1 (cRet (c2 oIx (cVar 0) (cK (.int 0)))) [pgD g] = pure (.v (.int g.e)) := by
  unfold pgD
  simp
theorem with_page_eq {bk : List Pg} (g : Pg) (hn : (bk.map Pg.e).Nodup) (hl : bk.length < 63) (hs : slotOf g.sl = .val g.sl) : m_with_page [.tup (bk.map pgD), .int g.e, st2 g.p1 g.p2, st2 g.k1 g.k2, g.sl] = pure (.v (.tup (sortP (putL bk g)))) := by
  have c : kLoop (cT (c2 oNe (c2 oIx (cVar 0) (cK (.int 0))) (cVar 1))) (cVar 0) [.emp, .val (.int g.e)] (bk.map pgD) = pure ((bk.filter fun h => !(h.e == g.e)).map pgD) :=
    comp_on pgD (fun h => !(h.e == g.e)) pgD bk (fun h _ => by
      have ix : oIx (.v (pgD h)) (.v (.int 0)) = pure (.v (.int h.e)) := by unfold pgD; simp
      simp [ix]) fun h _ _ => by simp
  have z1 : bk.length < sizeLine := small1000 (by omega)
  have fl := List.length_filter_le (fun h : Pg => !(h.e == g.e)) bk
  have z2 : (bk.filter fun h => !(h.e == g.e)).length < sizeLine := small1000 (by omega)
  have pl := putL_len bk g
  have so : fSortK koInt (fnOf 1 1 (cRet (c2 oIx (cVar 0) (cK (.int 0))))) (.mv ((bk.filter fun h => !(h.e == g.e)).map pgD ++ [pgD g])) = pure (.fr (sortP (putL bk g))) :=
    sort_pg lam_e (by show some _ = some _; unfold putL; rw [List.map_append]; rfl) (putL_nodup hn) (by omega)
  have pd : pgD g = .tup [.int g.e, st2 g.p1 g.p2, st2 g.k1 g.k2, g.sl] := rfl
  have s1 : ∀ a b, slotOf (st2 a b) = .val (st2 a b) := fun _ _ => rfl
  simp only [m_with_page, b_with_page, b_with_page_1, b_with_page_2]
  rw [pd] at so
  simp [s1, hs, c, z1, z2, so]
end K25
namespace K25
open PySem PySem.Spec L2 L3
theorem answer_eq (w : Str) (a b e s l : D) (word : D) (load : D) (h1 : slotOf word = .val word) (h2 : slotOf load = .val load) : m_answer_to [.tup [.str w, a, b, e, s, l], word, load] = pure (.v (.tup [word, b, a, e, s, load])) := by
  simp only [m_answer_to, b_answer_to]
  simp [h1, h2]
/-- what a keeper is told: asks -/
theorem heard_ask_eq {bk : List Pg} (hr : Rise bk) (hl : bk.length < 63) (hg : ∀ g ∈ bk, slotOf g.sl = .val g.sl) (e s1 s2 : Int) (a k : D) (l : D) :
    m_heard [.tup (bk.map pgD), .tup [.str "ask", a, k, .int e, st2 s1 s2, l]] = pure (.v (if lexLe [s1, s2] [(pageAt bk e).p1, (pageAt bk e).p2] = true then .tup [.tup (bk.map pgD), .tup [.str "late", k, a, .int e, st2 s1 s2, .tup [st2 (pageAt bk e).p1 (pageAt bk e).p2]]]
      else .tup [.tup (sortP (putL bk ⟨e, s1, s2, (pageAt bk e).k1, (pageAt bk e).k2, (pageAt bk e).sl⟩)), .tup [.str "grant", k, a, .int e, st2 s1 s2, .tup [st2 (pageAt bk e).k1 (pageAt bk e).k2, (pageAt bk e).sl]]])) := by
  have pg := page_of_eq bk e
  have hsl : slotOf (pageAt bk e).sl = .val (pageAt bk e).sl := by
    unfold pageAt
    cases q : bk.find? (fun x => x.e == e) with
    | none => rfl
    | some g => exact hg g (find_eq q).2
  generalize pageAt bk e = g at pg hsl ⊢
  have wp := with_page_eq (bk := bk) ⟨e, s1, s2, g.k1, g.k2, g.sl⟩ hr.nodup hl hsl
  have cut : oSl (.v (.tup [st2 g.p1 g.p2, st2 g.k1 g.k2, g.sl])) (some 1) none = pure (.v (.tup [st2 g.k1 g.k2, g.sl])) := by
    rw [e_slt, if_neg (by simp only [List.length_cons, List.length_nil]; decide)]
    rfl
  have an1 := answer_eq "ask" a k (.int e) (st2 s1 s2) l (.str "late") (.tup [st2 g.p1 g.p2]) rfl rfl
  have an2 := answer_eq "ask" a k (.int e) (st2 s1 s2) l (.str "grant") (.tup [st2 g.k1 g.k2, g.sl]) rfl rfl
  have q1 : oEq (.v (.str "ask")) (.v (.str "ask")) = pure (.v (.bl true)) := eq_str (by decide +kernel)
  have sst : ∀ a b, slotOf (st2 a b) = .val (st2 a b) := fun _ _ => rfl
  simp only [m_heard, b_heard, b_heard_1]
  simp only [m_heard_ask, b_heard_ask, b_heard_ask_1, b_heard_ask_2, b_heard_ask_3]
  cases hle : lexLe [s1, s2] [g.p1, g.p2] with
  | true =>
    simp [q1, pg, hle, m_late, b_late, sst, an1]
  | false =>
    simp [q1, pg, hle, sst, cut, wp, an2]
end K25
namespace K25
open PySem PySem.Spec L2 L3
theorem cell_at (ns : List Int) (k : Nat) : m_law_cell_at [.lst (ns.map D.int), .int (k : Nat)] = pure (.v (.int (ns.getD k 0))) := by
  simp only [m_law_cell_at, b_law_cell_at, b_law_cell_at_1]
  by_cases h : k < ns.length
  · simp [h, at_ints h]
  · simp [h]
end K25
namespace K25
open PySem PySem.Spec L2 L3
theorem tell_ask : oEq (.v (.str "tell")) (.v (.str "ask")) = pure (.v (.bl false)) := by
  have h1 : PySem.PyData.strOk "tell" = true := by decide +kernel
  have h2 : PySem.PyData.strOk "ask" = true := by decide +kernel
  have h3 : (("tell" : Str) == "ask") = false := by decide +kernel
  rw [e_eq (x := .v (.str "tell")) (y := .v (.str "ask")) h1 h2]
  show pure (R.v (D.bl (("tell" : Str) == "ask"))) = _
  rw [h3]
/-- what a keeper is told: tells -/
theorem heard_tell_eq {bk : List Pg} (hr : Rise bk) (hl : bk.length < 63) (e s1 s2 : Int) (a k l0 l1 l2 x : D) (hx : slotOf x = .val x) :
    m_heard [.tup (bk.map pgD), .tup [.str "tell", a, k, .int e, st2 s1 s2, .tup [l0, l1, l2, x]]] = pure (.v (if L2.lexLt [s1, s2] [(pageAt bk e).p1, (pageAt bk e).p2] = true then .tup [.tup (bk.map pgD), .tup [.str "late", k, a, .int e, st2 s1 s2, .tup [st2 (pageAt bk e).p1 (pageAt bk e).p2]]]
      else .tup [.tup (sortP (putL bk ⟨e, s1, s2, s1, s2, x⟩)), .tup [.str "kept", k, a, .int e, st2 s1 s2, .tup []]])) := by
  have pg := page_of_eq bk e
  generalize pageAt bk e = g at pg ⊢
  have wp := with_page_eq (bk := bk) ⟨e, s1, s2, s1, s2, x⟩ hr.nodup hl hx
  have an1 := answer_eq "tell" a k (.int e) (st2 s1 s2) (.tup [l0, l1, l2, x]) (.str "late") (.tup [st2 g.p1 g.p2]) rfl rfl
  have an2 := answer_eq "tell" a k (.int e) (st2 s1 s2) (.tup [l0, l1, l2, x]) (.str "kept") (.tup []) rfl rfl
  have sst : ∀ a b, slotOf (st2 a b) = .val (st2 a b) := fun _ _ => rfl
  simp only [m_heard, b_heard, b_heard_1]
  simp only [m_heard_tell, b_heard_tell, b_heard_tell_1, b_heard_tell_2, b_heard_tell_3]
  cases hle : L2.lexLt [s1, s2] [g.p1, g.p2] with
  | true =>
    simp [tell_ask, pg, hle, m_late, b_late, sst, an1]
  | false =>
    simp [tell_ask, pg, hle, sst, wp, an2]
end K25
namespace K25
open PySem PySem.Spec L2 L3
/-- the letters that are drawn -/
def LtG (d : D) : Prop := ∃ kp e s1 s2 : Int, (0 ≤ e ∧ e < 3) ∧ 1 ≤ s1 ∧ (d = .tup [.str "ask", .int s2, .int kp, .int e, st2 s1 s2, .tup []] ∨
  ∃ l0 l1 l2 x, d = .tup [.str "tell", .int s2, .int kp, .int e, st2 s1 s2, .tup [l0, l1, l2, x]] ∧ Ok 5 x ∧ slotOf x = .val x)
theorem mul3 (x : Int) : CMulB 3 x := mulS (by decide) (by decide)
theorem mul6 (x : Int) : CMulB 6 x := mulS (by decide) (by decide)
theorem law_told_eq (e s1 s2 : Int) : ∃ xs, m_law_told [.int e, .tup [.int s1, .int s2]] = pure (.v (.tup xs)) ∧ Ok 5 (.tup xs) := by
  refine ⟨_, ?_, ok4 (ok_mono (ok1 (n := 1) (ok2 (n := 0) (a := .str "cell") (b := .int (1 + e + 3 * (s2 + 6 * s1))) (ok_str (by decide +kernel)) ok_int)) (by decide)) (ok_mono (ok1 (n := 1) (ok3 (n := 0) (a := .int s2) (b := .int s1) (c := .int (1 + e + 3 * (s2 + 6 * s1))) ok_int ok_int ok_int)) (by decide)) (ok2 (a := .int (s1 / 2)) (b := .non) ok_int ok_non) (d := .non) ok_non⟩
  simp only [m_law_told, b_law_told, b_law_told_1]
  simp [mul3, mul6]
theorem law_letter_eq (c kp : Int) : ∃ xs, m_law_letter [.int c, .int kp] = pure (.v (.tup xs)) ∧ LtG (.tup xs) := by
  have h3 := mod_lt (a := c / 4) (b := 3) (by omega)
  have h7 := mod_lt (a := c / 12) (b := 7) (by omega)
  have fin : ∀ s1 s2 : Int, 1 ≤ s1 → ∃ xs, b_law_letter_3 [.val (.int c), .val (.int kp), .val (.int (c / 4 % 3)), .val (.tup [.int s1, .int s2]), .emp] = pure (.rt (.v (.tup xs))) ∧ LtG (.tup xs) := fun s1 s2 hs => by
    obtain ⟨ys, et, ok⟩ := law_told_eq (c / 4 % 3) s1 s2
    simp only [b_law_letter_3, b_law_letter_4, b_law_letter_5]
    by_cases h : c % 4 < 2
    · refine ⟨_, ?_, kp, c / 4 % 3, s1, s2, h3, hs, .inl rfl⟩
      simp [h, st2]
    · refine ⟨_, ?_, kp, c / 4 % 3, s1, s2, h3, hs, .inr ⟨.tup [.int 0, .int 0], .int s1, .tup [.str "put", .str "cell", .int (1 + c / 4 % 3 + 3 * (s2 + 6 * s1))], .tup ys, rfl, ok, rfl⟩⟩
      simp [h, mul3, mul6, et, st2]
  simp only [m_law_letter, b_law_letter, b_law_letter_1, b_law_letter_2]
  by_cases h : c / 84 % 5 = 0
  · obtain ⟨xs, e, l⟩ := fin (1 + c / 12 % 7 + 100000000000000000000) (c / 420 % 4) (by omega)
    refine ⟨xs, ?_, l⟩
    simp [h, e]
  · obtain ⟨xs, e, l⟩ := fin (1 + c / 12 % 7) (c / 420 % 4) (by omega)
    refine ⟨xs, ?_, l⟩
    simp [h, e]
theorem law_letters_eq (ns : List Int) (hn : ns.length ≤ 63) : ∃ ls : List D, m_law_letters [.lst (ns.map D.int)] = pure (.fr ls) ∧ (∀ d ∈ ls, LtG d) ∧ ls.length ≤ 63 := by
  have ct : cutD (ns.map D.int) none (some 63) = ns.map D.int := cut_to _ 63 (by rw [List.length_map]; exact hn)
  have q0 : m_law_cell_at [.lst (ns.map D.int), .int 0] = _ := cell_at ns 0
  generalize ns.getD 0 0 = c0 at q0
  obtain ⟨σ', e, ls, s3, rfl, hl, hz⟩ := for_inv (b := fun d σ => l_law_letters_0 (σ.set 3 (.val d))) (ds := ns.map D.int) (σ := [.vw (ns.map D.int), .val (.int (c0 % 6)), .ow false [], .emp])
    (fun i σ => ∃ ls s3, σ = [.vw (ns.map D.int), .val (.int (c0 % 6)), .ow false ls, s3] ∧ (∀ d ∈ ls, LtG d) ∧ ls.length = i) ⟨[], .emp, rfl, by simp, rfl⟩ (fun i d σ hd ⟨ls, s3, es, hl, hz⟩ => by
      subst es
      have hi : i < 63 := by
        have := (List.getElem?_eq_some_iff.mp hd).1
        rw [List.length_map] at this
        omega
      rw [List.getElem?_map] at hd
      obtain ⟨c, _, rfl⟩ := Option.map_eq_some_iff.mp hd
      have z : ls.length < sizeLine := small1000 (by omega)
      obtain ⟨xs, el, gl⟩ := law_letter_eq c (c0 % 6)
      simp only [l_law_letters_0]
      by_cases h : c % 4 = 3 ∧ 0 < ls.length
      · have hm := mod_lt (a := c / 4) (b := (ls.length : Int)) (by omega)
        obtain ⟨v, ev⟩ := atI_some (xs := ls) (i := c / 4 % (ls.length : Int)) hm.1 hm.2
        have hv := hl v (atI_mem ev)
        have lp : (0 : Int) < (ls.length : Int) := by omega
        have lq : (ls.length : Int) < 10 ^ 200 := by omega
        refine ⟨_, .inl (?_ : _ = pure (Fl.nx [.vw (ns.map D.int), .val (.int (c0 % 6)), .ow false (ls ++ [v]), .val (.int c)])), _, _, rfl, ?_, ?_⟩
        · have hdat : R.dat (.v v) = pure v := rfl
          simp [h.1, h.2, lp, ev, z]
        · intro d hd
          rcases List.mem_append.mp hd with h | h
          · exact hl d h
          · rw [List.mem_singleton.mp h]; exact hv
        · rw [List.length_append, hz]; rfl
      · refine ⟨_, .inl (?_ : _ = pure (Fl.nx [.vw (ns.map D.int), .val (.int (c0 % 6)), .ow false (ls ++ [.tup xs]), .val (.int c)])), _, _, rfl, ?_, ?_⟩
        · by_cases h1 : c % 4 = 3
          · have h2 : ls = [] := List.eq_nil_of_length_eq_zero (by
              rcases Nat.eq_zero_or_pos ls.length with h | h2
              · exact h
              · exact absurd ⟨h1, h2⟩ h)
            subst h2
            have z : 0 < sizeLine := z
            simp [h1, el, z]
          · simp [h1, el, z]
        · intro d hd
          rcases List.mem_append.mp hd with h | h
          · exact hl d h
          · rw [List.mem_singleton.mp h]; exact gl
        · rw [List.length_append, hz]; rfl)
  refine ⟨ls, ?_, hl, by rw [hz, List.length_map]; exact hn⟩
  simp only [m_law_letters, b_law_letters, b_law_letters_1, b_law_letters_2, b_law_letters_3]
  simp [q0, ct, e]
end K25

set_option Elab.async false
set_option linter.all false
set_option maxRecDepth 100000
set_option maxHeartbeats 1000000
namespace K25
open PySem PySem.Spec L2 L3
theorem lt_iff (a b c d : Int) : L2.lexLt [a, b] [c, d] = decide (a < c ∨ a = c ∧ b < d) := by
  simp only [L2.lexLt, lexR]
  by_cases h1 : a = c
  · by_cases h2 : b = d
    · simp [h1, h2]
    · simp only [h1, h2, if_true, if_false]
      rw [Bool.eq_iff_iff]; simp
  · simp only [h1, if_false]
    rw [Bool.eq_iff_iff]; simp
theorem le_iff (a b c d : Int) : lexLe [a, b] [c, d] = decide (a < c ∨ a = c ∧ b ≤ d) := by
  simp only [lexLe, lexR]
  by_cases h1 : a = c
  · by_cases h2 : b = d
    · simp [h1, h2]
    · simp only [h1, h2, if_true, if_false]
      rw [Bool.eq_iff_iff]; simp
  · simp only [h1, if_false]
    rw [Bool.eq_iff_iff]; simp
    omega
theorem gt_iff (a b c d : Int) : lexGt [a, b] [c, d] = decide (c < a ∨ c = a ∧ d < b) := by
  rw [gt_le, le_iff, ← decide_not]
  exact decide_eq_decide.mpr (by omega)
/-- granted stamps, none above the page's -/
def Gr (p1 p2 : Int) (G : List D) : Prop := ∀ d ∈ G, ∃ a b : Int, d = st2 a b ∧ (a < p1 ∨ a = p1 ∧ b ≤ p2)
theorem max_go {p1 p2 : Int} : ∀ (G : List D) (a b : Int), Gr p1 p2 G → (a < p1 ∨ a = p1 ∧ b ≤ p2) → ∃ c d : Int, maxGoT (st2 a b) [a, b] G = some (st2 c d) ∧ (c < p1 ∨ c = p1 ∧ d ≤ p2)
  | [], a, b, _, h => ⟨a, b, rfl, h⟩
  | x :: G, a, b, hg, h => by
    obtain ⟨c, d, rfl, hc⟩ := hg x List.mem_cons_self
    have hg' : Gr p1 p2 G := fun y hy => hg y (List.mem_cons_of_mem _ hy)
    show ∃ c' d' : Int, (if lexGt [c, d] [a, b] = true then maxGoT (st2 c d) [c, d] G else maxGoT (st2 a b) [a, b] G) = some (st2 c' d') ∧ _
    by_cases q : lexGt [c, d] [a, b] = true
    · rw [if_pos q]; exact max_go G c d hg' hc
    · rw [if_neg q]; exact max_go G a b hg' h
theorem max_all {p1 p2 : Int} {G : List D} (hg : Gr p1 p2 G) (h0 : G ≠ []) : ∃ c d : Int, maxAllT G = some (st2 c d) ∧ (c < p1 ∨ c = p1 ∧ d ≤ p2) := by
  cases G with
  | nil => exact absurd rfl h0
  | cons x G =>
    obtain ⟨c, d, rfl, hc⟩ := hg x List.mem_cons_self
    exact max_go G c d (fun y hy => hg y (List.mem_cons_of_mem _ hy)) hc
theorem gd_st (a b : Int) : (st2 a b).gd 63 = true := rfl
theorem in_test {p1 p2 s1 s2 : Int} {G : List D} (hg : Gr p1 p2 G) (hs : p1 < s1 ∨ p1 = s1 ∧ p2 < s2) {x : R} (hx : x.arg = .lst G) : oInD (.v (st2 s1 s2)) x = pure (.v (.bl false)) := by
  unfold oInD
  rw [hx]
  have gG : (D.lst G).gd 64 = true := gdAll_iff.mpr fun y hy => by
    obtain ⟨a, b, rfl, _⟩ := hg y hy
    exact gd_st a b
  have an : (G.any fun e => peq e (st2 s1 s2)) = false := by
    rw [List.any_eq_false]
    intro y hy
    obtain ⟨a, b, rfl, hc⟩ := hg y hy
    intro z
    have z : (decide (a = s1) && (decide (b = s2) && true)) = true := by simpa [peq, peqAll, st2] using z
    simp at z
    omega
  show (if (st2 s1 s2).gd 64 = true ∧ (D.lst G).gd 64 = true then (pure (R.v (.bl (G.any fun e => peq e (st2 s1 s2)))) : M R) else bad) = _
  rw [if_pos ⟨rfl, gG⟩, an]
end K25

set_option Elab.async false
set_option linter.all false
set_option maxRecDepth 100000
set_option maxHeartbeats 1000000
namespace L3
open PySem PySem.Spec L2
/-! ### plain data: None, ints, texts, tuples of them -/
mutual
def D.pln : D → Bool
  | .non => true
  | .bl _ => false
  | .int _ => true
  | .str _ => true
  | .tup xs => plnAll xs
  | .lst _ => false
  | .dic _ _ => false
  | .fn _ => false
  | .ty _ => false
def plnAll : List D → Bool
  | [] => true
  | x :: xs => x.pln && plnAll xs
end
mutual
theorem peq_refl : ∀ {d : D} {n : Nat}, d.gd n = true → peq d d = true
  | .non, _, _ => rfl
  | .bl _, _, _ => by simp [peq]
  | .int _, _, _ => by simp [peq]
  | .str _, _, _ => by simp [peq]
  | .tup xs, n, h => by
    cases n with
    | zero => cases h
    | succ k => exact peqAll_refl (xs := xs) (n := k) h
  | .lst xs, n, h => by
    cases n with
    | zero => cases h
    | succ k => exact peqAll_refl (xs := xs) (n := k) h
  | .dic _ _, _, h => by cases h
  | .fn _, _, h => by cases h
  | .ty _, _, h => by cases h
theorem peqAll_refl : ∀ {xs : List D} {n : Nat}, gdAll xs n = true → peqAll xs xs = true
  | [], _, _ => rfl
  | x :: xs, n, h => by
    have h := gdAll_iff.mp h
    unfold peqAll
    rw [Bool.and_eq_true]
    exact ⟨peq_refl (h x List.mem_cons_self), peqAll_refl (gdAll_iff.mpr fun y hy => h y (List.mem_cons_of_mem _ hy))⟩
end
end L3

set_option Elab.async false
set_option linter.all false
set_option maxRecDepth 100000
set_option maxHeartbeats 1000000
namespace K25
open PySem PySem.Spec L2 L3
abbrev ndT (G : List D) (L : D) : Tr := .tp [.ls (G.map .lf), .lf L]
abbrev seenT (G0 G1 G2 : List D) (Z0 Z1 Z2 : D) : Tr := .dc [.inl 0, .inl 1, .inl 2] [ndT G0 Z0, ndT G1 Z1, ndT G2 Z2]
theorem ke0 : keyIx [.inl 0, .inl 1, .inl 2] 0 = some 0 := by decide +kernel
theorem ke1 : keyIx [.inl 0, .inl 1, .inl 2] 1 = some 1 := by decide +kernel
theorem ke2 : keyIx [.inl 0, .inl 1, .inl 2] 2 = some 2 := by decide +kernel
theorem eqW {x y : Str} (hx : PySem.PyData.strOk x = true) (hy : PySem.PyData.strOk y = true) : oEq (.v (.str x)) (.v (.str y)) = pure (.v (.bl (x == y))) := e_eq (x := .v (.str x)) (y := .v (.str y)) hx hy
theorem neW {x y : Str} (hx : PySem.PyData.strOk x = true) (hy : PySem.PyData.strOk y = true) : oNe (.v (.str x)) (.v (.str y)) = pure (.v (.bl (!(x == y)))) := e_ne (x := .v (.str x)) (y := .v (.str y)) hx hy
theorem wk_ask : PySem.PyData.strOk "ask" = true := by decide +kernel
theorem wk_tell : PySem.PyData.strOk "tell" = true := by decide +kernel
theorem wk_grant : PySem.PyData.strOk "grant" = true := by decide +kernel
theorem wk_kept : PySem.PyData.strOk "kept" = true := by decide +kernel
theorem wk_late : PySem.PyData.strOk "late" = true := by decide +kernel
theorem q_lg : oEq (.v (.str "late")) (.v (.str "grant")) = pure (.v (.bl false)) := by rw [eqW wk_late wk_grant]; congr 3
theorem q_lk : oEq (.v (.str "late")) (.v (.str "kept")) = pure (.v (.bl false)) := by rw [eqW wk_late wk_kept]; congr 3
theorem q_gg : oEq (.v (.str "grant")) (.v (.str "grant")) = pure (.v (.bl true)) := by rw [eqW wk_grant wk_grant]; congr 3
theorem q_kg : oEq (.v (.str "kept")) (.v (.str "grant")) = pure (.v (.bl false)) := by rw [eqW wk_kept wk_grant]; congr 3
theorem q_kk : oEq (.v (.str "kept")) (.v (.str "kept")) = pure (.v (.bl true)) := by rw [eqW wk_kept wk_kept]; congr 3
theorem q_aa : oEq (.v (.str "ask")) (.v (.str "ask")) = pure (.v (.bl true)) := by rw [eqW wk_ask wk_ask]; congr 3
theorem q_ta : oEq (.v (.str "tell")) (.v (.str "ask")) = pure (.v (.bl false)) := by rw [eqW wk_tell wk_ask]; congr 3
theorem n_ll : oNe (.v (.str "late")) (.v (.str "late")) = pure (.v (.bl false)) := by rw [neW wk_late wk_late]; congr 3
theorem n_aa : oNe (.v (.str "ask")) (.v (.str "ask")) = pure (.v (.bl false)) := by rw [neW wk_ask wk_ask]; congr 3
theorem n_tt : oNe (.v (.str "tell")) (.v (.str "tell")) = pure (.v (.bl false)) := by rw [neW wk_tell wk_tell]; congr 3
theorem lv0 : lvs [] = some [] := rfl
theorem zsl : 0 < sizeLine := small1000 (by decide)
section
variable {G0 G1 G2 : List D} {Z0 Z1 Z2 : D} {e s1 s2 p1 p2 k1 k2 : Int} {a b c d z l0 l1 l2 sl : D}
theorem late_ask (he : 0 ≤ e ∧ e < 3) (h : L2.lexLt [p1, p2] [s1, s2] = false) : m_law_step [seenT G0 G1 G2 Z0 Z1 Z2] [.tup [.str "ask", a, b, .int e, st2 s1 s2, z], .tup [.str "late", c, d, .int e, st2 s1 s2, .tup [st2 p1 p2]]] = pure (.bl true, [seenT G0 G1 G2 Z0 Z1 Z2]) := by
  have : e = 0 ∨ e = 1 ∨ e = 2 := by omega
  simp only [m_law_step, b_law_step, q4_law_step, qc_law_step, q5_law_step, qr_law_step]
  rcases this with rfl | rfl | rfl
  · simp [fnTB, qLoan, pVar, kidM, lvs_map, lv0, zsl, qBack, gvE, noV, putG, Tr.put, Tr.kids, Tr.sub, trEnd, trsOf, onlyR, ke0, q_lg, q_lk, n_ll, q_aa, h, seenT, ndT]
  · simp [fnTB, qLoan, pVar, kidM, lvs_map, lv0, zsl, qBack, gvE, noV, putG, Tr.put, Tr.kids, Tr.sub, trEnd, trsOf, onlyR, ke1, q_lg, q_lk, n_ll, q_aa, h, seenT, ndT]
  · simp [fnTB, qLoan, pVar, kidM, lvs_map, lv0, zsl, qBack, gvE, noV, putG, Tr.put, Tr.kids, Tr.sub, trEnd, trsOf, onlyR, ke2, q_lg, q_lk, n_ll, q_aa, h, seenT, ndT]
theorem late_tell (he : 0 ≤ e ∧ e < 3) (h : L2.lexLt [s1, s2] [p1, p2] = true) : m_law_step [seenT G0 G1 G2 Z0 Z1 Z2] [.tup [.str "tell", a, b, .int e, st2 s1 s2, z], .tup [.str "late", c, d, .int e, st2 s1 s2, .tup [st2 p1 p2]]] = pure (.bl true, [seenT G0 G1 G2 Z0 Z1 Z2]) := by
  have : e = 0 ∨ e = 1 ∨ e = 2 := by omega
  simp only [m_law_step, b_law_step, q4_law_step, qc_law_step, q5_law_step, qr_law_step]
  rcases this with rfl | rfl | rfl
  · simp [fnTB, qLoan, pVar, kidM, lvs_map, lv0, zsl, qBack, gvE, noV, putG, Tr.put, Tr.kids, Tr.sub, trEnd, trsOf, onlyR, ke0, q_lg, q_lk, n_ll, q_ta, h, seenT, ndT]
  · simp [fnTB, qLoan, pVar, kidM, lvs_map, lv0, zsl, qBack, gvE, noV, putG, Tr.put, Tr.kids, Tr.sub, trEnd, trsOf, onlyR, ke1, q_lg, q_lk, n_ll, q_ta, h, seenT, ndT]
  · simp [fnTB, qLoan, pVar, kidM, lvs_map, lv0, zsl, qBack, gvE, noV, putG, Tr.put, Tr.kids, Tr.sub, trEnd, trsOf, onlyR, ke2, q_lg, q_lk, n_ll, q_ta, h, seenT, ndT]
theorem mx_pre {G : List D} (hg : Gr p1 p2 G) (hs : p1 < s1 ∨ p1 = s1 ∧ p2 ≤ s2) : G = [] ∨ (0 < G.length ∧ ¬ G = [] ∧ ∃ x y : Int, fMaxT [.mv G] = pure (.v (st2 x y)) ∧ lexGt [x, y] [s1, s2] = false) := by
  by_cases h0 : G = []
  · exact .inl h0
  · obtain ⟨x, y, em, hc⟩ := max_all hg h0
    refine .inr ⟨List.length_pos_iff.mpr h0, h0, x, y, ?_, ?_⟩
    · rw [e_maxT]
      show (match maxAllT G with | some r => (pure (R.v r) : M R) | none => bad) = _
      rw [em]
    · rw [gt_iff]; exact decide_eq_false (by omega)
theorem grant0 (hg : Gr p1 p2 G0) (hs : p1 < s1 ∨ p1 = s1 ∧ p2 < s2) (hk : L2.lexLt [s1, s2] [k1, k2] = false) (ok : Ok 9 (.tup [st2 k1 k2, sl])) (hl : G0.length < 900) : m_law_step [seenT G0 G1 G2 (.tup [st2 k1 k2, sl]) Z1 Z2] [.tup [.str "ask", a, b, .int 0, st2 s1 s2, z], .tup [.str "grant", c, d, .int 0, st2 s1 s2, .tup [st2 k1 k2, sl]]] = pure (.bl true, [seenT (G0 ++ [st2 s1 s2]) G1 G2 (.tup [st2 k1 k2, sl]) Z1 Z2]) := by
  have l1 : G0.length < sizeLine := small1000 (by omega)
  have hi : oInD (.v (st2 s1 s2)) (.mv G0) = pure (.v (.bl false)) := in_test hg hs rfl
  have gd : (D.tup [st2 k1 k2, sl]).gd 64 = true := gd_mono (by decide) ok.1
  have hn : oNe (.v (.tup [st2 k1 k2, sl])) (.v (.tup [st2 k1 k2, sl])) = pure (.v (.bl false)) := by
    rw [e_ne (x := .v (.tup [st2 k1 k2, sl])) (y := .v (.tup [st2 k1 k2, sl])) gd gd]
    show pure (R.v (.bl (!peq (.tup [st2 k1 k2, sl]) (.tup [st2 k1 k2, sl])))) = _
    rw [peq_refl gd]; rfl
  simp only [m_law_step, b_law_step, q4_law_step, qc_law_step, q5_law_step, qr_law_step]
  rcases mx_pre (s1 := s1) (s2 := s2) hg (by omega) with rfl | ⟨h1, h2, x, y, h3, h4⟩
  · simp [fnTB, qLoan, pVar, kidM, lvs_map, lv0, zsl, qBack, gvE, noV, putG, Tr.put, Tr.kids, Tr.sub, trEnd, trsOf, onlyR, ke0, q_gg, n_aa, hi, hn, hk, l1, seenT, ndT]
  · simp [fnTB, qLoan, pVar, kidM, lvs_map, lv0, zsl, qBack, gvE, noV, putG, Tr.put, Tr.kids, Tr.sub, trEnd, trsOf, onlyR, ke0, q_gg, n_aa, hi, hn, hk, l1, h1, h2, h3, h4, seenT, ndT]
theorem kept0 (hg : Gr p1 p2 G0) (hs : p1 < s1 ∨ p1 = s1 ∧ p2 ≤ s2) (hk : L2.lexLt [s1, s2] [k1, k2] = false) (hx : slotOf sl = .val sl) : m_law_step [seenT G0 G1 G2 (.tup [st2 k1 k2, z]) Z1 Z2] [.tup [.str "tell", a, b, .int 0, st2 s1 s2, .tup [l0, l1, l2, sl]], .tup [.str "kept", c, d, .int 0, st2 s1 s2, .tup []]] = pure (.bl true, [seenT G0 G1 G2 (.tup [st2 s1 s2, sl]) Z1 Z2]) := by
  simp only [m_law_step, b_law_step, q4_law_step, qc_law_step, q5_law_step, qr_law_step]
  rcases mx_pre (s1 := s1) (s2 := s2) hg hs with rfl | ⟨h1, h2, x, y, h3, h4⟩
  · simp [fnTB, qLoan, pVar, kidM, lvs_map, lv0, zsl, qBack, gvE, noV, putG, Tr.put, Tr.kids, Tr.sub, trEnd, trsOf, onlyR, ke0, q_kg, q_kk, n_tt, hk, seenT, ndT]
  · simp [fnTB, qLoan, pVar, kidM, lvs_map, lv0, zsl, qBack, gvE, noV, putG, Tr.put, Tr.kids, Tr.sub, trEnd, trsOf, onlyR, ke0, q_kg, q_kk, n_tt, hk, h1, h2, h3, h4, seenT, ndT]
theorem grant1 (hg : Gr p1 p2 G1) (hs : p1 < s1 ∨ p1 = s1 ∧ p2 < s2) (hk : L2.lexLt [s1, s2] [k1, k2] = false) (ok : Ok 9 (.tup [st2 k1 k2, sl])) (hl : G1.length < 900) : m_law_step [seenT G0 G1 G2 Z0 (.tup [st2 k1 k2, sl]) Z2] [.tup [.str "ask", a, b, .int 1, st2 s1 s2, z], .tup [.str "grant", c, d, .int 1, st2 s1 s2, .tup [st2 k1 k2, sl]]] = pure (.bl true, [seenT G0 (G1 ++ [st2 s1 s2]) G2 Z0 (.tup [st2 k1 k2, sl]) Z2]) := by
  have l1 : G1.length < sizeLine := small1000 (by omega)
  have hi : oInD (.v (st2 s1 s2)) (.mv G1) = pure (.v (.bl false)) := in_test hg hs rfl
  have gd : (D.tup [st2 k1 k2, sl]).gd 64 = true := gd_mono (by decide) ok.1
  have hn : oNe (.v (.tup [st2 k1 k2, sl])) (.v (.tup [st2 k1 k2, sl])) = pure (.v (.bl false)) := by
    rw [e_ne (x := .v (.tup [st2 k1 k2, sl])) (y := .v (.tup [st2 k1 k2, sl])) gd gd]
    show pure (R.v (.bl (!peq (.tup [st2 k1 k2, sl]) (.tup [st2 k1 k2, sl])))) = _
    rw [peq_refl gd]; rfl
  simp only [m_law_step, b_law_step, q4_law_step, qc_law_step, q5_law_step, qr_law_step]
  rcases mx_pre (s1 := s1) (s2 := s2) hg (by omega) with rfl | ⟨h1, h2, x, y, h3, h4⟩
  · simp [fnTB, qLoan, pVar, kidM, lvs_map, lv0, zsl, qBack, gvE, noV, putG, Tr.put, Tr.kids, Tr.sub, trEnd, trsOf, onlyR, ke1, q_gg, n_aa, hi, hn, hk, l1, seenT, ndT]
  · simp [fnTB, qLoan, pVar, kidM, lvs_map, lv0, zsl, qBack, gvE, noV, putG, Tr.put, Tr.kids, Tr.sub, trEnd, trsOf, onlyR, ke1, q_gg, n_aa, hi, hn, hk, l1, h1, h2, h3, h4, seenT, ndT]
theorem kept1 (hg : Gr p1 p2 G1) (hs : p1 < s1 ∨ p1 = s1 ∧ p2 ≤ s2) (hk : L2.lexLt [s1, s2] [k1, k2] = false) (hx : slotOf sl = .val sl) : m_law_step [seenT G0 G1 G2 Z0 (.tup [st2 k1 k2, z]) Z2] [.tup [.str "tell", a, b, .int 1, st2 s1 s2, .tup [l0, l1, l2, sl]], .tup [.str "kept", c, d, .int 1, st2 s1 s2, .tup []]] = pure (.bl true, [seenT G0 G1 G2 Z0 (.tup [st2 s1 s2, sl]) Z2]) := by
  simp only [m_law_step, b_law_step, q4_law_step, qc_law_step, q5_law_step, qr_law_step]
  rcases mx_pre (s1 := s1) (s2 := s2) hg hs with rfl | ⟨h1, h2, x, y, h3, h4⟩
  · simp [fnTB, qLoan, pVar, kidM, lvs_map, lv0, zsl, qBack, gvE, noV, putG, Tr.put, Tr.kids, Tr.sub, trEnd, trsOf, onlyR, ke1, q_kg, q_kk, n_tt, hk, seenT, ndT]
  · simp [fnTB, qLoan, pVar, kidM, lvs_map, lv0, zsl, qBack, gvE, noV, putG, Tr.put, Tr.kids, Tr.sub, trEnd, trsOf, onlyR, ke1, q_kg, q_kk, n_tt, hk, h1, h2, h3, h4, seenT, ndT]
theorem grant2 (hg : Gr p1 p2 G2) (hs : p1 < s1 ∨ p1 = s1 ∧ p2 < s2) (hk : L2.lexLt [s1, s2] [k1, k2] = false) (ok : Ok 9 (.tup [st2 k1 k2, sl])) (hl : G2.length < 900) : m_law_step [seenT G0 G1 G2 Z0 Z1 (.tup [st2 k1 k2, sl])] [.tup [.str "ask", a, b, .int 2, st2 s1 s2, z], .tup [.str "grant", c, d, .int 2, st2 s1 s2, .tup [st2 k1 k2, sl]]] = pure (.bl true, [seenT G0 G1 (G2 ++ [st2 s1 s2]) Z0 Z1 (.tup [st2 k1 k2, sl])]) := by
  have l1 : G2.length < sizeLine := small1000 (by omega)
  have hi : oInD (.v (st2 s1 s2)) (.mv G2) = pure (.v (.bl false)) := in_test hg hs rfl
  have gd : (D.tup [st2 k1 k2, sl]).gd 64 = true := gd_mono (by decide) ok.1
  have hn : oNe (.v (.tup [st2 k1 k2, sl])) (.v (.tup [st2 k1 k2, sl])) = pure (.v (.bl false)) := by
    rw [e_ne (x := .v (.tup [st2 k1 k2, sl])) (y := .v (.tup [st2 k1 k2, sl])) gd gd]
    show pure (R.v (.bl (!peq (.tup [st2 k1 k2, sl]) (.tup [st2 k1 k2, sl])))) = _
    rw [peq_refl gd]; rfl
  simp only [m_law_step, b_law_step, q4_law_step, qc_law_step, q5_law_step, qr_law_step]
  rcases mx_pre (s1 := s1) (s2 := s2) hg (by omega) with rfl | ⟨h1, h2, x, y, h3, h4⟩
  · simp [fnTB, qLoan, pVar, kidM, lvs_map, lv0, zsl, qBack, gvE, noV, putG, Tr.put, Tr.kids, Tr.sub, trEnd, trsOf, onlyR, ke2, q_gg, n_aa, hi, hn, hk, l1, seenT, ndT]
  · simp [fnTB, qLoan, pVar, kidM, lvs_map, lv0, zsl, qBack, gvE, noV, putG, Tr.put, Tr.kids, Tr.sub, trEnd, trsOf, onlyR, ke2, q_gg, n_aa, hi, hn, hk, l1, h1, h2, h3, h4, seenT, ndT]
theorem kept2 (hg : Gr p1 p2 G2) (hs : p1 < s1 ∨ p1 = s1 ∧ p2 ≤ s2) (hk : L2.lexLt [s1, s2] [k1, k2] = false) (hx : slotOf sl = .val sl) : m_law_step [seenT G0 G1 G2 Z0 Z1 (.tup [st2 k1 k2, z])] [.tup [.str "tell", a, b, .int 2, st2 s1 s2, .tup [l0, l1, l2, sl]], .tup [.str "kept", c, d, .int 2, st2 s1 s2, .tup []]] = pure (.bl true, [seenT G0 G1 G2 Z0 Z1 (.tup [st2 s1 s2, sl])]) := by
  simp only [m_law_step, b_law_step, q4_law_step, qc_law_step, q5_law_step, qr_law_step]
  rcases mx_pre (s1 := s1) (s2 := s2) hg hs with rfl | ⟨h1, h2, x, y, h3, h4⟩
  · simp [fnTB, qLoan, pVar, kidM, lvs_map, lv0, zsl, qBack, gvE, noV, putG, Tr.put, Tr.kids, Tr.sub, trEnd, trsOf, onlyR, ke2, q_kg, q_kk, n_tt, hk, seenT, ndT]
  · simp [fnTB, qLoan, pVar, kidM, lvs_map, lv0, zsl, qBack, gvE, noV, putG, Tr.put, Tr.kids, Tr.sub, trEnd, trsOf, onlyR, ke2, q_kg, q_kk, n_tt, hk, h1, h2, h3, h4, seenT, ndT]
end
end K25

set_option Elab.async false
set_option linter.all false
set_option maxRecDepth 100000
set_option maxHeartbeats 1000000
namespace K25
open PySem PySem.Spec L2 L3
def up {α : Type} (f : Int → α) (e : Int) (x : α) : Int → α := fun e' => if e' = e then x else f e'
abbrev sT (G : Int → List D) (Z : Int → D) : Tr := seenT (G 0) (G 1) (G 2) (Z 0) (Z 1) (Z 2)
section
variable {G : Int → List D} {Z : Int → D} {e s1 s2 p1 p2 k1 k2 : Int} {a b c d z l0 l1 l2 sl : D}
theorem step_grant (he : 0 ≤ e ∧ e < 3) (hz : Z e = .tup [st2 k1 k2, sl]) (hg : Gr p1 p2 (G e)) (hs : p1 < s1 ∨ p1 = s1 ∧ p2 < s2) (hk : L2.lexLt [s1, s2] [k1, k2] = false) (ok : Ok 9 (.tup [st2 k1 k2, sl])) (hl : (G e).length < 900) :
    m_law_step [sT G Z] [.tup [.str "ask", a, b, .int e, st2 s1 s2, z], .tup [.str "grant", c, d, .int e, st2 s1 s2, .tup [st2 k1 k2, sl]]] = pure (.bl true, [sT (up G e (G e ++ [st2 s1 s2])) Z]) := by
  have : e = 0 ∨ e = 1 ∨ e = 2 := by omega
  rcases this with rfl | rfl | rfl
  · show m_law_step [seenT (G 0) (G 1) (G 2) (Z 0) (Z 1) (Z 2)] _ = pure (D.bl true, [seenT (G 0 ++ [st2 s1 s2]) (G 1) (G 2) (Z 0) (Z 1) (Z 2)])
    rw [hz]; exact grant0 hg hs hk ok hl
  · show m_law_step [seenT (G 0) (G 1) (G 2) (Z 0) (Z 1) (Z 2)] _ = pure (D.bl true, [seenT (G 0) (G 1 ++ [st2 s1 s2]) (G 2) (Z 0) (Z 1) (Z 2)])
    rw [hz]; exact grant1 hg hs hk ok hl
  · show m_law_step [seenT (G 0) (G 1) (G 2) (Z 0) (Z 1) (Z 2)] _ = pure (D.bl true, [seenT (G 0) (G 1) (G 2 ++ [st2 s1 s2]) (Z 0) (Z 1) (Z 2)])
    rw [hz]; exact grant2 hg hs hk ok hl
theorem step_kept (he : 0 ≤ e ∧ e < 3) (hz : Z e = .tup [st2 k1 k2, z]) (hg : Gr p1 p2 (G e)) (hs : p1 < s1 ∨ p1 = s1 ∧ p2 ≤ s2) (hk : L2.lexLt [s1, s2] [k1, k2] = false) (hx : slotOf sl = .val sl) :
    m_law_step [sT G Z] [.tup [.str "tell", a, b, .int e, st2 s1 s2, .tup [l0, l1, l2, sl]], .tup [.str "kept", c, d, .int e, st2 s1 s2, .tup []]] = pure (.bl true, [sT G (up Z e (.tup [st2 s1 s2, sl]))]) := by
  have : e = 0 ∨ e = 1 ∨ e = 2 := by omega
  rcases this with rfl | rfl | rfl
  · show m_law_step [seenT (G 0) (G 1) (G 2) (Z 0) (Z 1) (Z 2)] _ = pure (D.bl true, [seenT (G 0) (G 1) (G 2) (.tup [st2 s1 s2, sl]) (Z 1) (Z 2)])
    rw [hz]; exact kept0 hg hs hk hx
  · show m_law_step [seenT (G 0) (G 1) (G 2) (Z 0) (Z 1) (Z 2)] _ = pure (D.bl true, [seenT (G 0) (G 1) (G 2) (Z 0) (.tup [st2 s1 s2, sl]) (Z 2)])
    rw [hz]; exact kept1 hg hs hk hx
  · show m_law_step [seenT (G 0) (G 1) (G 2) (Z 0) (Z 1) (Z 2)] _ = pure (D.bl true, [seenT (G 0) (G 1) (G 2) (Z 0) (Z 1) (.tup [st2 s1 s2, sl])])
    rw [hz]; exact kept2 hg hs hk hx
abbrev tailS : MS := (cIfS (cT (c2 oNe (cSl (cVar 6) (cPart (cK (.int 1))) cNoPart) (cLeaf (pIt (pDi (pVar 2) (c2 oIx (cVar 3) (cK (.int 3)))) (cK (.int 1)))))) (cRet (cK (.bl false))) cPass)
theorem tail_eq {σ0 B s4 s5 : Slot} {P : D} {w : Str} {l5 : D} (he : 0 ≤ e ∧ e < 3) (hz : Z e = .tup [st2 k1 k2, sl]) (ok : Ok 9 (.tup [st2 k1 k2, sl])) :
    tailS [σ0, B, .tr .own (sT G Z), .val (.tup [.str w, a, b, .int e, c, l5]), s4, s5, .val (.tup [P, st2 k1 k2, sl])] = pure (.nx [σ0, B, .tr .own (sT G Z), .val (.tup [.str w, a, b, .int e, c, l5]), s4, s5, .val (.tup [P, st2 k1 k2, sl])]) := by
  have gd : (D.tup [st2 k1 k2, sl]).gd 64 = true := gd_mono (by decide) ok.1
  have hn : oNe (.v (.tup [st2 k1 k2, sl])) (.v (.tup [st2 k1 k2, sl])) = pure (.v (.bl false)) := by
    rw [e_ne (x := .v (.tup [st2 k1 k2, sl])) (y := .v (.tup [st2 k1 k2, sl])) gd gd]
    show pure (R.v (.bl (!peq (.tup [st2 k1 k2, sl]) (.tup [st2 k1 k2, sl])))) = _
    rw [peq_refl gd]; rfl
  have cut : oSl (.v (.tup [P, st2 k1 k2, sl])) (some 1) none = pure (.v (.tup [st2 k1 k2, sl])) := by
    rw [e_slt, if_neg (by simp only [List.length_cons, List.length_nil]; decide)]
    rfl
  have : e = 0 ∨ e = 1 ∨ e = 2 := by omega
  rcases this with rfl | rfl | rfl
  · simp [tailS, pVar, kidM, ke0, cLeaf, cut, hn, hz]
  · simp [tailS, pVar, kidM, ke1, cLeaf, cut, hn, hz]
  · simp [tailS, pVar, kidM, ke2, cLeaf, cut, hn, hz]
end
end K25

set_option Elab.async false
set_option linter.all false
set_option maxRecDepth 100000
set_option maxHeartbeats 1000000
namespace K25
open PySem PySem.Spec L2 L3
def Zf (bk : List Pg) (e : Int) : D := .tup [st2 (pageAt bk e).k1 (pageAt bk e).k2, (pageAt bk e).sl]
structure Bk (bk : List Pg) (G : Int → List D) (n : Nat) : Prop where
  rise : Rise bk
  pg : ∀ g ∈ bk, (0 ≤ g.e ∧ g.e < 3) ∧ g.good ∧ slotOf g.sl = .val g.sl
  gr : ∀ e, Gr (pageAt bk e).p1 (pageAt bk e).p2 (G e)
  kp : ∀ e, (pageAt bk e).k1 < (pageAt bk e).p1 ∨ (pageAt bk e).k1 = (pageAt bk e).p1 ∧ (pageAt bk e).k2 ≤ (pageAt bk e).p2
  lg : ∀ e, (G e).length ≤ n
theorem Bk.short {bk : List Pg} {G : Int → List D} {n : Nat} (h : Bk bk G n) : bk.length ≤ 3 := by
  rw [← book_rows h.rise fun g hg => (h.pg g hg).1, List.length_map]
  exact List.length_filter_le _ [0, 1, 2]
theorem Bk.more {bk : List Pg} {G : Int → List D} {n : Nat} (h : Bk bk G n) : Bk bk G (n + 1) := ⟨h.rise, h.pg, h.gr, h.kp, fun e => Nat.le_succ_of_le (h.lg e)⟩
theorem Bk.sl {bk : List Pg} {G : Int → List D} {n : Nat} (h : Bk bk G n) (e : Int) : slotOf (pageAt bk e).sl = .val (pageAt bk e).sl := by
  unfold pageAt
  cases q : bk.find? (fun x => x.e == e) with
  | none => rfl
  | some g => exact (h.pg g (find_eq q).2).2.2
theorem Bk.good {bk : List Pg} {G : Int → List D} {n : Nat} (h : Bk bk G n) (e : Int) : (pageAt bk e).good := pageAt_good fun g hg => (h.pg g hg).2.1
theorem Bk.ask {bk : List Pg} {G : Int → List D} {n : Nat} (h : Bk bk G n) {e s1 s2 : Int} (he : 0 ≤ e ∧ e < 3) (hs : (pageAt bk e).p1 < s1 ∨ (pageAt bk e).p1 = s1 ∧ (pageAt bk e).p2 < s2) :
    ∃ bk', sortP (putL bk ⟨e, s1, s2, (pageAt bk e).k1, (pageAt bk e).k2, (pageAt bk e).sl⟩) = bk'.map pgD ∧ Bk bk' (up G e (G e ++ [st2 s1 s2])) (n + 1) ∧ pageAt bk' e = ⟨e, s1, s2, (pageAt bk e).k1, (pageAt bk e).k2, (pageAt bk e).sl⟩ ∧ ∀ e', Zf bk' e' = Zf bk e' := by
  obtain ⟨bk', hr, hsr, hm, _⟩ := put_book h.rise ⟨e, s1, s2, (pageAt bk e).k1, (pageAt bk e).k2, (pageAt bk e).sl⟩
  have hp := pageAt_put h.rise hr hm
  have kp := h.kp e
  refine ⟨bk', hsr, ⟨hr, fun g hg => ?_, fun e' => ?_, fun e' => ?_, fun e' => ?_⟩, by rw [hp, if_pos rfl], fun e' => ?_⟩
  · rcases putL_mem ((hm g).mp hg) with hg | rfl
    · exact h.pg g hg
    · exact ⟨he, h.good e, h.sl e⟩
  · rw [hp]
    by_cases q : e' = e
    · subst q
      rw [if_pos rfl]
      unfold up
      rw [if_pos rfl]
      intro d hd
      rcases List.mem_append.mp hd with hd | hd
      · obtain ⟨a, b, rfl, hc⟩ := h.gr e' d hd
        exact ⟨a, b, rfl, by dsimp only; omega⟩
      · rw [List.mem_singleton.mp hd]
        exact ⟨s1, s2, rfl, by dsimp only; omega⟩
    · rw [if_neg q]
      unfold up
      rw [if_neg q]
      exact h.gr e'
  · rw [hp]
    by_cases q : e' = e
    · subst q; rw [if_pos rfl]; dsimp only; omega
    · rw [if_neg q]; exact h.kp e'
  · unfold up
    by_cases q : e' = e
    · rw [if_pos q, List.length_append, List.length_singleton]; have := h.lg e; omega
    · rw [if_neg q]; exact Nat.le_succ_of_le (h.lg e')
  · unfold Zf
    rw [hp]
    by_cases q : e' = e
    · subst q; rw [if_pos rfl]
    · rw [if_neg q]
theorem Bk.tell {bk : List Pg} {G : Int → List D} {n : Nat} (h : Bk bk G n) {e s1 s2 : Int} {x : D} (he : 0 ≤ e ∧ e < 3) (hx : Ok 5 x) (sx : slotOf x = .val x) (hs : (pageAt bk e).p1 < s1 ∨ (pageAt bk e).p1 = s1 ∧ (pageAt bk e).p2 ≤ s2) :
    ∃ bk', sortP (putL bk ⟨e, s1, s2, s1, s2, x⟩) = bk'.map pgD ∧ Bk bk' G (n + 1) ∧ pageAt bk' e = ⟨e, s1, s2, s1, s2, x⟩ ∧ ∀ e', Zf bk' e' = up (Zf bk) e (.tup [st2 s1 s2, x]) e' := by
  obtain ⟨bk', hr, hsr, hm, _⟩ := put_book h.rise ⟨e, s1, s2, s1, s2, x⟩
  have hp := pageAt_put h.rise hr hm
  refine ⟨bk', hsr, ⟨hr, fun g hg => ?_, fun e' => ?_, fun e' => ?_, fun e' => Nat.le_succ_of_le (h.lg e')⟩, by rw [hp, if_pos rfl], fun e' => ?_⟩
  · rcases putL_mem ((hm g).mp hg) with hg | rfl
    · exact h.pg g hg
    · exact ⟨he, hx, sx⟩
  · rw [hp]
    by_cases q : e' = e
    · subst q
      rw [if_pos rfl]
      intro d hd
      obtain ⟨a, b, rfl, hc⟩ := h.gr e' d hd
      exact ⟨a, b, rfl, by dsimp only; omega⟩
    · rw [if_neg q]; exact h.gr e'
  · rw [hp]
    by_cases q : e' = e
    · subst q; rw [if_pos rfl]; exact .inr ⟨rfl, Int.le_refl _⟩
    · rw [if_neg q]; exact h.kp e'
  · unfold Zf up
    rw [hp]
    by_cases q : e' = e
    · rw [if_pos q, if_pos q]
    · rw [if_neg q, if_neg q]
theorem ne4 (kp s2 e a b : Int) : oNe (.v (.tup [.int kp, .int s2, .int e, st2 a b])) (.v (.tup [.int kp, .int s2, .int e, st2 a b])) = pure (.v (.bl false)) := by
  have gd : (D.tup [.int kp, .int s2, .int e, st2 a b]).gd 64 = true := rfl
  rw [e_ne (x := .v (.tup [.int kp, .int s2, .int e, st2 a b])) (y := .v (.tup [.int kp, .int s2, .int e, st2 a b])) gd gd]
  show pure (R.v (.bl (!peq (.tup [.int kp, .int s2, .int e, st2 a b]) (.tup [.int kp, .int s2, .int e, st2 a b])))) = _
  rw [peq_refl gd]; rfl
theorem cut4 (w x0 x1 x2 x3 x4 : D) : oSl (.v (.tup [w, x0, x1, x2, x3, x4])) (some 1) (some 5) = pure (.v (.tup [x0, x1, x2, x3])) := by
  rw [e_slt, if_neg (by simp only [List.length_cons, List.length_nil]; decide)]
  rfl
theorem l_law_eq : l_law_0 = (cSeq (cSet 4 (cCall m_page_of (cCons (cVar 1) (cCons (c2 oIx (cVar 3) (cK (.int 3))) cNil))))
    (cSeq (cUnp [1, 5] (cCall m_heard (cCons (cVar 1) (cCons (cVar 3) cNil))))
    (cSeq (cSet 6 (cCall m_page_of (cCons (cVar 1) (cCons (c2 oIx (cVar 3) (cK (.int 3))) cNil))))
    (cSeq (cIfS (tOrM (cT (c2 (oCmpT lexLt) (c2 oIx (cVar 6) (cK (.int 0))) (c2 oIx (cVar 4) (cK (.int 0))))) (cT (c2 (oCmpT lexLt) (c2 oIx (cVar 6) (cK (.int 0))) (c2 oIx (cVar 6) (cK (.int 1)))))) (cRet (cK (.bl false))) cPass)
    (cSeq (cIfS (cT (c2 oNe (cSl (cVar 5) (cPart (cK (.int 1))) (cPart (cK (.int 5)))) (cTup (cCons (c2 oIx (cVar 3) (cK (.int 2))) (cCons (c2 oIx (cVar 3) (cK (.int 1))) (cCons (c2 oIx (cVar 3) (cK (.int 3))) (cCons (c2 oIx (cVar 3) (cK (.int 4))) cNil))))))) (cRet (cK (.bl false))) cPass)
    (cSeq (cIfTB 2 m_law_step (cCons (cVar 3) (cCons (cVar 5) cNil)) (cRet (cK (.bl false))) cPass) tailS)))))) := rfl
/-- one letter, whatever is answered -/
theorem turn_gen {σ0 s4 s5 s6 : Slot} {bk bk' : List Pg} {T T' : Tr} {w w' : Str} {kp e s1 s2 : Int} {l load : D}
    (hh : m_heard [.tup (bk.map pgD), .tup [.str w, .int s2, .int kp, .int e, st2 s1 s2, l]] = pure (.v (.tup [.tup (bk'.map pgD), .tup [.str w', .int kp, .int s2, .int e, st2 s1 s2, load]])))
    (h1 : L2.lexLt [(pageAt bk' e).p1, (pageAt bk' e).p2] [(pageAt bk e).p1, (pageAt bk e).p2] = false) (h2 : L2.lexLt [(pageAt bk' e).p1, (pageAt bk' e).p2] [(pageAt bk' e).k1, (pageAt bk' e).k2] = false)
    (hs : m_law_step [T] [.tup [.str w, .int s2, .int kp, .int e, st2 s1 s2, l], .tup [.str w', .int kp, .int s2, .int e, st2 s1 s2, load]] = pure (.bl true, [T']))
    (ht : ∀ s4 s5 B, tailS [σ0, B, .tr .own T', .val (.tup [.str w, .int s2, .int kp, .int e, st2 s1 s2, l]), s4, s5, .val (.tup [st2 (pageAt bk' e).p1 (pageAt bk' e).p2, st2 (pageAt bk' e).k1 (pageAt bk' e).k2, (pageAt bk' e).sl])] = pure (.nx [σ0, B, .tr .own T', .val (.tup [.str w, .int s2, .int kp, .int e, st2 s1 s2, l]), s4, s5, .val (.tup [st2 (pageAt bk' e).p1 (pageAt bk' e).p2, st2 (pageAt bk' e).k1 (pageAt bk' e).k2, (pageAt bk' e).sl])])) :
    ∃ t4 t5 t6, l_law_0 [σ0, .val (.tup (bk.map pgD)), .tr .own T, .val (.tup [.str w, .int s2, .int kp, .int e, st2 s1 s2, l]), s4, s5, s6] = pure (.nx [σ0, .val (.tup (bk'.map pgD)), .tr .own T', .val (.tup [.str w, .int s2, .int kp, .int e, st2 s1 s2, l]), t4, t5, t6]) := by
  have pg := page_of_eq bk e
  have pg' := page_of_eq bk' e
  have n4 := ne4 kp s2 e s1 s2
  have c4 := cut4 (.str w') (.int kp) (.int s2) (.int e) (st2 s1 s2) load
  rw [l_law_eq]
  generalize pageAt bk e = g at *
  generalize pageAt bk' e = g' at *
  generalize tailS = TS at *
  generalize bk.map pgD = B at *
  generalize bk'.map pgD = B' at *
  refine ⟨.val (.tup [st2 g.p1 g.p2, st2 g.k1 g.k2, g.sl]), .val (.tup [.str w', .int kp, .int s2, .int e, st2 s1 s2, load]), .val (.tup [st2 g'.p1 g'.p2, st2 g'.k1 g'.k2, g'.sl]), ?_⟩
  simp [pg, pg', hh, h1, h2, c4, n4, cIfTB, hs, ht]
end K25

set_option Elab.async false
set_option linter.all false
set_option maxRecDepth 100000
set_option maxHeartbeats 1000000
namespace K25
open PySem PySem.Spec L2 L3
theorem zf_ok {bk : List Pg} {G : Int → List D} {n : Nat} (h : Bk bk G n) (e : Int) : Ok 9 (.tup [st2 (pageAt bk e).k1 (pageAt bk e).k2, (pageAt bk e).sl]) := ok_mono (ok2 (n := 5) (ok_st _ _ 4) (h.good e)) (by decide)
theorem lt_self (a b : Int) : L2.lexLt [a, b] [a, b] = false := by rw [lt_iff]; exact decide_eq_false (by omega)
theorem turn {σ0 s4 s5 s6 : Slot} {bk : List Pg} {G : Int → List D} {n : Nat} {d : D} (hn : n < 63) (h : Bk bk G n) (hd : LtG d) :
    ∃ bk' G' t4 t5 t6, l_law_0 [σ0, .val (.tup (bk.map pgD)), .tr .own (sT G (Zf bk)), .val d, s4, s5, s6] = pure (.nx [σ0, .val (.tup (bk'.map pgD)), .tr .own (sT G' (Zf bk')), .val d, t4, t5, t6]) ∧ Bk bk' G' (n + 1) := by
  obtain ⟨kp, e, s1, s2, he, hs, hd⟩ := hd
  have hl : bk.length < 63 := by have := h.short; omega
  have hkp := h.kp e
  have kpf : L2.lexLt [(pageAt bk e).p1, (pageAt bk e).p2] [(pageAt bk e).k1, (pageAt bk e).k2] = false := by rw [lt_iff]; exact decide_eq_false (by omega)
  have hlg : (G e).length < 900 := by have := h.lg e; omega
  rcases hd with rfl | ⟨l0, l1, l2, x, rfl, ox, sx⟩
  · have hh := heard_ask_eq h.rise hl (fun g hg => (h.pg g hg).2.2) e s1 s2 (.int s2) (.int kp) (.tup [])
    by_cases hle : lexLe [s1, s2] [(pageAt bk e).p1, (pageAt bk e).p2] = true
    · rw [if_pos hle] at hh
      rw [le_iff] at hle
      have hle := of_decide_eq_true hle
      obtain ⟨t4, t5, t6, e1⟩ := turn_gen (σ0 := σ0) (s4 := s4) (s5 := s5) (s6 := s6) (T := sT G (Zf bk)) (T' := sT G (Zf bk)) hh (lt_self _ _) kpf (late_ask he (by rw [lt_iff]; exact decide_eq_false (by omega))) (fun s4 s5 B => tail_eq he rfl (zf_ok h e))
      exact ⟨bk, G, t4, t5, t6, e1, h.more⟩
    · rw [if_neg hle] at hh
      rw [le_iff] at hle
      have hgt : (pageAt bk e).p1 < s1 ∨ (pageAt bk e).p1 = s1 ∧ (pageAt bk e).p2 < s2 := by
        have : ¬ (s1 < (pageAt bk e).p1 ∨ s1 = (pageAt bk e).p1 ∧ s2 ≤ (pageAt bk e).p2) := fun z => hle (decide_eq_true z)
        omega
      obtain ⟨bk', es, hb, hp, hz⟩ := h.ask he hgt
      rw [es] at hh
      have ez : Zf bk' = Zf bk := funext hz
      have k2 : L2.lexLt [s1, s2] [(pageAt bk e).k1, (pageAt bk e).k2] = false := by rw [lt_iff]; exact decide_eq_false (by omega)
      have sg := step_grant (a := .int s2) (b := .int kp) (c := .int kp) (d := .int s2) (z := .tup []) (G := G) (Z := Zf bk) he rfl (h.gr e) hgt k2 (zf_ok h e) hlg
      rw [← ez] at sg
      obtain ⟨t4, t5, t6, e1⟩ := turn_gen (σ0 := σ0) (s4 := s4) (s5 := s5) (s6 := s6) hh (by rw [hp, lt_iff]; exact decide_eq_false (by dsimp only; omega)) (by rw [hp]; exact k2) sg (fun s4 s5 B => by
        have := zf_ok hb e
        exact tail_eq he rfl this)
      rw [ez] at e1
      exact ⟨bk', _, t4, t5, t6, by rw [ez]; exact e1, hb⟩
  · have hh := heard_tell_eq h.rise hl e s1 s2 (.int s2) (.int kp) l0 l1 l2 x sx
    by_cases hlt : L2.lexLt [s1, s2] [(pageAt bk e).p1, (pageAt bk e).p2] = true
    · rw [if_pos hlt] at hh
      obtain ⟨t4, t5, t6, e1⟩ := turn_gen (σ0 := σ0) (s4 := s4) (s5 := s5) (s6 := s6) (T := sT G (Zf bk)) (T' := sT G (Zf bk)) hh (lt_self _ _) kpf (late_tell he hlt) (fun s4 s5 B => tail_eq he rfl (zf_ok h e))
      exact ⟨bk, G, t4, t5, t6, e1, h.more⟩
    · rw [if_neg hlt] at hh
      rw [lt_iff] at hlt
      have hge : (pageAt bk e).p1 < s1 ∨ (pageAt bk e).p1 = s1 ∧ (pageAt bk e).p2 ≤ s2 := by
        have : ¬ (s1 < (pageAt bk e).p1 ∨ s1 = (pageAt bk e).p1 ∧ s2 < (pageAt bk e).p2) := fun z => hlt (decide_eq_true z)
        omega
      obtain ⟨bk', es, hb, hp, hz⟩ := h.tell (x := x) he ox sx hge
      rw [es] at hh
      have ez : Zf bk' = up (Zf bk) e (.tup [st2 s1 s2, x]) := funext hz
      have k2 : L2.lexLt [s1, s2] [(pageAt bk e).k1, (pageAt bk e).k2] = false := by rw [lt_iff]; exact decide_eq_false (by omega)
      have sk := step_kept (a := .int s2) (b := .int kp) (c := .int kp) (d := .int s2) (l0 := l0) (l1 := l1) (l2 := l2) (G := G) (Z := Zf bk) he rfl (h.gr e) hge k2 sx
      rw [← ez] at sk
      obtain ⟨t4, t5, t6, e1⟩ := turn_gen (σ0 := σ0) (s4 := s4) (s5 := s5) (s6 := s6) hh (by rw [hp, lt_iff]; exact decide_eq_false (by dsimp only; omega)) (by rw [hp]; exact lt_self _ _) sk (fun s4 s5 B => by
        have := zf_ok hb e
        exact tail_eq he rfl this)
      exact ⟨bk', G, t4, t5, t6, e1, hb⟩
theorem law_eq (ns : List Int) (hn : ns.length ≤ 63) : m_law [.lst (ns.map D.int)] = pure (.v (.bl true)) := by
  obtain ⟨ls, el, hls, hlz⟩ := law_letters_eq ns hn
  have B0 : Bk [] (fun _ => []) 0 := ⟨List.Pairwise.nil, (fun _ h => nomatch h), (fun _ _ h => nomatch h), fun _ => .inr ⟨rfl, Int.le_refl _⟩, fun _ => Nat.le_refl _⟩
  obtain ⟨σ', e, _, _, s3, s4, s5, s6, rfl, _⟩ := for_inv (b := fun d σ => l_law_0 (σ.set 3 (.val d))) (ds := ls) (σ := [.vw (ns.map D.int), .val (.tup []), .tr .own (seenT [] [] [] (.tup [st2 0 0, .non]) (.tup [st2 0 0, .non]) (.tup [st2 0 0, .non])), .emp, .emp, .emp, .emp])
    (fun i σ => ∃ bk G s3 s4 s5 s6, σ = [.vw (ns.map D.int), .val (.tup (bk.map pgD)), .tr .own (sT G (Zf bk)), s3, s4, s5, s6] ∧ Bk bk G i) ⟨[], fun _ => [], .emp, .emp, .emp, .emp, rfl, B0⟩ (fun i d σ hd ⟨bk, G, s3, s4, s5, s6, es, hB⟩ => by
      subst es
      have hi : i < ls.length := (List.getElem?_eq_some_iff.mp hd).1
      obtain ⟨bk', G', t4, t5, t6, e1, hB'⟩ := turn (σ0 := .vw (ns.map D.int)) (s4 := s4) (s5 := s5) (s6 := s6) (by omega) hB (hls d (List.mem_of_getElem? hd))
      exact ⟨_, .inl e1, bk', G', _, _, _, _, rfl, hB'⟩)
  simp only [m_law, b_law, b_law_1, b_law_2, b_law_3]
  have e' : fLoop (fun d σ => l_law_0 (σ.set 3 (.val d))) ls [.vw (ns.map D.int), .val (.tup []), .tr .own (.dc [.inl 0, .inl 1, .inl 2] [.tp [.ls [], .lf (.tup [.tup [.int 0, .int 0], .non])], .tp [.ls [], .lf (.tup [.tup [.int 0, .int 0], .non])], .tp [.ls [], .lf (.tup [.tup [.int 0, .int 0], .non])]]), .emp, .emp, .emp, .emp] = _ := e
  simp [el, e', vDict]
theorem law_true (ns : List Int) (hn : ns.length ≤ 63) : ∃ S', (m_law [.lst (ns.map D.int)]).run [] = .ok (.v (.bl true)) S' := ⟨[], by rw [law_eq ns hn]; rfl⟩
end K25

open PySem PySem.W PyProof.Rows
set_option maxRecDepth 100000 in
set_option maxHeartbeats 0 in
theorem PySem.Challenge.cw_oneslate_k25_whole_promises_rise_holds : PySem.Challenge.rw_oneslate_k25_whole_promises_rise.Holds := by
  w_on; o_law; k_head; (case hw => w_witness2)
  k_fill
  refine L3.walkT (l := PySem.Challenge.rw_oneslate_k25_whole_promises_rise) (k := 7) ["with_page"] rfl rfl ⟨rfl, by decide, by decide⟩ ?zR ?zN (fun w h Y => PySem.W.km_in_of Y) ?F
  case zR =>
    intro x hx
    rcases List.mem_cons.mp hx with rfl | hx
    · exact ⟨_, rfl⟩
    cases hx
  case zN => exact fun p => by kernel_rfl
  case F =>
    intro w mg fa h KX G hmg
    have d_answer_to : L2.Df (L2.KOf KX) mg "answer_to" K25.s_answer_to ["letter", "word", "load"] := by
      dsimp only [L2.KOf]
      refine' L3.df_mk KX G ?a ?l ?c ?k (fun _ _ _ _ _ _ => L3.us3 fun _ _ _ => rfl)
      (case a => k_is); (case l => k_is); (case c => k_is); (case k => k_is)
    have d_page_of : L2.Df (L2.KOf KX) mg "page_of" K25.s_page_of ["book", "epoch"] := by
      dsimp only [L2.KOf]
      refine' L3.df_mk KX G ?a ?l ?c ?k (fun _ _ _ _ _ _ => L3.us2 fun _ _ => rfl)
      (case a => k_is); (case l => k_is); (case c => k_is); (case k => k_is)
    have d_with_page : L2.Df (L2.KOf KX) mg "with_page" K25.s_with_page ["book", "epoch", "promised", "kept", "slate"] := by
      dsimp only [L2.KOf]
      refine' L3.df_mk KX G ?a ?l ?c ?k (fun _ _ _ _ _ _ => L3.us5 fun _ _ _ _ _ => rfl)
      (case a => k_is); (case l => k_is); (case c => k_is); (case k => k_is)
    have d_late : L2.Df (L2.KOf KX) mg "late" K25.s_late ["book", "letter", "promised"] := by
      dsimp only [L2.KOf]
      refine' L3.df_mk KX G ?a ?l ?c ?k (fun _ _ _ _ _ _ => L3.us3 fun _ _ _ => rfl)
      (case a => k_is); (case l => k_is); (case c => k_is); (case k => k_is)
    have d_heard_ask : L2.Df (L2.KOf KX) mg "heard_ask" K25.s_heard_ask ["book", "letter"] := by
      dsimp only [L2.KOf]
      refine' L3.df_mk KX G ?a ?l ?c ?k (fun _ _ _ _ _ _ => L3.us2 fun _ _ => rfl)
      (case a => k_is); (case l => k_is); (case c => k_is); (case k => k_is)
    have d_heard_tell : L2.Df (L2.KOf KX) mg "heard_tell" K25.s_heard_tell ["book", "letter"] := by
      dsimp only [L2.KOf]
      refine' L3.df_mk KX G ?a ?l ?c ?k (fun _ _ _ _ _ _ => L3.us2 fun _ _ => rfl)
      (case a => k_is); (case l => k_is); (case c => k_is); (case k => k_is)
    have d_heard : L2.Df (L2.KOf KX) mg "heard" K25.s_heard ["book", "letter"] := by
      dsimp only [L2.KOf]
      refine' L3.df_mk KX G ?a ?l ?c ?k (fun _ _ _ _ _ _ => L3.us2 fun _ _ => rfl)
      (case a => k_is); (case l => k_is); (case c => k_is); (case k => k_is)
    have d_law_cell_at : L2.Df (L2.KOf KX) mg "_law_cell_at" K25.s_law_cell_at ["script", "k"] := by
      dsimp only [L2.KOf]
      refine' L3.df_mk KX G ?a ?l ?c ?k (fun _ _ _ _ _ _ => L3.us2 fun _ _ => rfl)
      (case a => k_is); (case l => k_is); (case c => k_is); (case k => k_is)
    have d_law_told : L2.Df (L2.KOf KX) mg "_law_told" K25.s_law_told ["epoch", "stamp"] := by
      dsimp only [L2.KOf]
      refine' L3.df_mk KX G ?a ?l ?c ?k (fun _ _ _ _ _ _ => L3.us2 fun _ _ => rfl)
      (case a => k_is); (case l => k_is); (case c => k_is); (case k => k_is)
    have d_law_letter : L2.Df (L2.KOf KX) mg "_law_letter" K25.s_law_letter ["cell", "keeper"] := by
      dsimp only [L2.KOf]
      refine' L3.df_mk KX G ?a ?l ?c ?k (fun _ _ _ _ _ _ => L3.us2 fun _ _ => rfl)
      (case a => k_is); (case l => k_is); (case c => k_is); (case k => k_is)
    have d_law_letters : L2.Df (L2.KOf KX) mg "_law_letters" K25.s_law_letters ["script"] := by
      dsimp only [L2.KOf]
      refine' L3.df_mk KX G ?a ?l ?c ?k (fun _ _ _ _ _ _ => L3.us1 fun _ => rfl)
      (case a => k_is); (case l => k_is); (case c => k_is); (case k => k_is)
    have d_law_step : L2.Df (L2.KOf KX) mg "_law_step" K25.s_law_step ["seen", "letter", "answer"] := by
      dsimp only [L2.KOf]
      refine' L3.df_mk KX G ?a ?l ?c ?k (fun _ _ _ _ _ _ => L3.us3 fun _ _ _ => rfl)
      (case a => k_is); (case l => k_is); (case c => k_is); (case k => k_is)
    have d_law : L2.Df (L2.KOf KX) mg "law" K25.s_law ["script"] := by
      dsimp only [L2.KOf]
      refine' L3.df_mk KX G ?a ?l ?c ?k (fun _ _ _ _ _ _ => L3.us1 fun _ => rfl)
      (case a => k_is); (case l => k_is); (case c => k_is); (case k => k_is)
    have l_with_page := by
      refine' L3.lm_mk (x := "with_page") (st := K25.s_with_page) (ln := ["with_page"]) KX G ?mm ?aa ?ll ?hh ?dd ?oo ?e1 ?e2 ?e3 ?e4 ?e5 ?e6 ?nn ?ii
      (case mm => decide); (case aa => k_is); (case ll => k_is); (case hh => exact rfl); (case dd => k_is); (case oo => exact rfl); (case e1 => exact rfl); (case e2 => exact rfl); (case e3 => exact rfl); (case e4 => exact rfl); (case e5 => exact rfl); (case e6 => exact rfl); (case nn => decide)
      case ii =>
        intro y hy ht
        rcases List.mem_cons.mp hy with rfl | hy
        · rfl
        cases hy
    have kt : L2.Kit (L2.KOf KX) := L2.kit_all _
    have Bx : L3.Bl3 mg := by
      refine' ⟨PySem.W.mg_none_of KX G ?z0, PySem.W.mg_none_of KX G ?z1, PySem.W.mg_none_of KX G ?z2, PySem.W.mg_none_of KX G ?z3, PySem.W.mg_none_of KX G ?z4, PySem.W.mg_none_of KX G ?z5, PySem.W.mg_none_of KX G ?z6, PySem.W.mg_none_of KX G ?z7, PySem.W.mg_none_of KX G ?z8, PySem.W.mg_none_of KX G ?z9, PySem.W.mg_none_of KX G ?z10, PySem.W.mg_none_of KX G ?z11, PySem.W.mg_none_of KX G ?z12, PySem.W.mg_none_of KX G ?z13, PySem.W.mg_none_of KX G ?z14, PySem.W.mg_none_of KX G ?z15, PySem.W.mg_none_of KX G ?z16, PySem.W.mg_none_of KX G ?z17, PySem.W.mg_none_of KX G ?z18⟩
      (case z0 => k_is); (case z1 => k_is); (case z2 => k_is); (case z3 => k_is); (case z4 => k_is); (case z5 => k_is); (case z6 => k_is); (case z7 => k_is); (case z8 => k_is); (case z9 => k_is); (case z10 => k_is); (case z11 => k_is); (case z12 => k_is); (case z13 => k_is); (case z14 => k_is); (case z15 => k_is); (case z16 => k_is); (case z17 => k_is); (case z18 => k_is)
    letI : L2.TabP := L3.tabP (L2.KOf KX) ["with_page"]
    exact L3.all_mkT hmg d_law (fun _ _ _ _ _ _ _ => rfl) K25.law_true (fun base bmx f fd F => K25.ok_law ⟨d_answer_to, d_page_of, d_with_page, d_late, d_heard_ask, d_heard_tell, d_heard, d_law_cell_at, d_law_told, d_law_letter, d_law_letters, d_law_step, d_law, l_with_page, bmx, Bx, kt⟩ F)


