import PyProof.Rows.All
import Wide.All
import OpenK.AllK
import Wide.FinOn
import Lean
import PyProof.EqAt
import PyProof.EqKinds
import PyProof.TupleCall
import KE.KEqDict
import KE.KSortTup
import PySem.Challenge.RW_oneslate_k17_whole_along
set_option Elab.async false
set_option linter.all false
set_option maxRecDepth 100000
namespace L2
open PySem PySem.Spec PyProof.Rows
abbrev Key:=Sum Int Str
def keyIs:Key→Value→Bool
 | .inl k,v=>Value.isInt k v
 | .inr x,v=>Value.isStrOf x v
def keyH (w:World):Key→Int
 | .inl k=>hashInt k
 | .inr x=>hashStr w x
theorem keyIs_shape:∀{k:Key} {v:Value},keyIs k v=true→(∃i t,k=Sum.inl i∧v=Value.int i t)∨(∃x t,k=Sum.inr x∧v=Value.str x t)
 | .inl i,v,h=>by
  obtain ⟨t,e⟩:=Value.isInt_shape (k:=i) (v:=v) h
  exact .inl ⟨i,t,rfl,e⟩
 | .inr x,v,h=>by
  obtain ⟨t,e⟩:=Value.isStrOf_shape (x:=x) (v:=v) h
  exact .inr ⟨x,t,rfl,e⟩
theorem keyIs_int (i:Int) (t:Tok):keyIs (.inl i) (.int i t)=true:=by simp [keyIs,Value.isInt]
theorem keyIs_str (x:Str) (t:Tok):keyIs (.inr x) (.str x t)=true:=by simp [keyIs,Value.isStrOf]
theorem key_ll (a b:Int):decide ((Sum.inl a:Key)=Sum.inl b)=(a == b):=by
 by_cases e:a=b
 ·subst e;simp
 ·have h:¬(Sum.inl a:Key)=Sum.inl b:=fun q=>e (Sum.inl.inj q)
  rw [decide_eq_false h]
  exact (beq_eq_false_iff_ne.mpr e).symm
theorem key_rr (a b:Str):decide ((Sum.inr a:Key)=Sum.inr b)=decide (a=b):=by
 by_cases e:a=b
 ·subst e;simp
 ·have h:¬(Sum.inr a:Key)=Sum.inr b:=fun q=>e (Sum.inr.inj q)
  rw [decide_eq_false h,decide_eq_false e]
theorem key_lr (a:Int) (b:Str):decide ((Sum.inl a:Key)=Sum.inr b)=false:=decide_eq_false (fun q=>nomatch q)
theorem key_rl (a:Str) (b:Int):decide ((Sum.inr a:Key)=Sum.inl b)=false:=decide_eq_false (fun q=>nomatch q)
def mixKind (prog:Program) (w:World):PySem.KeyKind prog w Key where
 is:=keyIs
 hash:=keyH w
 inj:=fun v a b ha hb=>by
  rcases keyIs_shape ha with ⟨i,t,rfl,rfl⟩ | ⟨x,t,rfl,rfl⟩
  ·rcases keyIs_shape hb with ⟨j,u,rfl,e⟩ | ⟨y,u,rfl,e⟩
   ·injection e with e1 _;rw [e1]
   ·exact nomatch e
  ·rcases keyIs_shape hb with ⟨j,u,rfl,e⟩ | ⟨y,u,rfl,e⟩
   ·exact nomatch e
   ·injection e with e1 _;rw [e1]
 byValue:=fun k v h=>by
  rcases keyIs_shape h with ⟨i,t,rfl,rfl⟩ | ⟨x,t,rfl,rfl⟩ <;> rfl
 pyHash:=fun hv h=>by
  rcases keyIs_shape hv with ⟨i,t,rfl,rfl⟩ | ⟨x,t,rfl,rfl⟩
  ·exact wpAny_pyHash_int h
  ·exact wpAny_pyHash_str h
 eqBool:=fun hu hv h=>by
  rcases keyIs_shape hu with ⟨i,t,rfl,rfl⟩ | ⟨x,t,rfl,rfl⟩
  ·rcases keyIs_shape hv with ⟨j,u,rfl,rfl⟩ | ⟨y,u,rfl,rfl⟩
   ·rw [key_ll] at h;exact wpAny_eqBool_int h
   ·rw [key_lr] at h;exact SeqAt.EqAt.int_str i t y u _ _ _ _ h
  ·rcases keyIs_shape hv with ⟨j,u,rfl,rfl⟩ | ⟨y,u,rfl,rfl⟩
   ·rw [key_rl] at h;exact SeqAt.EqAt.str_int x t j u _ _ _ _ h
   ·rw [key_rr] at h;exact wpAny_eqBool_str h
 «strs»:=fun k x t v h=>by
  rcases keyIs_shape h with ⟨i,u,rfl,e⟩ | ⟨y,u,rfl,e⟩
  ·exact nomatch e
  ·injection e with e1 _
   subst e1
   cases v <;> rfl
theorem mixKind_int (prog:Program) (w:World) (i:Int) (t:Tok):(mixKind prog w).is (.inl i) (.int i t)=true:=keyIs_int i t
theorem mixKind_str (prog:Program) (w:World) (x:Str) (t:Tok):(mixKind prog w).is (.inr x) (.str x t)=true:=keyIs_str x t
end L2
namespace L2
open PySem PySem.Spec PyProof.Rows
inductive V where
 | non | bl (b:Bool) | int (i:Int) | str (x:Str) | byt (b:Array UInt8) | flt (b:UInt64) | ref (a:Addr) | ty (n:String)
 deriving DecidableEq
def RelV:V→Value→Prop
 | .non,u=>u=Value.none
 | .bl b,u=>u=Value.bool b
 | .int i,u=>∃t,u=Value.int i t
 | .str x,u=>∃t,u=Value.str x t
 | .byt b,u=>∃t,u=Value.bytes b t
 | .flt b,u=>∃t,u=Value.float b t
 | .ref a,u=>u=Value.ref a
 | .ty n,u=>u=Value.type n
abbrev Vals:List V→List Value→Prop:=Paired RelV
theorem Vals.length {xs:List V} {us:List Value} (r:Vals xs us):xs.length=us.length:=Paired.length r
theorem Vals.get:∀{xs:List V} {us:List Value} {i:Nat} {x:V},Vals xs us→xs[i]? = some x→∃u,us[i]? = some u∧RelV x u
 | _,_,_,_,.nil,e=>by simp at e
 | _,_,0,_,.cons r _,e=>by simp at e;subst e;exact ⟨_,rfl,r⟩
 | _,_,i + 1,x,.cons _ t,e=>by
  obtain ⟨u,h1,h2⟩:=Vals.get (i:=i) (x:=x) t (by simpa using e)
  exact ⟨u,by simpa using h1,h2⟩
theorem Vals.append:∀{xs ys:List V} {us ws:List Value},Vals xs us→Vals ys ws→Vals (xs ++ ys) (us ++ ws)
 | _,_,_,_,.nil,s=>s
 | _,_,_,_,.cons r t,s=>.cons r (Vals.append t s)
theorem Vals.take:∀{xs:List V} {us:List Value} (n:Nat),Vals xs us→Vals (xs.take n) (us.take n)
 | _,_,0,_=>.nil
 | _,_,_ + 1,.nil=>.nil
 | _,_,n + 1,.cons r t=>.cons r (Vals.take n t)
theorem Vals.drop:∀{xs:List V} {us:List Value} (n:Nat),Vals xs us→Vals (xs.drop n) (us.drop n)
 | _,_,0,r=>r
 | _,_,_ + 1,.nil=>.nil
 | _,_,n + 1,.cons _ t=>Vals.drop n t
def RelO:Option V→Option Value→Prop
 | some v,some u=>RelV v u
 | none,none=>True
 | _,_=>False
def KV {κ:Type}:List (κ×V)→List (κ×Value)→Prop:=Paired fun (p:κ×V) (q:κ×Value)=>p.1=q.1∧RelV p.2 q.2
def kV:Key→V
 | .inl i=>.int i
 | .inr x=>.str x
inductive HO where
 | lst (xs:List V)
 | tup (xs:List V)
 | dK (kvs:List (Key×V)) | dT (kvs:List (List Key×V))
 | set (S:Int→Bool) (n:Nat)
 | ins (C dx:Addr) (fs:List (Str×V))
 | own (x:Addr)
 | xd (fs:List (Str×V))
 | met (f x:Addr)
 | rng (lo hi:Int)
 | frz (o:Obj) (u:HO)
 | tbl (ps:Array Value)
 | ext (φ:Heap→Prop)
abbrev Hp:=Addr→Option HO
def upd (H:Hp) (a:Addr) (o:HO):Hp:=fun b=>if b=a then some o else H b
theorem upd_same {H:Hp} {a:Addr} {o:HO}:upd H a o a=some o:=by unfold upd;rw [if_pos rfl]
theorem upd_ne {H:Hp} {a b:Addr} {o:HO} (h:b≠a):upd H a o b=H b:=by unfold upd;rw [if_neg h]
theorem upd_upd {H:Hp} {a:Addr} {o u:HO}:upd (upd H a o) a u=upd H a u:=by
 funext b;unfold upd;split <;> rfl
theorem ne_of {H:Hp} {a b:Addr} {o u:HO} (h:H a=some o) (h':H b=some u) (d:o≠u):a≠b:=by
 intro e;subst e;rw [h] at h';exact d (Option.some.inj h')
theorem ne_of_none {H:Hp} {a b:Addr} {o:HO} (h:H a=some o) (h':H b=none):a≠b:=by
 intro e;subst e;rw [h] at h';cases h'
section
variable (P:Program) (w:World)
def ObjOk (H:Hp) (h:Heap) (a:Addr):HO→Prop
 | .lst xs=>xs.length≤sizeLine∧∃(its:List Value) (n:Nat),Vals xs its∧h.get? a=some { cls:=.type "list",data:=.seq its.toArray n }
 | .tup xs=>xs.length≤sizeLine∧∃its:List Value,Vals xs its∧IsTup h a its.toArray
 | .dK kvs=>kvs.length≤sizeLine∧(a == sysModules)=false∧∃vs,KV kvs vs∧h.DictOf (mixKind P w) a vs
 | .dT kvs=>kvs.length≤sizeLine∧(a == sysModules)=false∧∃xs:List (List Key×Addr×Value),
   Paired (fun (p:List Key×V) (q:List Key×Addr×Value)=>p.1=q.1∧H q.2.1=some (.tup (p.1.map kV))∧RelV p.2 q.2.2) kvs xs∧
   ∃o es ep,h.get? a=some o∧o.ExactDict∧o.data = .dict es ep∧es.toList=xs.map (entryOfKey (tupleKind (mixKind P w)))∧(xs.map (·.1)).Nodup
 | .set S n=>h.SetOf (intKind P w) a S n
 | .ins C dx fs=>H dx=some (.own a)∧fs.length≤1000∧dx≠a∧h.get? a=some (PySem.W.instObj C dx)∧
   ∃mA,h.Ns1 dx mA∧(∀f,RelO (fs.lookup f) (mA f))∧PySem.Within mA (fs.map (·.1))
 | .own _=>∃o,h.get? a=some o
 | .xd fs=>∃mA,h.Ns1 a mA∧∀f,RelO (fs.lookup f) (mA f)
 | .rng lo hi=>∃t u v,h.get? a=some { cls:=.type "range",data:=.fields #[.int lo t,.int hi u,.int 1 v] }
 | .frz o u=>h.get? a=some o∧ObjOk H h a u
 | .tbl ps=>h.get? a=some { cls:=.none,data:=.fields ps }
 | .met f x=>h.get? a=some (PySem.W.methodObj (.ref f) (.ref x))
 | .ext φ=>φ h∧(∃o,h.get? a=some o)∧∀h1 h2:Heap,φ h1→(∀o,h1.get? a=some o→h2.get? a=some o)→φ h2
def HOk (H:Hp) (h:Heap):Prop:=∀a o,H a=some o→ObjOk P w H h a o
end
section
variable {P:Program} {w:World} {H H':Hp} {h h':Heap} {a:Addr} {o:HO}
theorem ObjOk.lt (x:ObjOk P w H h a o):a < h.objs.size:=by
 cases o with
 | lst xs=>obtain ⟨_,_,_,_,e⟩:=x;exact Heap.lt_size e
 | tup xs=>obtain ⟨_,_,_,p⟩:=x;exact p.lt
 | dK kvs=>obtain ⟨_,_,_,_,o,_,_,e,_⟩:=x;exact Heap.lt_size e
 | dT kvs=>obtain ⟨_,_,_,_,o,_,_,e,_⟩:=x;exact Heap.lt_size e
 | set S n=>obtain ⟨o,_,_,_,e,_⟩:=x;exact Heap.lt_size e
 | ins C dx fs=>obtain ⟨_,_,_,e,_⟩:=x;exact Heap.lt_size e
 | own y=>obtain ⟨_,e⟩:=x;exact Heap.lt_size e
 | xd fs=>obtain ⟨_,⟨_,_,_,e,_⟩,_⟩:=x;exact Heap.lt_size e
 | rng lo hi=>obtain ⟨_,_,_,e⟩:=x;exact Heap.lt_size e
 | frz ob u=>obtain ⟨e,_⟩:=x;exact Heap.lt_size e
 | tbl ps=>exact Heap.lt_size (show h.get? a=some _ from x)
 | met f y=>exact Heap.lt_size (show h.get? a=some _ from x)
 | ext φ=>obtain ⟨_,⟨_,e⟩,_⟩:=x;exact Heap.lt_size e
theorem Paired.mapP {α β:Type} {F G:α→β→Prop}:∀{l₁:List α} {l₂:List β},Paired F l₁ l₂→(∀a b,F a b→G a b)→Paired G l₁ l₂
 | _,_,.nil,_=>.nil
 | _,_,.cons r t,f=>.cons (f _ _ r) (Paired.mapP t f)
theorem ObjOk.stay (x:ObjOk P w H h a o) (k:∀b u,(b=a∨H b=some (.own a))→h.get? b=some u→h'.get? b=some u)
  (ho:∀b,H b=some (.own a)→H' b=some (.own a)) (ht:∀b xs,H b=some (.tup xs)→H' b=some (.tup xs)):ObjOk P w H' h' a o:=by
 induction o with
 | lst xs=>obtain ⟨z,its,n,r,e⟩:=x;exact ⟨z,its,n,r,k _ _ (.inl rfl) e⟩
 | tup xs=>obtain ⟨z,its,r,ob,e,c⟩:=x;exact ⟨z,its,r,ob,k _ _ (.inl rfl) e,c⟩
 | dK kvs=>obtain ⟨z,y,vs,r,ob,es,ep,e,c⟩:=x;exact ⟨z,y,vs,r,ob,es,ep,k _ _ (.inl rfl) e,c⟩
 | dT kvs=>
  obtain ⟨z,y,xs,r,ob,es,ep,e,c⟩:=x
  exact ⟨z,y,xs,Paired.mapP r fun p q z=>⟨z.1,ht _ _ z.2.1,z.2.2⟩,ob,es,ep,k _ _ (.inl rfl) e,c⟩
 | set S n=>obtain ⟨ob,es,ep,t,e,c⟩:=x;exact ⟨ob,es,ep,t,k _ _ (.inl rfl) e,c⟩
 | ins C dx fs=>
  obtain ⟨d,z,ne,e,mA,⟨od,es,ep,e2,c⟩,r⟩:=x
  exact ⟨ho _ d,z,ne,k _ _ (.inl rfl) e,mA,⟨od,es,ep,k _ _ (.inr d) e2,c⟩,r⟩
 | own y=>obtain ⟨ob,e⟩:=x;exact ⟨ob,k _ _ (.inl rfl) e⟩
 | xd fs=>obtain ⟨mA,⟨od,es,ep,e,c⟩,r⟩:=x;exact ⟨mA,⟨od,es,ep,k _ _ (.inl rfl) e,c⟩,r⟩
 | rng lo hi=>obtain ⟨t,u,v,e⟩:=x;exact ⟨t,u,v,k _ _ (.inl rfl) e⟩
 | frz ob u ih=>obtain ⟨e,q⟩:=x;exact ⟨k _ _ (.inl rfl) e,ih q⟩
 | tbl ps=>
  have e:h.get? a=some { cls:=.none,data:=.fields ps }:=x
  show h'.get? a=some { cls:=.none,data:=.fields ps }
  exact k a _ (.inl rfl) e
 | met f y=>
  have e:h.get? a=some (PySem.W.methodObj (.ref f) (.ref y)):=x
  show h'.get? a=some (PySem.W.methodObj (.ref f) (.ref y))
  exact k a _ (.inl rfl) e
 | ext φ=>obtain ⟨p,⟨o,e⟩,st⟩:=x;exact ⟨st _ _ p fun o q=>k _ _ (.inl rfl) q,⟨o,k _ _ (.inl rfl) e⟩,st⟩
theorem HOk.lt (x:HOk P w H h) (e:H a=some o):a < h.objs.size:=(x a o e).lt
theorem HOk.fresh (x:HOk P w H h) (e:h.objs.size≤a):H a=none:=by
 cases q:H a with
 | none=>rfl
 | some u=>exact absurd (Nat.lt_of_lt_of_le (x.lt q) e) (Nat.lt_irrefl _)
theorem HOk.kept (x:HOk P w H h) (k:∀b u,h.get? b=some u→h'.get? b=some u):HOk P w H h':=fun a o e=>
 (x a o e).stay (fun b u _ q=>k b u q) (fun _ q=>q) fun _ _ q=>q
theorem HOk.laid (x:HOk P w H h) (k:∀b u,h.get? b=some u→h'.get? b=some u) (hp:h.objs.size≤a) (new:ObjOk P w (upd H a o) h' a o):HOk P w (upd H a o) h':=fun b u e=>by
 have hn:=x.fresh hp
 by_cases hb:b=a
 ·subst hb;rw [upd_same] at e;cases e;exact new
 ·rw [upd_ne hb] at e
  exact (x b u e).stay (fun c v _ q=>k c v q) (fun c q=>by rw [upd_ne (ne_of_none q hn)];exact q) fun c xs q=>by rw [upd_ne (ne_of_none q hn)];exact q
end
def Rd (H:Hp) (a:Addr) (u:HO):Prop:=H a=some u∨∃o,H a=some (.frz o u)
theorem Rd.ok {P:Program} {w:World} {H:Hp} {h:Heap} {a:Addr} {u:HO} (r:Rd H a u) (x:HOk P w H h):ObjOk P w H h a u:=by
 rcases r with r | ⟨o,r⟩
 ·exact x a u r
 ·obtain ⟨_,q⟩:=x a _ r
  exact q
def Mut:Option HO→Prop
 | some (.lst _)=>True
 | some (.dK _)=>True
 | some (.dT _)=>True
 | some (.set _ _)=>True
 | some (.ins _ _ _)=>True
 | some (.ext _)=>True
 | _=>False
section
variable {P:Program} {w:World} {H:Hp} {h h':Heap} {x e:Addr} {o':HO}
theorem HOk.write (ok:HOk P w H h) (mu:Mut (H x)) (he:e=x∨H e=some (.own x)) (k:∀b u,b≠e→h.get? b=some u→h'.get? b=some u) (heo:∃u,h'.get? e=some u)
  (new:ObjOk P w (upd H x o') h' x o'):HOk P w (upd H x o') h':=fun b u q=>by
 have nown:∀c y,H c=some (.own y)→c≠x:=fun c y r z=>by subst z;rw [r] at mu;exact mu
 have ntup:∀c xs,H c=some (.tup xs)→c≠x:=fun c xs r z=>by subst z;rw [r] at mu;exact mu
 by_cases hb:b=x
 ·subst hb;rw [upd_same] at q;cases q;exact new
 ·rw [upd_ne hb] at q
  by_cases hbe:b=e
  ·have q':H b=some (.own x):=by
    rcases he with z | z
    ·exact absurd (hbe.trans z) hb
    ·rw [hbe];exact z
   rw [q] at q';cases q'
   obtain ⟨v,hv⟩:=heo
   exact ⟨v,by rw [hbe];exact hv⟩
  ·refine (ok b u q).stay (fun c v hc r=>k c v ?_ r) (fun c r=>by rw [upd_ne (nown c b r)];exact r) fun c xs r=>by rw [upd_ne (ntup c xs r)];exact r
   rcases hc with rfl | hc
   ·exact hbe
   ·rintro rfl
    rcases he with z | z
    ·exact nown c b hc z
    ·rw [hc] at z;cases z;exact hb rfl
end
structure Un (fs ex:List Addr) (H H':Hp) (h h':Heap):Prop where
 keep:∀b o,h.get? b=some o→H b=none→b∉fs→b∉ex→h'.get? b=some o
 slot:∀b o,h.get? b=some o→H b=none→b∈fs→b∉ex→∃sl,h'.get? b=some { o with slots:=sl }
 free:∀b o,h.get? b=some o→H b=none→b∉ex→H' b=none
 there:∀b o,h.get? b=some o→b∉ex→∃o',h'.get? b=some o'
 tups:∀b xs,H b=some (.tup xs)→H' b=some (.tup xs)
 frzs:∀b o u,H b=some (.frz o u)→H' b=some (.frz o u)
 tbls:∀b ps,H b=some (.tbl ps)→∃more,H' b=some (.tbl (ps ++ more))
section
variable {fs fs' ex ex':List Addr} {H H1 H2:Hp} {h h1 h2 h':Heap} {a x e:Addr} {o:HO}
theorem Un.any (u:Un fs ex H H1 h h1) {b:Addr} {ob:Obj} (q:h.get? b=some ob) (n:H b=none) (hx:b∉ex):∃sl,h1.get? b=some { ob with slots:=sl }:=by
 by_cases hb:b∈fs
 ·exact u.slot b ob q n hb hx
 ·exact ⟨ob.slots,u.keep b ob q n hb hx⟩
theorem Un.kept (k:∀b u,h.get? b=some u→h'.get? b=some u):Un fs ex H H h h':=
 ⟨fun b ob q _ _ _=>k b ob q,fun b ob q _ _ _=>⟨ob.slots,k b ob q⟩,fun _ _ _ n _=>n,fun b ob q _=>⟨ob,k b ob q⟩,fun _ _ q=>q,fun _ _ _ q=>q,fun _ ps q=>⟨#[],by rw [q];simp⟩⟩
theorem Un.refl:Un fs ex H H h h:=Un.kept fun _ _ q=>q
theorem Un.laid (k:∀b u,h.get? b=some u→h'.get? b=some u) (hp:h.objs.size≤a) (hn:H a=none):Un fs ex H (upd H a o) h h' where
 keep:=fun b u q _ _ _=>k b u q
 slot:=fun b u q _ _ _=>⟨u.slots,k b u q⟩
 free:=fun b u q n _=>by rw [upd_ne (Nat.ne_of_lt (Nat.lt_of_lt_of_le (Heap.lt_size q) hp))];exact n
 there:=fun b u q _=>⟨u,k b u q⟩
 tups:=fun b xs q=>by rw [upd_ne (ne_of_none q hn)];exact q
 frzs:=fun b u xs q=>by rw [upd_ne (ne_of_none q hn)];exact q
 tbls:=fun b ps q=>⟨#[],by rw [upd_ne (ne_of_none q hn),q];simp⟩
theorem Un.write (mu:Mut (H x)) (he:e=x∨H e=some (.own x)) (k:∀b u,b≠e→h.get? b=some u→h'.get? b=some u) (heo:∃u,h'.get? e=some u):Un fs ex H (upd H x o) h h':=by
 have hx:∀b,H b=none→b≠x:=fun b n z=>by subst z;rw [n] at mu;exact mu
 have hb:∀b,H b=none→b≠e:=fun b n z=>by
  subst z
  rcases he with r | r
  ·exact hx b n r
  ·rw [n] at r;cases r
 have hm:∀b u,H b=some u→¬Mut (some u)→b≠x:=fun b u q nm z=>by subst z;rw [q] at mu;exact nm mu
 refine ⟨fun b u q n _ _=>k b u (hb b n) q,fun b u q n _ _=>⟨u.slots,k b u (hb b n) q⟩,fun b u q n _=>by rw [upd_ne (hx b n)];exact n,fun b u q _=>?_,
  fun b xs q=>by rw [upd_ne (hm b _ q fun z=>z)];exact q,fun b u xs q=>by rw [upd_ne (hm b _ q fun z=>z)];exact q,fun b ps q=>⟨#[],by rw [upd_ne (hm b _ q fun z=>z),q];simp⟩⟩
 by_cases hbe:b=e
 ·subst hbe;exact heo
 ·exact ⟨u,k b u hbe q⟩
end
def trk (h:Heap) (H:Hp):List Addr:=(List.range h.objs.size).filter fun a=>(H a).isSome
def hidT (h:Heap) (H:Hp):Heap:=PySem.W.hideAll h (trk h H)
theorem hidT_size (h:Heap) (H:Hp):(hidT h H).objs.size=h.objs.size:=PySem.W.hideAll_size _ _
theorem hidT_get {h:Heap} {H:Hp} {b:Addr} {o:Obj} (e:h.get? b=some o) (n:H b=none):(hidT h H).get? b=some o:=
 PySem.W.hideAll_get _ e fun hm=>by
  have q:(H b).isSome=true:=(List.mem_filter.mp hm).2
  rw [n] at q;simp at q
theorem of_hidT {h:Heap} {H:Hp} {b:Addr} {o:Obj} (e:(hidT h H).get? b=some o):h.get? b=some o∧H b=none:=by
 have e':h.get? b=some o:=PySem.W.of_hideAll (trk h H) e
 refine ⟨e',?_⟩
 cases q:H b with
 | none=>rfl
 | some x=>
  have hm:b∈trk h H:=List.mem_filter.mpr ⟨List.mem_range.mpr (Heap.lt_size e'),by simp [q]⟩
  have z:(hidT h H).get? b=none:=PySem.W.hideAll_none (trk h H) hm
  rw [z] at e;cases e
def allNews (g h:Heap) (L:Addr):List (Addr×Obj):=(List.range h.objs.size).filterMap fun a=>if a=L∨(g.get? a).isSome=true then none else (h.get? a).map fun o=>(a,o)
def rest (g h:Heap) (L d:Addr):List (Addr×Obj):=(allNews g h L).filter fun p=>decide (p.1≠d)
end L2
namespace L2
open PySem PySem.Spec PyProof.Rows
structure Mod (K:PySem.W.Frag) (mg:Str→Option Value) (base:Heap):Prop where
 kin:K.In base
 glob:base.Ns mainGlobals mg
 blt:∃mb,base.Ns builtinsNs mb∧∀x:Str,x≠"__name__"→mb x=bootBuiltins x
 nolimit:base.NoLimit
structure Cx where
 prog:Program
 w:World
 K:PySem.W.Frag
 mg:Str→Option Value
 base:Heap
 A:Around
 N:List Str
 s₀:Shared
 H₀:Hp
 env:Env
 outer:List Env
 stack:List Env
 ex:List Addr
 fn:Str→Bool
 calm:Bool
 pn:List (Addr×Obj)
 xe:Value→Shared→Prop
def frs (l:List Env):List Addr:=l.filterMap (·.frame)
abbrev Cx.fs (X:Cx):List Addr:=frs X.outer
def Vis (sc:Scope) (x:Str):Prop:=sc.names.lookup x=some .local∨sc.names.lookup x=some .cell∨sc.names.lookup x=some .free
def Loc (sc:Scope) (x:Str):Prop:=sc.names.lookup x=some .local∨sc.names.lookup x=some .cell
def Look (env:Env) (h:Heap) (m:Str→Option Value) (x:Str) (u:Value):Prop:=
 (env.kindOf x=some .local∧m x=some u)∨((env.kindOf x=some .cell∨env.kindOf x=some .free)∧∃c,env.cells.lookup x=some c∧h.IsCell c (some u))
structure Cx.Ok (X:Cx):Prop where
 mod:Mod X.K X.mg X.base
 kind:X.env.scope.kind = .function
 glob:X.env.globals=mainGlobals
 blt:X.env.builtins=builtinsNs
 above:X.s₀.heap.objs.size≤X.env.locals
 inj:∀x y c,X.env.cells.lookup x=some c→X.env.cells.lookup y=some c→x=y
 has:∀x,(X.env.kindOf x=some .cell∨X.env.kindOf x=some .free)→∃c,X.env.cells.lookup x=some c
 cab:∀x c,X.fn x=true→X.env.cells.lookup x=some c→X.s₀.heap.objs.size≤c
 hd:X.calm=true→X.A.handled=none
 frames:X.A.frames=some X.stack
 stk:X.stack=X.outer∨(X.stack=X.env :: X.outer∧X.env.frame=some X.env.locals)
 exf:∀b∈X.ex,b≠X.env.locals∧∀x c,X.env.cells.lookup x=some c→c≠b
 bs:∀b o,X.base.get? b=some o→X.s₀.heap.get? b=some o∧X.H₀ b=none
 bsz:X.base.objs.size≤X.s₀.heap.objs.size
 noex:∀b o,X.base.get? b=some o→b∉X.ex
 exfs:∀b∈X.ex,b∉X.fs
 funs:X.s₀.heap.FunFrames X.base X.outer
 frf:∀b∈X.fs,X.H₀ b=none
structure Inv (X:Cx) (pins:List (Addr×Obj)) (σ:List (Option V)) (H:Hp) (s:Shared):Prop where
 ok:X.Ok
 os:s.os=X.s₀.os
 bare:AllBare s.gens
 base:Un X.fs X.ex X.H₀ H X.s₀.heap s.heap
 loc:∃m,s.heap.Ns X.env.locals m∧∀(i:Nat) (x:Str) (v:V),X.N[i]? = some x→σ[i]? = some (some v)→Vis X.env.scope x→∃u,RelV v u∧Look X.env s.heap m x u
 cell:∀x c,X.env.cells.lookup x=some c→∃v,s.heap.IsCell c v
 free:H X.env.locals=none
 freeC:∀x c,X.env.cells.lookup x=some c→H c=none
 pin:∀p∈X.pn ++ pins,s.heap.get? p.1=some p.2∧H p.1=none∧p.1≠X.env.locals∧p.1∉X.fs∧∀v,p.2.data≠.cell v
 hok:HOk X.prog X.w H s.heap
 len:σ.length=X.N.length
section
variable {X:Cx} {pins:List (Addr×Obj)} {σ:List (Option V)} {H H':Hp} {s:Shared} {h':Heap}
theorem Cx.Ok.nofr (ok:X.Ok) {b:Addr} {o:Obj} (e:X.base.get? b=some o):b∉X.fs:=fun hb=>by
 have:=(ok.funs.mem hb).1
 rw [e] at this;cases this
theorem Inv.bs (I:Inv X pins σ H s):∀b o,X.base.get? b=some o→s.heap.get? b=some o∧H b=none:=fun b o e=>
 ⟨I.base.keep b o (I.ok.bs b o e).1 (I.ok.bs b o e).2 (I.ok.nofr e) (I.ok.noex b o e),I.base.free b o (I.ok.bs b o e).1 (I.ok.bs b o e).2 (I.ok.noex b o e)⟩
theorem Inv.bk (I:Inv X pins σ H s):∀b o,X.base.get? b=some o→s.heap.get? b=some o:=fun b o e=>(I.bs b o e).1
theorem Inv.mod (I:Inv X pins σ H s):Mod X.K X.mg X.base:=I.ok.mod
theorem Inv.kIn (I:Inv X pins σ H s):X.K.In s.heap:=I.ok.mod.kin.keeps I.bk
theorem Inv.fr (I:Inv X pins σ H s):∃m,Fr X.base X.env.locals s.heap m:=
 let ⟨m,hn,_⟩:=I.loc
 ⟨m,hn,I.bk,Nat.le_trans I.ok.bsz I.ok.above⟩
theorem Inv.lt (I:Inv X pins σ H s):X.env.locals < s.heap.objs.size:=let ⟨_,hn,_⟩:=I.loc;hn.lt
theorem Inv.sz (I:Inv X pins σ H s):X.s₀.heap.objs.size≤s.heap.objs.size:=Nat.le_trans I.ok.above (Nat.le_of_lt I.lt)
theorem Inv.nofs (I:Inv X pins σ H s) {a:Addr} (h:s.heap.objs.size≤a):a∉X.fs:=fun hb=>by
 obtain ⟨_,o,ho,_⟩:=I.ok.funs.mem hb
 exact absurd (Nat.lt_of_lt_of_le (Heap.lt_size ho) (Nat.le_trans I.sz h)) (Nat.lt_irrefl _)
theorem Inv.cne (I:Inv X pins σ H s):∀x c,X.env.cells.lookup x=some c→c≠X.env.locals:=fun x c e z=>by
 obtain ⟨v,o,ho,hd⟩:=I.cell x c e
 obtain ⟨m,⟨o',es,ep,ho',hd',_⟩,_⟩:=I.loc
 rw [z,ho'] at ho;cases ho;rw [hd'] at hd;cases hd
theorem Inv.funs (I:Inv X pins σ H s):s.heap.FunFrames X.base X.outer:=by
 have all:∀(l:List Env),(∀b∈frs l,b∈X.fs)→X.s₀.heap.FunFrames X.base l→s.heap.FunFrames X.base l:=by
  intro l
  induction l with
  | nil=>intro _ _;trivial
  | cons env r ih=>
   intro hs hl
   obtain ⟨hk,⟨L,o,hf,hn,ho,hd⟩,hr⟩:=hl
   have hL:L∈X.fs:=hs L (by unfold frs;rw [List.filterMap_cons,hf];exact List.mem_cons_self)
   obtain ⟨sl,e⟩:=I.base.slot L o ho (I.ok.frf L hL) hL fun z=>I.ok.exfs L z hL
   exact ⟨hk,⟨L,_,hf,hn,e,hd⟩,ih (fun b hb=>hs b (by unfold frs;rw [List.filterMap_cons,hf];exact List.mem_cons_of_mem _ hb)) hr⟩
 exact all X.outer (fun _ hb=>hb) I.ok.funs
theorem Inv.stack (I:Inv X pins σ H s):s.heap.FunFrames X.base X.stack:=by
 rcases I.ok.stk with e | ⟨e,hf⟩
 ·rw [e];exact I.funs
 ·rw [e]
  obtain ⟨m,hn,_⟩:=I.loc
  refine .cons (by rw [I.ok.kind];decide) hf hn ?_ I.funs
  exact Heap.get?_none_of_le (Nat.le_trans I.ok.bsz I.ok.above)
theorem Inv.stkSub (I:Inv X pins σ H s):∀b∈frs X.stack,b∈X.env.locals :: X.fs:=fun b hb=>by
 rcases I.ok.stk with e | ⟨e,hf⟩
 ·rw [e] at hb;exact List.mem_cons_of_mem _ hb
 ·rw [e] at hb
  unfold frs at hb
  rw [List.filterMap_cons,hf] at hb
  exact hb
theorem Inv.stkFree (I:Inv X pins σ H s):∀b∈frs X.stack,H b=none:=fun b hb=>by
 rcases List.mem_cons.mp (I.stkSub b hb) with e | hb
 ·rw [e];exact I.free
 ·obtain ⟨_,o,ho,_⟩:=I.ok.funs.mem hb
  exact I.base.free b o ho (I.ok.frf b hb) fun z=>I.ok.exfs b z hb
theorem Inv.step {g':Array GenState} {t':Nat} {d':Drawn} {ch:List Addr} (I:Inv X pins σ H s)
  (hch:∀b∈ch,(b∈X.ex∨X.s₀.heap.objs.size≤b)∧b≠X.env.locals∧(∀x c,X.env.cells.lookup x=some c→c≠b)∧∀p∈X.pn ++ pins,p.1≠b)
  (keep:∀b o,b≠X.env.locals→b∉X.fs→b∉ch→s.heap.get? b=some o→H b=none→h'.get? b=some o)
  (slot:∀b o,b≠X.env.locals→b∈X.fs→b∉ch→s.heap.get? b=some o→H b=none→∃sl,h'.get? b=some { o with slots:=sl }) (free:∀b o,b∉ch→s.heap.get? b=some o→H b=none→H' b=none)
  (there:∀b o,b∉ch→s.heap.get? b=some o→∃o',h'.get? b=some o')
  (tups:∀b xs,H b=some (.tup xs)→H' b=some (.tup xs)) (frzs:∀b o u,H b=some (.frz o u)→H' b=some (.frz o u)) (tbls:∀b ps,H b=some (.tbl ps)→∃more,H' b=some (.tbl (ps ++ more)))
  (ns:∀m,s.heap.Ns X.env.locals m→h'.Ns X.env.locals m) (hok:HOk X.prog X.w H' h') (hg:AllBare g') :
  Inv X pins σ H' { s with heap:=h',gens:=g',drawn:=d',toks:=t' }:=by
 have neL:∀b o,X.s₀.heap.get? b=some o→b≠X.env.locals:=fun b o e=>Nat.ne_of_lt (Nat.lt_of_lt_of_le (Heap.lt_size e) I.ok.above)
 have neC:∀b o,X.s₀.heap.get? b=some o→b∉X.ex→b∉ch:=fun b o e hx hb=>by
  rcases (hch b hb).1 with z | z
  ·exact hx z
  ·exact absurd (Nat.lt_of_lt_of_le (Heap.lt_size e) z) (Nat.lt_irrefl _)
 have cellK:∀x c,X.env.cells.lookup x=some c→∀v,s.heap.IsCell c v→h'.IsCell c v:=fun x c e v zz0=>by
  obtain ⟨o,ho,hd⟩:=zz0
  have nch:c∉ch:=fun z=>(hch c z).2.2.1 x c e rfl
  by_cases hc:c∈X.fs
  ·obtain ⟨sl,q⟩:=slot c o (I.cne x c e) hc nch ho (I.freeC x c e)
   exact ⟨_,q,hd⟩
  ·exact ⟨o,keep c o (I.cne x c e) hc nch ho (I.freeC x c e),hd⟩
 refine ⟨I.ok,I.os,hg,⟨fun b o e n hb hx=>?_,fun b o e n hb hx=>?_,fun b o e n hx=>?_,fun b o e hx=>?_,fun b xs e=>tups b xs (I.base.tups b xs e),fun b o xs e=>frzs b o xs (I.base.frzs b o xs e),fun b ps e=>?_⟩,?_,fun x c e=>?_,?_,fun x c e=>?_,fun p hp=>?_,hok,I.len⟩
 ·exact keep b o (neL b o e) hb (neC b o e hx) (I.base.keep b o e n hb hx) (I.base.free b o e n hx)
 ·obtain ⟨sl,e1⟩:=I.base.slot b o e n hb hx
  obtain ⟨sl',e2⟩:=slot b _ (neL b o e) hb (neC b o e hx) e1 (I.base.free b o e n hx)
  exact ⟨sl',e2⟩
 ·obtain ⟨o',e1⟩:=I.base.there b o e hx
  exact free b o' (neC b o e hx) e1 (I.base.free b o e n hx)
 ·obtain ⟨o',e1⟩:=I.base.there b o e hx
  exact there b o' (neC b o e hx) e1
 ·obtain ⟨m1,e1⟩:=I.base.tbls b ps e
  obtain ⟨m2,e2⟩:=tbls b _ e1
  exact ⟨m1 ++ m2,by rw [e2,Array.append_assoc]⟩
 ·obtain ⟨m,hn,hl⟩:=I.loc
  refine ⟨m,ns m hn,fun i x v e1 e2 e3=>?_⟩
  obtain ⟨u,r,l⟩:=hl i x v e1 e2 e3
  refine ⟨u,r,?_⟩
  rcases l with l | ⟨k,c,e,z⟩
  ·exact .inl l
  ·exact .inr ⟨k,c,e,cellK x c e _ z⟩
 ·obtain ⟨v,z⟩:=I.cell x c e
  exact ⟨v,cellK x c e v z⟩
 ·obtain ⟨m,⟨o,_,_,ho,_⟩,_⟩:=I.loc
  exact free _ o (fun z=>(hch _ z).2.1 rfl) ho I.free
 ·obtain ⟨v,o,ho,hd⟩:=I.cell x c e
  exact free c o (fun z=>(hch c z).2.2.1 x c e rfl) ho (I.freeC x c e)
 ·obtain ⟨e,n,ne,nf,d⟩:=I.pin p hp
  have nch:p.1∉ch:=fun z=>(hch p.1 z).2.2.2 p hp rfl
  exact ⟨keep p.1 p.2 ne nf nch e n,free p.1 p.2 nch e n,ne,nf,d⟩
theorem Inv.un {t':Nat} (I:Inv X pins σ H s) (u:Un X.fs [] H H' s.heap h') (hok:HOk X.prog X.w H' h'):Inv X pins σ H' { s with heap:=h',toks:=t' }:=by
 obtain ⟨m,⟨o,es,ep,ho,r⟩,_⟩:=id I.loc
 obtain ⟨sl,hL⟩:=u.any ho I.free (by simp)
 exact I.step (g':=s.gens) (d':=s.drawn) (ch:=[]) (fun _ z=>nomatch z) (fun b o _ hb _ e n=>u.keep b o e n hb (by simp)) (fun b o _ hb _ e n=>u.slot b o e n hb (by simp)) (fun b o _ e n=>u.free b o e n (by simp)) (fun b o _ e=>u.there b o e (by simp)) u.tups u.frzs u.tbls (fun m' hm=>by
  obtain ⟨o',es',ep',ho',r'⟩:=hm
  rw [ho] at ho';cases ho'
  exact ⟨_,es',ep',hL,r'⟩) hok I.bare
theorem Inv.call {g':Array GenState} {t':Nat} {d':Drawn} {ch:List Addr} (I:Inv X pins σ H s) (u:Un (frs X.stack) ch H H' s.heap h') (hok:HOk X.prog X.w H' h') (hg:AllBare g')
  (hch:∀b∈ch,(b∈X.ex∨X.s₀.heap.objs.size≤b)∧b≠X.env.locals∧(∀x c,X.env.cells.lookup x=some c→c≠b)∧∀p∈X.pn ++ pins,p.1≠b) :
  Inv X pins σ H' { s with heap:=h',gens:=g',drawn:=d',toks:=t' }:=by
 obtain ⟨m,⟨o,es,ep,ho,r⟩,_⟩:=id I.loc
 obtain ⟨sl,hL⟩:=u.any ho I.free fun z=>(hch _ z).2.1 rfl
 exact I.step (ch:=ch) hch (fun b o hL hb hc e n=>u.keep b o e n (fun z=>(List.mem_cons.mp (I.stkSub b z)).elim hL hb) hc) (fun b o _ _ hc e n=>u.any e n hc) (fun b o hc e n=>u.free b o e n hc) (fun b o hc e=>u.there b o e hc) u.tups u.frzs u.tbls (fun m' hm=>by
  obtain ⟨o',es',ep',ho',r'⟩:=hm
  rw [ho] at ho';cases ho'
  exact ⟨_,es',ep',hL,r'⟩) hok hg
theorem Inv.turned {t':Nat} {it:Addr} (I:Inv X pins σ H s) (k:∀b o,b≠it→s.heap.get? b=some o→h'.get? b=some o) (hn:H it=none) (hL:it≠X.env.locals)
  (h1:it∈X.ex∨X.s₀.heap.objs.size≤it) (h2:∀x c,X.env.cells.lookup x=some c→c≠it) (h3:∀p∈X.pn ++ pins,p.1≠it):Inv X pins σ H { s with heap:=h',toks:=t' }:=by
 have nit:∀b u,H b=some u→b≠it:=fun b u e z=>by rw [z,hn] at e;cases e
 refine I.step (g':=s.gens) (d':=s.drawn) (ch:=[it]) (fun b hb=>?_) (fun b o _ _ hc e _=>k b o (fun z=>hc (by simp [z])) e) (fun b o _ _ hc e _=>⟨o.slots,k b o (fun z=>hc (by simp [z])) e⟩) (fun _ _ _ _ n=>n)
  (fun b o hc e=>⟨o,k b o (fun z=>hc (by simp [z])) e⟩) (fun _ _ e=>e) (fun _ _ _ e=>e) (fun b ps e=>⟨#[],by rw [e];simp⟩) (fun m hm=>?_) (fun b u e=>?_) I.bare
 ·have e:b=it:=by simpa using hb
  subst e
  exact ⟨h1,hL,h2,h3⟩
 ·obtain ⟨o,es,ep,ho,r⟩:=hm
  exact ⟨o,es,ep,k _ o (Ne.symm hL) ho,r⟩
 ·refine (I.hok b u e).stay (fun c v hc q=>k c v ?_ q) (fun _ q=>q) fun _ _ q=>q
  rcases hc with z | z
  ·rw [z];exact nit b u e
  ·exact nit c _ z
theorem Inv.tok (I:Inv X pins σ H s) (t:Nat):Inv X pins σ H { s with toks:=t }:=I.un (h':=s.heap) (t':=t) Un.refl I.hok
theorem Inv.kept {t':Nat} (I:Inv X pins σ H s) (k:∀b u,s.heap.get? b=some u→h'.get? b=some u):Inv X pins σ H { s with heap:=h',toks:=t' }:=I.un (Un.kept k) (I.hok.kept k)
theorem Inv.laid {a:Addr} {o:HO} {t':Nat} (I:Inv X pins σ H s) (k:∀b u,s.heap.get? b=some u→h'.get? b=some u) (hp:s.heap.objs.size≤a) (new:ObjOk X.prog X.w (upd H a o) h' a o) :
  Inv X pins σ (upd H a o) { s with heap:=h',toks:=t' }:=I.un (Un.laid k hp (I.hok.fresh hp)) (I.hok.laid k hp new)
theorem Inv.write {x e:Addr} {o:HO} {t':Nat} (I:Inv X pins σ H s) (mu:Mut (H x)) (he:e=x∨H e=some (.own x)) (k:∀b u,b≠e→s.heap.get? b=some u→h'.get? b=some u) (heo:∃u,h'.get? e=some u)
  (new:ObjOk X.prog X.w (upd H x o) h' x o):Inv X pins σ (upd H x o) { s with heap:=h',toks:=t' }:=I.un (Un.write mu he k heo) (I.hok.write mu he k heo new)
theorem Inv.weak {σ':List (Option V)} (I:Inv X pins σ H s) (hl:σ'.length=σ.length) (w:∀(i:Nat) v,σ'[i]? = some (some v)→σ[i]? = some (some v)):Inv X pins σ' H s:=
 ⟨I.ok,I.os,I.bare,I.base,let ⟨m,hn,hl'⟩:=I.loc;⟨m,hn,fun i x v e1 e2 e3=>hl' i x v e1 (w i v e2) e3⟩,I.cell,I.free,I.freeC,I.pin,I.hok,hl.trans I.len⟩
theorem Inv.pins_of {pins':List (Addr×Obj)} (I:Inv X pins σ H s) (h:∀p∈pins',s.heap.get? p.1=some p.2∧H p.1=none∧p.1≠X.env.locals∧p.1∉X.fs∧∀v,p.2.data≠.cell v):Inv X pins' σ H s:=
 ⟨I.ok,I.os,I.bare,I.base,I.loc,I.cell,I.free,I.freeC,fun p hp=>(List.mem_append.mp hp).elim (fun z=>I.pin p (List.mem_append_left _ z)) (h p),I.hok,I.len⟩
theorem nodup_ix {N:List Str} (hN:N.Nodup) {i j:Nat} {x:Str} (a:N[i]? = some x) (b:N[j]? = some x):i=j:=by
 obtain ⟨h1,e1⟩:=List.getElem?_eq_some_iff.mp a
 obtain ⟨h2,e2⟩:=List.getElem?_eq_some_iff.mp b
 exact (List.getElem_inj hN).mp (e1.trans e2.symm)
theorem store_ok2 {M:Model} {A:Around} {E:Value→Shared→Prop} {i:Nat} {x:Str} {v:V} {u:Value} {Q:Unit→Shared→Prop} (I:Inv X pins σ H s) (hN:X.N.Nodup) (hi:X.N[i]? = some x) (hx:Loc X.env.scope x) (r:RelV v u)
  (h:∀s',Inv X pins (σ.set i (some v)) H s'→(∃a,Heap.SameBut a s.heap s'.heap∧(a=X.env.locals∨X.env.cells.lookup x=some a))→Q () s') (hf:X.fn x=true∨X.env.scope.names.lookup x=some .local:=by first | exact .inl rfl | exact .inr rfl | assumption):wpAny M A (storeName X.env x u) Q E s:=by
 obtain ⟨m,hn,hl⟩:=id I.loc
 have hcls:(X.env.scope.kind == .class || (X.env.scope.kind == .module && X.env.locals != X.env.globals))=false:=by rw [I.ok.kind];rfl
 have hiσ:i < σ.length:=by rw [I.len];exact (List.getElem?_eq_some_iff.mp hi).1
 have cne:=I.cne
 have tracked:∀{a:Addr} {h':Heap},(∃o,s.heap.get? a=some o∧H a=none)→Heap.SameBut a s.heap h'→HOk X.prog X.w H h':=fun {a h'} ha hs b ob e=>by
  obtain ⟨_,_,hfree⟩:=ha
  refine (I.hok b ob e).stay (fun c w' hc q=>(hs.2 c ?_).trans q) (fun _ q=>q) fun _ _ q=>q
  rintro rfl
  rcases hc with rfl | hc
  ·rw [hfree] at e;cases e
  ·rw [hfree] at hc;cases hc
 rcases hx with hk | hk
 ·refine wpAny_storeName_local hk hn (fun h' hn' hs=>?_) hcls
  obtain ⟨oL,_,_,hoL,_⟩:=id hn
  refine h _ ⟨I.ok,I.os,I.bare,⟨fun b o e n hb hx=>?_,fun b o e n hb hx=>?_,I.base.free,fun b o e hx=>?_,I.base.tups,I.base.frzs,I.base.tbls⟩,⟨_,hn',fun j y v' e1 e2 e3=>?_⟩,fun y c e=>?_,I.free,I.freeC,fun p hp=>?_,tracked ⟨oL,hoL,I.free⟩ hs,by simpa using I.len⟩ ⟨_,hs,.inl rfl⟩
  ·exact (hs.2 b (Nat.ne_of_lt (Nat.lt_of_lt_of_le (Heap.lt_size e) I.ok.above))).trans (I.base.keep b o e n hb hx)
  ·obtain ⟨sl,e1⟩:=I.base.slot b o e n hb hx
   exact ⟨sl,(hs.2 b (Nat.ne_of_lt (Nat.lt_of_lt_of_le (Heap.lt_size e) I.ok.above))).trans e1⟩
  ·obtain ⟨o',e1⟩:=I.base.there b o e hx
   exact ⟨o',(hs.2 b (Nat.ne_of_lt (Nat.lt_of_lt_of_le (Heap.lt_size e) I.ok.above))).trans e1⟩
  ·by_cases hj:j=i
   ·subst hj
    rw [hi] at e1;cases e1
    rw [List.getElem?_set_self hiσ] at e2
    cases e2
    exact ⟨u,r,.inl ⟨hk,by simp⟩⟩
   ·rw [List.getElem?_set_ne (Ne.symm hj)] at e2
    obtain ⟨u',r',q⟩:=hl j y v' e1 e2 e3
    refine ⟨u',r',?_⟩
    rcases q with ⟨k,e⟩ | ⟨k,c,e,z⟩
    ·refine .inl ⟨k,?_⟩
     have:y≠x:=fun e=>hj (nodup_ix hN e1 (e ▸ hi))
     simp [this,e]
    ·exact .inr ⟨k,c,e,z.sameBut hs (cne y c e)⟩
  ·obtain ⟨w',z⟩:=I.cell y c e
   exact ⟨w',z.sameBut hs (cne y c e)⟩
  ·obtain ⟨e,n,ne,nf,d⟩:=I.pin p hp
   exact ⟨(hs.2 p.1 ne).trans e,n,ne,nf,d⟩
 ·have hfn:X.fn x=true:=by
   rcases hf with z | z
   ·exact z
   ·rw [z] at hk;cases hk
  obtain ⟨c,hc⟩:=I.ok.has x (.inl hk)
  obtain ⟨w',z⟩:=I.cell x c hc
  refine wpAny_storeName_cell I.ok.kind hk hc z (fun h' hc' hs=>?_)
  obtain ⟨oc,hoc,hocd⟩:=id z
  refine h { s with heap:=h' } ⟨I.ok,I.os,I.bare,⟨fun b o e n hb hx=>?_,fun b o e n hb hx=>?_,I.base.free,fun b o e hx=>?_,I.base.tups,I.base.frzs,I.base.tbls⟩,⟨m,hn.sameBut hs (Ne.symm (cne x c hc)),fun j y v' e1 e2 e3=>?_⟩,fun y c' e=>?_,I.free,I.freeC,fun p hp=>?_,tracked ⟨oc,hoc,I.freeC x c hc⟩ hs,by simpa using I.len⟩ ⟨c,hs,.inr hc⟩
  ·exact (hs.2 b (Nat.ne_of_lt (Nat.lt_of_lt_of_le (Heap.lt_size e) (I.ok.cab x c hfn hc)))).trans (I.base.keep b o e n hb hx)
  ·obtain ⟨sl,e1⟩:=I.base.slot b o e n hb hx
   exact ⟨sl,(hs.2 b (Nat.ne_of_lt (Nat.lt_of_lt_of_le (Heap.lt_size e) (I.ok.cab x c hfn hc)))).trans e1⟩
  ·obtain ⟨o',e1⟩:=I.base.there b o e hx
   exact ⟨o',(hs.2 b (Nat.ne_of_lt (Nat.lt_of_lt_of_le (Heap.lt_size e) (I.ok.cab x c hfn hc)))).trans e1⟩
  ·by_cases hj:j=i
   ·subst hj
    rw [hi] at e1;cases e1
    rw [List.getElem?_set_self hiσ] at e2
    cases e2
    exact ⟨u,r,.inr ⟨.inl hk,c,hc,hc'⟩⟩
   ·rw [List.getElem?_set_ne (Ne.symm hj)] at e2
    obtain ⟨u',r',q⟩:=hl j y v' e1 e2 e3
    refine ⟨u',r',?_⟩
    rcases q with q | ⟨k,c',e,z'⟩
    ·exact .inl q
    ·refine .inr ⟨k,c',e,z'.sameBut hs ?_⟩
     rintro rfl
     exact hj (nodup_ix hN e1 (I.ok.inj _ _ _ e hc ▸ hi))
  ·by_cases hcc:c'=c
   ·subst hcc;exact ⟨_,hc'⟩
   ·obtain ⟨w2,z2⟩:=I.cell y c' e
    exact ⟨w2,z2.sameBut hs hcc⟩
  ·obtain ⟨e,n,ne,nf,d⟩:=I.pin p hp
   refine ⟨(hs.2 p.1 ?_).trans e,n,ne,nf,d⟩
   intro q
   rw [q,hoc] at e
   have q':oc=p.2:=Option.some.inj e
   exact d w' (by rw [←q'];exact hocd)
theorem store_ok {M:Model} {A:Around} {E:Value→Shared→Prop} {i:Nat} {x:Str} {v:V} {u:Value} {Q:Unit→Shared→Prop} (I:Inv X pins σ H s) (hN:X.N.Nodup) (hi:X.N[i]? = some x) (hx:Loc X.env.scope x) (r:RelV v u)
  (h:∀s',Inv X pins (σ.set i (some v)) H s'→Q () s') (hf:X.fn x=true∨X.env.scope.names.lookup x=some .local:=by first | exact .inl rfl | exact .inr rfl | assumption):wpAny M A (storeName X.env x u) Q E s:=
 store_ok2 I hN hi hx r (fun s' I' _=>h s' I') hf
theorem Inv.call' {s':Shared} {ch:List Addr} (I:Inv X pins σ H s) (ho:s'.os=s.os) (u:Un (frs X.stack) ch H H' s.heap s'.heap) (hok:HOk X.prog X.w H' s'.heap) (hg:AllBare s'.gens)
  (hch:∀b∈ch,(b∈X.ex∨X.s₀.heap.objs.size≤b)∧b≠X.env.locals∧(∀x c,X.env.cells.lookup x=some c→c≠b)∧∀p∈X.pn ++ pins,p.1≠b):Inv X pins σ H' s':=by
 obtain ⟨h',g',d',t',o'⟩:=s'
 have e:o'=s.os:=ho
 subst e
 exact I.call (g':=g') (t':=t') (d':=d') u hok hg hch
end
abbrev XK:=Value→Option Addr→Hp→Prop
abbrev St:=List (Option V)
abbrev VK:=V→Hp→Prop
abbrev TE:=St→Hp→VK→Prop
abbrev TT:=St→Hp→(Bool→Hp→Prop)→Prop
abbrev TA:=St→Hp→(List V→Hp→Prop)→Prop
structure Ends where
 nx:St→Hp→Prop
 rt:VK
 bk:St→Hp→Prop:=fun _ _=>False
 ct:St→Hp→Prop:=fun _ _=>False
abbrev TS:=Ends→St→Hp→Prop
def EP (X:Cx) (pins:List (Addr×Obj)) (σ:St) (Q:VK) (u:Value) (s':Shared):Prop:=∃v H',Inv X pins σ H' s'∧RelV v u∧Q v H'
def TP (X:Cx) (pins:List (Addr×Obj)) (σ:St) (Q:Bool→Hp→Prop) (b:Bool) (s':Shared):Prop:=∃H',Inv X pins σ H' s'∧Q b H'
def AP (X:Cx) (pins:List (Addr×Obj)) (σ:St) (Q:List V→Hp→Prop) (us:List Value) (s':Shared):Prop:=∃vs H',Inv X pins σ H' s'∧Vals vs us∧Q vs H'
def SP (X:Cx) (pins:List (Addr×Obj)) (D:Ends) (f:Flow) (s':Shared):Prop:=
 match f with
 | .next=>∃σ' H',Inv X pins σ' H' s'∧D.nx σ' H'
 | .brk=>∃σ' H',Inv X pins σ' H' s'∧D.bk σ' H'
 | .cont=>∃σ' H',Inv X pins σ' H' s'∧D.ct σ' H'
 | .ret u=>∃v σ' H',Inv X pins σ' H' s'∧RelV v u∧D.rt v H'
def PE (X:Cx) (e:Expr) (t:TE):Prop:=
 ∀(pins:List (Addr×Obj)) (s:Shared) (σ:St) (H:Hp) (Q:VK),Inv X pins σ H s→t σ H Q→wpAny (model X.prog X.w) X.A (eval e X.env) (EP X pins σ Q) X.xe s
def PT (X:Cx) (e:Expr) (t:TT):Prop:=
 ∀(pins:List (Addr×Obj)) (s:Shared) (σ:St) (H:Hp) (Q:Bool→Hp→Prop),Inv X pins σ H s→t σ H Q→wpAny (model X.prog X.w) X.A (isTrue e X.env (eval e X.env)) (TP X pins σ Q) X.xe s
def PW (X:Cx) (e:Expr) (t:TT):Prop:=
 ∀(whole:Sem Value) (pins:List (Addr×Obj)) (s:Shared) (σ:St) (H:Hp) (Q:Bool→Hp→Prop),Inv X pins σ H s→t σ H Q→wpAny (model X.prog X.w) X.A (isTrue e X.env whole) (TP X pins σ Q) X.xe s
theorem PW.pt {X:Cx} {e:Expr} {t:TT} (h:PW X e t):PT X e t:=h _
def PA (X:Cx) (es:List Expr) (t:TA):Prop:=
 ∀(pos:Pos) (pins:List (Addr×Obj)) (s:Shared) (σ:St) (H:Hp) (Q:List V→Hp→Prop),Inv X pins σ H s→t σ H Q→wpAny (model X.prog X.w) X.A (spliced (backTo pos (starEach es X.env))) (AP X pins σ Q) X.xe s
def PS (X:Cx) (st:Stmt) (t:TS):Prop:=
 ∀(pins:List (Addr×Obj)) (s:Shared) (σ:St) (H:Hp) (D:Ends),Inv X pins σ H s→t D σ H→wpAny (model X.prog X.w) X.A (exec st X.env) (SP X pins D) X.xe s
def PSs (X:Cx) (st:List Stmt) (t:TS):Prop:=
 ∀(pins:List (Addr×Obj)) (s:Shared) (σ:St) (H:Hp) (D:Ends),Inv X pins σ H s→t D σ H→wpAny (model X.prog X.w) X.A (execs st X.env) (SP X pins D) X.xe s
theorem thn {α:Type} {t:Sem α} {Q Q':α→Shared→Prop} {M:Model} {A:Around} {E:Value→Shared→Prop} {s:Shared} (h:wpAny M A t Q E s) (hQ:∀a s,Q a s→Q' a s):wpAny M A t Q' E s:=wpAny_mono h hQ fun _ _ x=>x
end L2
namespace L2
open PySem PySem.Spec PyProof.Rows
section
variable {X:Cx}
def tVar (i:Nat):TE:=fun σ H Q=>∃v,σ[i]? = some (some v)∧Q v H
def tC (v:V):TE:=fun _ H Q=>Q v H
theorem pe_var {i:Nat} {x:Str} {pos:Pos} (hN:X.N[i]? = some x) (hv:Vis X.env.scope x) (hd:(x == ("__debug__":Str))=false:=by decide) (hcd:(x == ("__classdict__":Str))=false:=by decide):PE X (.Name x pos) (tVar i):=by
 intro pins s σ H Q I h
 obtain ⟨v,e,h⟩:=h
 obtain ⟨m,hn,hl⟩:=I.loc
 obtain ⟨u,r,l⟩:=hl i x v hN e hv
 have fin:EP X pins σ Q u s:=⟨v,H,I,r,h⟩
 rcases l with ⟨hk,hm⟩ | ⟨hk,c,hc,hcell⟩
 ·exact wpAny_Name (wpAny_loadName_local I.ok.kind hk hn hm fin) hd
 ·rcases hk with hk | hk
  ·exact wpAny_Name (wpAny_loadName_cell I.ok.kind hk hc hcell fin) hd
  ·exact wpAny_Name (wpAny_loadName_free I.ok.kind hk hc hcell fin hcd) hd
theorem pe_int {i j pos}:PE X (.Constant (.int i) j pos) (tC (.int i)):=fun _ _ _ H _ I h=>wpAny_Constant_int ⟨.int i,H,I.tok _,⟨_,rfl⟩,h⟩
theorem pe_bl {b j pos}:PE X (.Constant (.bool b) j pos) (tC (.bl b)):=fun _ _ _ H _ I h=>Constant_bool ⟨.bl b,H,I,rfl,h⟩
theorem pe_non {j pos}:PE X (.Constant .none j pos) (tC .non):=fun _ _ _ H _ I h=>Constant_none ⟨.non,H,I,rfl,h⟩
theorem pe_str {x j pos}:PE X (.Constant (.str x) j pos) (tC (.str x)):=fun _ _ _ H _ I h=>Calls.Constant_str ⟨.str x,H,I.tok _,⟨_,rfl⟩,h⟩
def Gl (X:Cx) (x:Str):Prop:=X.env.kindOf x=some .globalImplicit
theorem ld_glob {E:Value→Shared→Prop} {pins:List (Addr×Obj)} {s:Shared} {σ:St} {H:Hp} {x:Str} {u:Value} {pos:Pos} {Q:Value→Shared→Prop} (I:Inv X pins σ H s) (hg:Gl X x) (hm:X.mg x=some u) (h:Q u s)
  (hd:(x == ("__debug__":Str))=false:=by decide):wpAny (model X.prog X.w) X.A (eval (.Name x pos) X.env) Q E s:=
 Calls.Name_function_global I.ok.kind hg (Calls.loadGlobal_global (by rw [I.ok.glob];exact I.mod.glob.keeps I.bk) hm h) hd
theorem ld_blt {E:Value→Shared→Prop} {pins:List (Addr×Obj)} {s:Shared} {σ:St} {H:Hp} {x:Str} {u:Value} {pos:Pos} {Q:Value→Shared→Prop} (I:Inv X pins σ H s) (hg:Gl X x) (hm:X.mg x=none) (hv:bootBuiltins x=some u) (h:Q u s)
  (hn:x≠"__name__":=by decide) (hd:(x == ("__debug__":Str))=false:=by decide):wpAny (model X.prog X.w) X.A (eval (.Name x pos) X.env) Q E s:=by
 obtain ⟨mb,h1,h2⟩:=I.mod.blt
 exact Calls.Name_function_global I.ok.kind hg (Calls.loadGlobal_builtin (by rw [I.ok.glob];exact I.mod.glob.keeps I.bk) hm (by rw [I.ok.blt];exact h1.keeps I.bk) ((h2 x hn).trans hv) h) hd
theorem pe_bltn {x:Str} {v:V} {u:Value} {pos:Pos} (hg:Gl X x) (hm:X.mg x=none) (hv:bootBuiltins x=some u) (r:RelV v u) (hn:x≠"__name__":=by decide) (hd:(x == ("__debug__":Str))=false:=by decide):PE X (.Name x pos) (tC v):=
 fun _ _ _ H _ I h=>ld_blt I hg hm hv ⟨v,H,I,r,h⟩ hn hd
variable {a b:Expr} {ta tb:TE} {pos:Pos}
def PC (X:Cx) (op:CmpOp) (a b:Expr) (t:TE):Prop:=
 ∀(pins:List (Addr×Obj)) (s:Shared) (σ:St) (H:Hp) (Q:VK),Inv X pins σ H s→t σ H Q→
  wpAny (model X.prog X.w) X.A (eval a X.env) (fun v s₁=>wpAny (model X.prog X.w) X.A (eval b X.env) (fun u s₂=>wpAny (model X.prog X.w) X.A (compareOp op v u) (EP X pins σ Q) X.xe s₂) X.xe s₁) X.xe s
theorem nobehind (b:Expr) {op:CmpOp} (h:op≠.In) (h2:op≠.NotIn):behindInMarks op b=false:=by
 have e1:(op == CmpOp.In)=false:=by cases op <;> first | rfl | exact absurd rfl h
 have e2:(op == CmpOp.NotIn)=false:=by cases op <;> first | rfl | exact absurd rfl h2
 cases b <;> simp [behindInMarks,e1,e2]
def tB (t:TE):TT:=fun σ H Q=>t σ H fun x H1=>∃c,x = .bl c∧Q c H1
theorem pt_cmp {op:CmpOp} {t:TE} (h:PC X op a b t) (h1:behindInMarks op b=false:=by first | exact nobehind _ (by decide) (by decide) | rfl):PT X (.Compare a [op] [b] pos) (tB t):=by
 intro pins s σ H Q I hw
 refine wpAny_isTrue_Compare1 (thn (h pins s σ H _ I hw) fun v s1 h1=>thn h1 fun u s2 h2=>thn h2 fun c s3 ⟨x,H1,I1,r1,q1⟩=>?_) h1
 obtain ⟨d,rfl,q⟩:=q1
 cases r1
 exact wpAny_truthy_bool ⟨H1,I1,q⟩
theorem pt_val {e:Expr} {t:TE} (h:PE X e t) (he:∀whole,isTrue e X.env whole=(do let v ←whole;standAt e.pos;holding [v] (truthy v)):=by intro _;rfl):PT X e (tB t):=by
 intro pins s σ H Q I hw
 refine isTrue_plain (thn (h pins s σ H _ I hw) fun v s1 ⟨x,H1,I1,r1,q1⟩=>?_) (he _)
 obtain ⟨d,rfl,q⟩:=q1
 cases r1
 exact wpAny_truthy_bool ⟨H1,I1,q⟩
variable {tA tB':TT} {rest:List Expr}
def tAnd (t u:TT):TT:=fun σ H Q=>t σ H fun c H1=>if c=true then u σ H1 Q else Q false H1
def tOr (t u:TT):TT:=fun σ H Q=>t σ H fun c H1=>if c=true then Q true H1 else u σ H1 Q
def tNot (t:TT):TT:=fun σ H Q=>t σ H fun c H1=>Q (!c) H1
theorem pw_and1 (ha:PT X a tA):PW X (.BoolOp .And [a] pos) tA:=by
 intro wh pins s σ H Q I h
 refine isTrue_and (thn (ha pins s σ H Q I h) fun c s1 e=>?_)
 cases c with
 | true=>exact isTrue_and_nil e
 | false=>exact e
theorem pw_or1 (ha:PT X a tA):PW X (.BoolOp .Or [a] pos) tA:=by
 intro wh pins s σ H Q I h
 refine isTrue_or (thn (ha pins s σ H Q I h) fun c s1 e=>?_)
 cases c with
 | false=>exact isTrue_or_nil e
 | true=>exact e
theorem pw_and (ha:PT X a tA) (hb:PW X (.BoolOp .And (b :: rest) pos) tB'):PW X (.BoolOp .And (a :: b :: rest) pos) (tAnd tA tB'):=by
 intro wh pins s σ H Q I h
 refine isTrue_and (thn (ha pins s σ H _ I h) fun c s1 zz0=>?_)
 obtain ⟨H1,I1,q1⟩:=zz0
 cases c with
 | true=>exact hb wh pins s1 σ H1 Q I1 q1
 | false=>exact ⟨H1,I1,q1⟩
theorem pw_or (ha:PT X a tA) (hb:PW X (.BoolOp .Or (b :: rest) pos) tB'):PW X (.BoolOp .Or (a :: b :: rest) pos) (tOr tA tB'):=by
 intro wh pins s σ H Q I h
 refine isTrue_or (thn (ha pins s σ H _ I h) fun c s1 zz0=>?_)
 obtain ⟨H1,I1,q1⟩:=zz0
 cases c with
 | true=>exact ⟨H1,I1,q1⟩
 | false=>exact hb wh pins s1 σ H1 Q I1 q1
theorem pt_not (ha:PT X a tA):PT X (.UnaryOp .Not a pos) (tNot tA):=by
 intro pins s σ H Q I h
 exact isTrue_not (ha pins s σ H (fun c H1=>Q (!c) H1) I h)
def tAndV (ta tb:TE):TE:=fun σ H Q=>ta σ H fun x H1=>∃c,x = .bl c∧if c=true then tb σ H1 Q else Q (.bl false) H1
def tOrV (ta tb:TE):TE:=fun σ H Q=>ta σ H fun x H1=>∃c,x = .bl c∧if c=true then Q (.bl true) H1 else tb σ H1 Q
def tNotV (ta:TE):TE:=fun σ H Q=>ta σ H fun x H1=>∃c,x = .bl c∧Q (.bl (!c)) H1
theorem pe_one {op} {t:TE} (h:PE X a t):PE X (.BoolOp op [a] pos) t:=fun pins s σ H Q I hw=>BoolOp_one (h pins s σ H Q I hw)
theorem pe_and (ha:PE X a ta) (hb:PE X (.BoolOp .And (b :: rest) pos) tb):PE X (.BoolOp .And (a :: b :: rest) pos) (tAndV ta tb):=by
 intro pins s σ H Q I h
 refine BoolOp_and (thn (ha pins s σ H _ I h) fun v s1 zz0=>?_)
 obtain ⟨x,H1,I1,r1,q1⟩:=zz0
 obtain ⟨c,rfl,q1⟩:=q1
 cases r1
 refine wpAny_truthy_bool ?_
 cases c with
 | true=>exact hb pins s1 σ H1 Q I1 q1
 | false=>exact ⟨.bl false,H1,I1,rfl,q1⟩
theorem pe_or (ha:PE X a ta) (hb:PE X (.BoolOp .Or (b :: rest) pos) tb):PE X (.BoolOp .Or (a :: b :: rest) pos) (tOrV ta tb):=by
 intro pins s σ H Q I h
 refine BoolOp_or (thn (ha pins s σ H _ I h) fun v s1 zz0=>?_)
 obtain ⟨x,H1,I1,r1,q1⟩:=zz0
 obtain ⟨c,rfl,q1⟩:=q1
 cases r1
 refine wpAny_truthy_bool ?_
 cases c with
 | false=>exact hb pins s1 σ H1 Q I1 q1
 | true=>exact ⟨.bl true,H1,I1,rfl,q1⟩
theorem pe_not (ha:PE X a ta):PE X (.UnaryOp .Not a pos) (tNotV ta):=by
 intro pins s σ H Q I h
 refine UnaryOp_ (thn (ha pins s σ H _ I h) fun v s1 zz0=>?_)
 obtain ⟨x,H1,I1,r1,q1⟩:=zz0
 obtain ⟨c,rfl,q1⟩:=q1
 cases r1
 exact not_of (wpAny_truthy_bool ⟨.bl (!c),H1,I1,rfl,q1⟩)
end
end L2
namespace L2
open PySem PySem.Spec PyProof.Rows
def SqL (K:PySem.W.Frag) (H:Hp) (a:Addr) (xs:List V):Prop:=
 Rd H a (.lst xs)∨
  ∃(o:Obj) (its:Array Value) (n:Nat),K.lookup a=some o∧o.cls = .type "list"∧o.dict=none∧o.data = .seq its n∧its.size≤sizeLine∧Vals xs its.toList
def SqT (K:PySem.W.Frag) (H:Hp) (a:Addr) (xs:List V):Prop:=
 Rd H a (.tup xs)∨
  ∃(o:Obj) (its:Array Value) (n:Nat),K.lookup a=some o∧o.cls = .type "tuple"∧o.data = .seq its n∧its.size≤sizeLine∧Vals xs its.toList
def absV:Value→Option V
 | .none=>some .non
 | .bool b=>some (.bl b)
 | .int i _=>some (.int i)
 | .str x _=>some (.str x)
 | .bytes b _=>some (.byt b)
 | .float b _=>some (.flt b)
 | .ref a=>some (.ref a)
 | .type n=>some (.ty n)
 | _=>none
theorem RelV.abs {x:V} {u:Value} (r:RelV x u):absV u=some x:=by
 cases x with
 | non=>cases r;rfl
 | bl _=>cases r;rfl
 | int _=>obtain ⟨t,rfl⟩:=r;rfl
 | str _=>obtain ⟨t,rfl⟩:=r;rfl
 | byt _=>obtain ⟨t,rfl⟩:=r;rfl
 | flt _=>obtain ⟨t,rfl⟩:=r;rfl
 | ref _=>cases r;rfl
 | ty _=>cases r;rfl
theorem RelV.inj {x y:V} {u:Value} (r:RelV x u) (q:RelV y u):x=y:=Option.some.inj (r.abs.symm.trans q.abs)
theorem Vals.inj:∀{xs ys:List V} {us:List Value},Vals xs us→Vals ys us→xs=ys
 | _,_,_,.nil,.nil=>rfl
 | _,_,_,.cons r t,.cons r' t'=>by rw [r.inj r',Vals.inj t t']
section
variable {X:Cx} {pins:List (Addr×Obj)} {σ:St} {H:Hp} {s:Shared} {a:Addr} {xs ys:List V}
theorem SqL.of {K:PySem.W.Frag} (h:H a=some (.lst xs)):SqL K H a xs:=.inl (.inl h)
theorem SqT.of {K:PySem.W.Frag} (h:H a=some (.tup xs)):SqT K H a xs:=.inl (.inl h)
theorem Inv.list (I:Inv X pins σ H s) (h:SqL X.K H a xs):∃its:List Value,Vals xs its∧PlainL s.heap a its.toArray∧xs.length≤sizeLine:=by
 rcases h with h | ⟨o,its,n,hk,hc,hd,hs,hz,r⟩
 ·obtain ⟨z,its,n,r,e⟩:=h.ok I.hok
  exact ⟨its,r,⟨_,n,e,rfl,rfl,rfl⟩,z⟩
 ·refine ⟨its.toList,r,⟨o,n,I.kIn a o hk,hc,hd,by simpa using hs⟩,?_⟩
  have e:=r.length
  simp only [Array.length_toList] at e
  omega
theorem Inv.tuple (I:Inv X pins σ H s) (h:SqT X.K H a xs):∃its:List Value,Vals xs its∧IsTup s.heap a its.toArray∧xs.length≤sizeLine:=by
 rcases h with h | ⟨o,its,n,hk,hc,hs,hz,r⟩
 ·obtain ⟨z,its,r,p⟩:=h.ok I.hok
  exact ⟨its,r,p,z⟩
 ·refine ⟨its.toList,r,⟨o,I.kIn a o hk,hc,n,by simpa using hs⟩,?_⟩
  have e:=r.length
  simp only [Array.length_toList] at e
  omega
theorem Inv.list_inj (I:Inv X pins σ H s) (h:SqL X.K H a xs) (h':SqL X.K H a ys):xs=ys:=by
 obtain ⟨its,r,⟨o,n,e,_,_,d⟩,_⟩:=I.list h
 obtain ⟨its',r',⟨o',n',e',_,_,d'⟩,_⟩:=I.list h'
 rw [e] at e';cases e'
 rw [d] at d'
 injection d' with d1 _
 have:its=its':=by simpa using congrArg Array.toList d1
 subst this
 exact r.inj r'
theorem Inv.tuple_inj (I:Inv X pins σ H s) (h:SqT X.K H a xs) (h':SqT X.K H a ys):xs=ys:=by
 obtain ⟨its,r,⟨o,e,_,n,d⟩,_⟩:=I.tuple h
 obtain ⟨its',r',⟨o',e',_,n',d'⟩,_⟩:=I.tuple h'
 rw [e] at e';cases e'
 rw [d] at d'
 injection d' with d1 _
 have:its=its':=by simpa using congrArg Array.toList d1
 subst this
 exact r.inj r'
end
abbrev Cx.wish (X:Cx) (E:Value→Shared→Prop):Cx:={ X with xe:=E }
abbrev Cx.nox (X:Cx):Cx:=X.wish fun _ _=>False
theorem Cx.Ok.wish {X:Cx} (ok:X.Ok) (E:Value→Shared→Prop):(X.wish E).Ok:=
 ⟨ok.mod,ok.kind,ok.glob,ok.blt,ok.above,ok.inj,ok.has,ok.cab,ok.hd,ok.frames,ok.stk,ok.exf,ok.bs,ok.bsz,ok.noex,ok.exfs,ok.funs,ok.frf⟩
theorem Cx.Ok.unwish {X:Cx} {E:Value→Shared→Prop} (ok:(X.wish E).Ok):X.Ok:=
 ⟨ok.mod,ok.kind,ok.glob,ok.blt,ok.above,ok.inj,ok.has,ok.cab,ok.hd,ok.frames,ok.stk,ok.exf,ok.bs,ok.bsz,ok.noex,ok.exfs,ok.funs,ok.frf⟩
section
variable {X:Cx} {pins:List (Addr×Obj)} {σ:St} {H:Hp} {s:Shared} {E:Value→Shared→Prop}
theorem Inv.wish (I:Inv X pins σ H s) (E:Value→Shared→Prop):Inv (X.wish E) pins σ H s:=⟨I.ok.wish E,I.os,I.bare,I.base,I.loc,I.cell,I.free,I.freeC,I.pin,I.hok,I.len⟩
theorem Inv.unwish (I:Inv (X.wish E) pins σ H s):Inv X pins σ H s:=⟨I.ok.unwish,I.os,I.bare,I.base,I.loc,I.cell,I.free,I.freeC,I.pin,I.hok,I.len⟩
theorem SP.unwish {D:Ends} {f:Flow} {s':Shared} (h:SP (X.wish E) pins D f s'):SP X pins D f s':=by
 cases f with
 | next=>obtain ⟨σ',H',I,q⟩:=h;exact ⟨σ',H',I.unwish,q⟩
 | brk=>obtain ⟨σ',H',I,q⟩:=h;exact ⟨σ',H',I.unwish,q⟩
 | cont=>obtain ⟨σ',H',I,q⟩:=h;exact ⟨σ',H',I.unwish,q⟩
 | ret u=>obtain ⟨v,σ',H',I,r,q⟩:=h;exact ⟨v,σ',H',I.unwish,r,q⟩
theorem PE.nox {e:Expr} {t:TE} (h:PE X.nox e t):PE X e t:=fun pins s σ H Q I hw=>
 wpAny_mono (h pins s σ H Q (I.wish _) hw) (fun _ _ ⟨v,H',I',r,q⟩=>⟨v,H',I'.unwish,r,q⟩) fun _ _ z=>False.elim z
theorem PSs.nox {st:List Stmt} {t:TS} (h:PSs X.nox st t):PSs X st t:=fun pins s σ H D I hw=>
 wpAny_mono (h pins s σ H D (I.wish _) hw) (fun _ _ q=>q.unwish) fun _ _ z=>False.elim z
end
section
variable {X:Cx} {st:Stmt} {rest:List Stmt} {t u:TS} {e:Expr} {te:TE} {pos:Pos}
def tNext:TS:=fun D σ H=>D.nx σ H
def tSeq (t u:TS):TS:=fun D σ H=>t { D with nx:=u D } σ H
theorem pss_nil:PSs X [] tNext:=fun _ _ σ H _ I h=>wpAny_execs_nil ⟨σ,H,I,h⟩
theorem pss_cons (h1:PS X st t) (h2:PSs X rest u):PSs X (st :: rest) (tSeq t u):=by
 intro pins s σ H D I h
 refine wpAny_execs_cons (thn (h1 pins s σ H { D with nx:=u D } I h) fun f s1 q=>?_)
 cases f with
 | next=>
  obtain ⟨σ',H',I',q⟩:=q
  exact h2 pins s1 σ' H' D I' q
 | ret v=>exact q
 | brk=>exact q
 | cont=>exact q
theorem pss_one (h1:PS X st t):PSs X [st] t:=by
 intro pins s σ H D I h
 refine wpAny_execs_cons (thn (h1 pins s σ H D I h) fun f s1 q=>?_)
 cases f with
 | next=>exact wpAny_execs_nil q
 | ret v=>exact q
 | brk=>exact q
 | cont=>exact q
theorem Inv.quiet {pins:List (Addr×Obj)} {σ:St} {H:Hp} {s:Shared} (I:Inv X pins σ H s):interactive X.env=false:=by simp [interactive,I.ok.kind]
def tDrop (te:TE):TS:=fun D σ H=>te σ H fun _ H1=>D.nx σ H1
theorem ps_expr (he:PE X e te) (hs:swapsWith e none pos.line X.env=pure false:=by rfl):PS X (.Expr e pos) (tDrop te):=by
 intro pins s σ H D I h
 exact wpAny_Expr_any (thn (he pins s σ H _ I h) fun v s1 ⟨x,H1,I1,r1,q1⟩=>⟨σ,H1,I1,q1⟩) I.quiet hs
def tRet (te:TE):TS:=fun D σ H=>te σ H D.rt
theorem ps_ret (he:PE X e te):PS X (.Return (some e) pos) (tRet te):=by
 intro pins s σ H D I h
 exact wpAny_Return_some (thn (he pins s σ H _ I h) fun v s1 ⟨x,H1,I1,r1,q1⟩=>⟨x,σ,H1,I1,r1,q1⟩)
def tIfS (c:TT) (t u:TS):TS:=fun D σ H=>c σ H fun b H1=>if b=true then t D σ H1 else u D σ H1
theorem ps_if {c:Expr} {a b:List Stmt} {tc:TT} (hc:PT X c tc) (ha:PSs X a t) (hb:PSs X b u):PS X (.If c a b pos) (tIfS tc t u):=by
 intro pins s σ H D I h
 refine wpAny_If (thn (hc pins s σ H _ I h) fun d s1 zz0=>?_)
 obtain ⟨H1,I1,q1⟩:=zz0
 cases d with
 | true=>exact ha pins s1 σ H1 D I1 q1
 | false=>exact hb pins s1 σ H1 D I1 q1
end
abbrev TG:=V→St→Hp→(St→Hp→Prop)→Prop
abbrev TGs:=List V→St→Hp→(St→Hp→Prop)→Prop
def PG (X:Cx) (target:Expr) (t:TG):Prop:=
 ∀(pins:List (Addr×Obj)) (s:Shared) (σ:St) (H:Hp) (v:V) (u:Value) (Q:St→Hp→Prop),Inv X pins σ H s→RelV v u→t v σ H Q→
  wpAny (model X.prog X.w) X.A (assign target X.env u) (fun _ s'=>∃σ' H',Inv X pins σ' H' s'∧Q σ' H') X.xe s
def PGs (X:Cx) (ts:List Expr) (t:TGs):Prop:=
 ∀(pins:List (Addr×Obj)) (s:Shared) (σ:St) (H:Hp) (vs:List V) (us:List Value) (Q:St→Hp→Prop),Inv X pins σ H s→Vals vs us→t vs σ H Q→
  wpAny (model X.prog X.w) X.A (assignInOrder ((assignEach ts X.env).map (·.2)) us) (fun _ s'=>∃σ' H',Inv X pins σ' H' s'∧Q σ' H') X.xe s
section
variable {X:Cx} {pos:Pos}
def gName (i:Nat):TG:=fun v σ H Q=>Q (σ.set i (some v)) H
theorem pg_name {i:Nat} {x:Str} (hN:X.N.Nodup) (hi:X.N[i]? = some x) (hx:Loc X.env.scope x) (hf:X.fn x=true∨X.env.scope.names.lookup x=some .local:=by first | exact .inl rfl | exact .inr rfl | assumption):PG X (.Name x pos) (gName i):=by
 intro pins s σ H v u Q I r h
 exact wpAny_assign_Name (store_ok I hN hi hx r (fun s' I'=>⟨_,H,I',h⟩) hf)
def gNil:TGs:=fun vs σ H Q=>vs=[]∧Q σ H
def gCons (t:TG) (u:TGs):TGs:=fun vs σ H Q=>∃v r,vs=v :: r∧t v σ H fun σ' H'=>u r σ' H' Q
theorem pgs_nil:PGs X [] gNil:=by
 intro pins s σ H vs us Q I r h
 obtain ⟨e,h⟩:=h
 subst e
 cases r
 exact assignInOrder_nil ⟨σ,H,I,h⟩
theorem pgs_cons {e:Expr} {es:List Expr} {t:TG} {u:TGs} (h1:PG X e t) (h2:PGs X es u)
  (hs:(assignEach (e :: es) X.env).map (·.2)=assign e X.env :: (assignEach es X.env).map (·.2):=by rfl):PGs X (e :: es) (gCons t u):=by
 intro pins s σ H vs us Q I r h
 obtain ⟨v,vr,e1,h⟩:=h
 subst e1
 cases r with
 | cons r rr=>
  rw [hs]
  refine assignInOrder_cons (thn (h1 pins s σ H _ _ _ I r h) fun _ s1 zz0=>?_)
  obtain ⟨σ1,H1,I1,q1⟩:=zz0
  exact h2 pins s1 σ1 H1 _ _ Q I1 rr q1
def gTup (K:PySem.W.Frag) (n:Nat) (t:TGs):TG:=fun v σ H Q=>∃a xs,v = .ref a∧SqT K H a xs∧xs.length=n∧t xs σ H Q
theorem pg_tup {es:List Expr} {k:Nat} {t:TGs} {n:Nat} (hc:X.calm=true) (h:PGs X es t)
  (hn:(assignEach es X.env).length=n:=by rfl) (hst:(assignEach es X.env).findIdx? (·.1)=none:=by rfl):PG X (.Tuple es k pos) (gTup X.K n t):=by
 intro pins s σ H v u Q I r hw
 obtain ⟨a,xs,e1,hq,hl,hw⟩:=hw
 subst e1
 cases r
 obtain ⟨its,rv,ht,hz⟩:=I.tuple hq
 refine assign_Tuple_tuple (I.ok.hd hc) ht (by simp [hn,←hl,rv.length]) hst fun h' hx=>?_
 have I1:Inv X pins σ H { s with heap:=h' }:=I.kept (t':=s.toks) fun b o e=>hx b o (Nat.ne_of_lt (Heap.lt_size e)) e
 exact h pins _ σ H xs _ Q I1 (by simpa using rv) hw
def tAsg (te:TE) (g:TG):TS:=fun D σ H=>te σ H fun x H1=>g x σ H1 D.nx
theorem ps_asg {tg e:Expr} {te:TE} {g:TG} (he:PE X e te) (hg:PG X tg g) (hs:swapsWithSole [tg] e pos.line X.env=pure false:=by rfl) (hw:swappedStores [tg] e X.env=pure none:=by rfl)
  (h1:(assignEach [tg] X.env).map (·.2)=[assign tg X.env]:=by rfl):PS X (.Assign [tg] e pos) (tAsg te g):=by
 intro pins s σ H D I h
 refine wpAny_Assign_stores (thn (he pins s σ H _ I h) fun v s1 ⟨x,H1,I1,r1,q1⟩=>?_) hs hw
 rw [h1]
 exact thn (hg pins s1 σ H1 x v _ I1 r1 q1) fun _ s2 q=>q
theorem ps_set {i:Nat} {x:Str} {e:Expr} {te:TE} {pos':Pos} (hN:X.N.Nodup) (hi:X.N[i]? = some x) (hx:Loc X.env.scope x) (he:PE X e te) (hs:swapsWith e (some (.Name x pos')) pos.line X.env=pure false:=by rfl) (hf:X.fn x=true∨X.env.scope.names.lookup x=some .local:=by first | exact .inl rfl | exact .inr rfl | assumption) :
  PS X (.Assign [.Name x pos'] e pos) (tAsg te (gName i)):=by
 intro pins s σ H D I h
 refine wpAny_Assign_Name (thn (he pins s σ H _ I h) fun v s1 ⟨y,H1,I1,r1,q1⟩=>?_) hs
 exact store_ok I1 hN hi hx r1 (fun s2 I2=>⟨_,H1,I2,q1⟩) hf
end
structure It where
 go:Nat→Hp→Prop
 yld:Nat→Hp→V→Hp→Prop
 stop:Nat→Hp→Prop
def FpOk (X:Cx) (pins:List (Addr×Obj)) (H:Hp) (b:Addr):Prop:=
 H b=none∧b≠X.env.locals∧b∉X.fs∧(b∈X.ex∨X.s₀.heap.objs.size≤b)∧(∀x c,X.env.cells.lookup x=some c→c≠b)∧∀p∈X.pn ++ pins,p.1≠b
theorem Inv.fpOk {X:Cx} {pins:List (Addr×Obj)} {σ:St} {H H':Hp} {s:Shared} {b:Addr} (I:Inv X pins σ H s) (hb:s.heap.objs.size≤b) (hn:H' b=none):FpOk X pins H' b:=by
 refine ⟨hn,Nat.ne_of_gt (Nat.lt_of_lt_of_le I.lt hb),I.nofs hb,.inr (Nat.le_trans I.sz hb),fun x c e z=>?_,fun p hp z=>?_⟩
 ·obtain ⟨v,q⟩:=I.cell x c e
  exact absurd (Nat.lt_of_lt_of_le q.lt (by rw [z];exact hb)) (Nat.lt_irrefl _)
 ·exact absurd (Nat.lt_of_lt_of_le (Heap.lt_size (I.pin p hp).1) (by rw [z];exact hb)) (Nat.lt_irrefl _)
structure Turn (P:Program) (w:World) (K:PySem.W.Frag) (tg:Expr) (J:It) (fp:List Addr) (it:Addr) (tn:Nat→Heap→Prop):Prop where
 mem:it∈fp
 obj:∀i h,tn i h→∀b∈fp,∃o,h.get? b=some o∧∀v,o.data≠.cell v
 keep:∀i h h',tn i h→(∀b∈fp,∀o,h.get? b=some o→h'.get? b=some o)→tn i h'
 item:∀(X:Cx),X.prog=P→X.w=w→X.K=K→X.calm=true→∀(i:Nat) (pins:List (Addr×Obj)) (s:Shared) (σ:St) (H:Hp) (E:Value→Shared→Prop),Inv X pins σ H s→(∀b∈fp,FpOk X pins H b)→tn i s.heap→J.go i H→
  wpAny (model P w) X.A (pyNext (.ref it)) (fun r s1=>∃u,r=some u∧
   wpAny (model P w) X.A (letOwnedTupleGo tg (.ref it) u) (fun _ s2=>∃x H',Inv X pins σ H' s2∧RelV x u∧J.yld i H x H'∧tn (i + 1) s2.heap∧∀b∈fp,H' b=none) E s1) E s
 done:∀(X:Cx),X.prog=P→X.w=w→X.K=K→X.calm=true→∀(i:Nat) (pins:List (Addr×Obj)) (s:Shared) (σ:St) (H:Hp) (E:Value→Shared→Prop),Inv X pins σ H s→(∀b∈fp,FpOk X pins H b)→tn i s.heap→J.stop i H→
  wpAny (model P w) X.A (pyNext (.ref it)) (fun r s1=>r=none∧Inv X pins σ H s1) E s
 self:∀(A:Around) (i:Nat) (s:Shared) (Q:Value→Shared→Prop) (E:Value→Shared→Prop),tn i s.heap→Q (.ref it) s→wpAny (model P w) A (pyIter (.ref it)) Q E s
abbrev TI:=St→Hp→(It→Hp→Prop)→Prop
def PIE (X:Cx) (pins:List (Addr×Obj)) (σ:St) (tg:Expr) (R:It→Hp→Prop) (itv:Value) (s2:Shared):Prop:=
 ∃(it:Addr) (fp:List Addr) (tn:Nat→Heap→Prop) (J:It) (H':Hp),itv = .ref it∧Inv X pins σ H' s2∧Turn X.prog X.w X.K tg J fp it tn∧tn 0 s2.heap∧(∀b∈fp,FpOk X pins H' b)∧R J H'
def PI (X:Cx) (tg iter:Expr) (wi:TI):Prop:=
 ∀(pins:List (Addr×Obj)) (s:Shared) (σ:St) (H:Hp) (R:It→Hp→Prop),Inv X pins σ H s→wi σ H R→
  wpAny (model X.prog X.w) X.A (eval iter X.env) (fun v s1=>wpAny (model X.prog X.w) X.A (pyIter v) (PIE X pins σ tg R) X.xe s1) X.xe s
theorem go_of {M:Model} {A:Around} {E:Value→Shared→Prop} {s:Shared} {tg:Expr} {it:Addr} {u:Value} {o:Obj} {n:String} {vs:Array Value} {Q:Unit→Shared→Prop} (ho:s.heap.get? it=some o) (hc:o.cls = .type n) (hd:o.data = .fields vs)
    (hn:["enumerate","zip","dict_itemiterator","dict_reverseitemiterator","odict_iterator","itertools.zip_longest","itertools.pairwise"].contains n=false) (hQ:Q () s):wpAny M A (letOwnedTupleGo tg (.ref it) u) Q E s:=by
  unfold letOwnedTupleGo
  cases tg <;> first
    | exact wpAny_pure hQ
    | (cases u <;> first
        | exact wpAny_pure hQ
        | (refine wpAny_bind (wpAny_load ho ?_)
           rw [hc,hd]
           show wpAny M A (if (["enumerate","zip","dict_itemiterator","dict_reverseitemiterator","odict_iterator","itertools.zip_longest","itertools.pairwise"].contains n && vs[0]? == some (rawInt _))=true then _ else _) Q E s
           rw [if_neg (by intro h;rw [hn,Bool.false_and] at h;cases h)]
           exact wpAny_pure hQ))
def Itl (K:PySem.W.Frag) (a:Addr):It:=
 ⟨fun i H=>∃xs x,SqL K H a xs∧xs[i]? = some x,fun i H x H'=>H'=H∧∀xs,SqL K H a xs→xs[i]? = some x,fun i H=>∃xs,SqL K H a xs∧xs.length≤i⟩
def Itt (K:PySem.W.Frag) (a:Addr):It:=
 ⟨fun i H=>∃xs x,SqT K H a xs∧xs[i]? = some x,fun i H x H'=>H'=H∧∀xs,SqT K H a xs→xs[i]? = some x,fun i H=>∃xs,SqT K H a xs∧xs.length≤i⟩
def Itr (lo:Int) (n:Nat):It:=⟨fun i _=>i < n,fun i H x H'=>H'=H∧x = .int (lo + i),fun i _=>n≤i⟩
theorem turn_list {P:Program} {w:World} {K:PySem.W.Frag} {tg:Expr} (a it:Addr):Turn P w K tg (Itl K a) [it] it (fun i h=>h.IsListIter it a i) where
 mem:=by simp
 obj:=fun i h st b hb=>by
  have e:b=it:=by simpa using hb
  subst e
  obtain ⟨o,e,c,d⟩:=st
  exact ⟨o,e,fun v z=>by rw [d] at z;cases z⟩
 keep:=fun i h h' st k=>st.at fun o e=>k it (by simp) o e
 item:=by
  intro X hP hw hK hc i pins s σ H E I hf st hg
  subst hP hw hK
  obtain ⟨xs,x,hq,hx⟩:=hg
  obtain ⟨its,rv,p,hz⟩:=I.list hq
  obtain ⟨u,hu,ru⟩:=rv.get hx
  obtain ⟨f0,f1,f2,f3,f4,f5⟩:=hf it (by simp)
  refine wpAny_pyNext_list_item st p.isList (x:=u) (by simpa using hu) fun h' st' sb=>?_
  have I1:Inv X pins σ H { s with heap:=h' }:=I.turned (t':=s.toks) (fun b o hb e=>(sb.2 b hb).trans e) f0 f1 f3 f4 f5
  obtain ⟨o,e,c,d⟩:=id st'
  exact ⟨u,rfl,go_of (s:={ s with heap:=h' }) e c d (by decide) ⟨x,H,I1,ru,⟨rfl,fun ys hy=>by rw [I.list_inj hy hq];exact hx⟩,st',fun b hb=>(hf b hb).1⟩⟩
 done:=by
  intro X hP hw hK hc i pins s σ H E I hf st hg
  subst hP hw hK
  obtain ⟨xs,hq,hx⟩:=hg
  obtain ⟨its,rv,p,hz⟩:=I.list hq
  obtain ⟨f0,f1,f2,f3,f4,f5⟩:=hf it (by simp)
  have hl:=rv.length
  exact wpAny_pyNext_list_end (I.ok.hd hc) st p.isList (by simp;omega) fun h' eb=>⟨rfl,I.turned (t':=s.toks) (fun b o hb e=>eb b o hb e) f0 f1 f3 f4 f5⟩
 self:=fun _ _ _ _ _ st h=>wpAny_pyIter_listiter st h
theorem turn_tuple {P:Program} {w:World} {K:PySem.W.Frag} {tg:Expr} (a it:Addr):Turn P w K tg (Itt K a) [it] it (fun i h=>h.IsTupleIter it a i) where
 mem:=by simp
 obj:=fun i h st b hb=>by
  have e:b=it:=by simpa using hb
  subst e
  obtain ⟨o,e,c,d⟩:=st
  exact ⟨o,e,fun v z=>by rw [d] at z;cases z⟩
 keep:=fun i h h' st k=>st.at fun o e=>k it (by simp) o e
 item:=by
  intro X hP hw hK hc i pins s σ H E I hf st hg
  subst hP hw hK
  obtain ⟨xs,x,hq,hx⟩:=hg
  obtain ⟨its,rv,p,hz⟩:=I.tuple hq
  obtain ⟨u,hu,ru⟩:=rv.get hx
  obtain ⟨f0,f1,f2,f3,f4,f5⟩:=hf it (by simp)
  refine wpAny_pyNext_tuple_item st (show s.heap.IsTuple a its.toArray from p) (x:=u) (by simpa using hu) fun h' st' sb=>?_
  have I1:Inv X pins σ H { s with heap:=h' }:=I.turned (t':=s.toks) (fun b o hb e=>(sb.2 b hb).trans e) f0 f1 f3 f4 f5
  obtain ⟨o,e,c,d⟩:=id st'
  exact ⟨u,rfl,go_of (s:={ s with heap:=h' }) e c d (by decide) ⟨x,H,I1,ru,⟨rfl,fun ys hy=>by rw [I.tuple_inj hy hq];exact hx⟩,st',fun b hb=>(hf b hb).1⟩⟩
 done:=by
  intro X hP hw hK hc i pins s σ H E I hf st hg
  subst hP hw hK
  obtain ⟨xs,hq,hx⟩:=hg
  obtain ⟨its,rv,p,hz⟩:=I.tuple hq
  obtain ⟨f0,f1,f2,f3,f4,f5⟩:=hf it (by simp)
  have hl:=rv.length
  exact wpAny_pyNext_tuple_end (I.ok.hd hc) st (show s.heap.IsTuple a its.toArray from p) (by simp;omega) fun h' eb=>⟨rfl,I.turned (t':=s.toks) (fun b o hb e=>eb b o hb e) f0 f1 f3 f4 f5⟩
 self:=fun _ _ _ _ _ st h=>wpAny_pyIter_tupleiter st h
theorem turn_range {P:Program} {w:World} {K:PySem.W.Frag} {tg:Expr} (it:Addr) (lo:Int) (n:Nat):Turn P w K tg (Itr lo n) [it] it (fun i h=>IsRangeIter h it (lo + (i:Nat) * 1) ((n:Int) - (i:Nat)) 1) where
 mem:=by simp
 obj:=fun i h st b hb=>by
  have e:b=it:=by simpa using hb
  subst e
  exact ⟨_,st,fun v z=>by
   have z':Data.fields _=Data.cell v:=z
   cases z'⟩
 keep:=fun i h h' st k=>k it (by simp) _ st
 item:=by
  intro X hP hw hK hc i pins s σ H E I hf st hg
  subst hP hw hK
  obtain ⟨f0,f1,f2,f3,f4,f5⟩:=hf it (by simp)
  have W:=Walks.range (prog:=X.prog) (w:=X.w) (I.ok.hd hc) it lo 1 n
  refine W.item i s _ _ hg st fun v h' tk hv st' kk=>?_
  obtain ⟨t,rfl⟩:=hv
  have I1:Inv X pins σ H { s with heap:=h',toks:=tk }:=I.turned (fun b o hb e=>kk b o (by simpa using hb) e) f0 f1 f3 f4 f5
  refine ⟨_,rfl,go_of (s:={ s with heap:=h',toks:=tk }) (n:="range_iterator") st' rfl rfl (by decide) ⟨.int (lo + i),H,I1,⟨t,?_⟩,⟨rfl,rfl⟩,st',fun b hb=>(hf b hb).1⟩⟩
  rw [Int.mul_one]
 done:=by
  intro X hP hw hK hc i pins s σ H E I hf st hg
  subst hP hw hK
  obtain ⟨f0,f1,f2,f3,f4,f5⟩:=hf it (by simp)
  exact wpAny_pyNext_range_end (I.ok.hd hc) st (by have:n≤i:=hg;omega) fun h' eb=>⟨rfl,I.turned (t':=s.toks) (fun b o hb e=>eb b o hb e) f0 f1 f3 f4 f5⟩
 self:=fun _ _ _ _ _ st h=>wpAny_pyIter_rangeiter st h
end L2
namespace L2
open PySem PySem.Spec PyProof.Rows
section
variable {X:Cx} {tg:Expr}
def iList (K:PySem.W.Frag) (tl:TE):TI:=fun σ H R=>tl σ H fun x H1=>∃a,x = .ref a∧(∃xs,SqL K H1 a xs)∧R (Itl K a) H1
def iTup (K:PySem.W.Frag) (tl:TE):TI:=fun σ H R=>tl σ H fun x H1=>∃a,x = .ref a∧(∃xs,SqT K H1 a xs)∧R (Itt K a) H1
theorem pi_list {l:Expr} {tl:TE} (hl:PE X l tl):PI X tg l (iList X.K tl):=by
 intro pins s σ H R I h
 refine thn (hl pins s σ H _ I h) fun v s1 zz0=>?_
 obtain ⟨x,H1,I1,r1,q1⟩:=zz0
 obtain ⟨a,e,⟨xs,hq⟩,q⟩:=q1
 subst e
 cases r1
 obtain ⟨its,rv,p,hz⟩:=I1.list hq
 refine wpAny_pyIter_list p.isList ?_
 refine ⟨s1.heap.objs.size,[s1.heap.objs.size],_,_,H1,rfl,I1.kept (t':=s1.toks) fun b o e=>Heap.get?_push_of_some _ e,turn_list a _,⟨_,Heap.get?_push_size _ rfl,rfl,rfl⟩,fun b hb=>?_,q⟩
 have e:b=s1.heap.objs.size:=by simpa using hb
 subst e
 exact I1.fpOk (Nat.le_refl _) (I1.hok.fresh (Nat.le_refl _))
theorem pi_tup {l:Expr} {tl:TE} (hl:PE X l tl):PI X tg l (iTup X.K tl):=by
 intro pins s σ H R I h
 refine thn (hl pins s σ H _ I h) fun v s1 zz0=>?_
 obtain ⟨x,H1,I1,r1,q1⟩:=zz0
 obtain ⟨a,e,⟨xs,hq⟩,q⟩:=q1
 subst e
 cases r1
 obtain ⟨its,rv,p,hz⟩:=I1.tuple hq
 refine wpAny_pyIter_tuple (show s1.heap.IsTuple a its.toArray from p) ?_
 refine ⟨s1.heap.objs.size,[s1.heap.objs.size],_,_,H1,rfl,I1.kept (t':=s1.toks) fun b o e=>Heap.get?_push_of_some _ e,turn_tuple a _,⟨_,Heap.get?_push_size _ rfl,rfl,rfl⟩,fun b hb=>?_,q⟩
 have e:b=s1.heap.objs.size:=by simpa using hb
 subst e
 exact I1.fpOk (Nat.le_refl _) (I1.hok.fresh (Nat.le_refl _))
theorem range_it {pins:List (Addr×Obj)} {σ:St} {H:Hp} {s:Shared} {R:It→Hp→Prop} {E:Value→Shared→Prop} {lo hi:Int} {t u v:Tok} {tk:Nat} (I:Inv X pins σ H s) (h1:-(2 ^ 62)≤lo) (h2:lo < 2 ^ 62) (h3:-(2 ^ 62)≤hi) (h4:hi < 2 ^ 62)
  (q:R (Itr lo (hi - lo).toNat) H):wpAny (model X.prog X.w) X.A (pyIter (.ref s.heap.objs.size)) (PIE X pins σ tg R) E { s with heap:=s.heap.push { cls:=.type "range",data:=.fields #[.int lo t,.int hi u,.int 1 v] },toks:=tk }:=by
 refine wpAny_pyIter_range (IsRange.new ..) (small_one h1 h2 h3 h4) ?_
 have I1:Inv X pins σ H { s with heap:=s.heap.push { cls:=.type "range",data:=.fields #[.int lo t,.int hi u,.int 1 v] },toks:=tk }:=I.kept fun b o e=>Heap.get?_push_of_some _ e
 refine ⟨(s.heap.push { cls:=.type "range",data:=.fields #[.int lo t,.int hi u,.int 1 v] }).objs.size,[(s.heap.push { cls:=.type "range",data:=.fields #[.int lo t,.int hi u,.int 1 v] }).objs.size],_,_,H,rfl,
  I1.kept (t':=tk) fun b o e=>Heap.get?_push_of_some _ e,turn_range _ lo (hi - lo).toNat,?_,fun b hb=>?_,q⟩
 ·have e1:lo + ((0:Nat):Int) * 1=lo:=by simp
  have e2:(((hi - lo).toNat:Nat):Int) - ((0:Nat):Int)=Builtin.Range.rangeSize lo hi 1:=by rw [rangeSize_one];split <;> omega
  show IsRangeIter _ _ (lo + ((0:Nat):Int) * 1) ((((hi - lo).toNat:Nat):Int) - ((0:Nat):Int)) 1
  rw [e1,e2]
  exact Heap.get?_push_size _ rfl
 ·have e:b=(s.heap.push { cls:=.type "range",data:=.fields #[.int lo t,.int hi u,.int 1 v] }).objs.size:=by simpa using hb
  subst e
  exact I1.fpOk (Nat.le_refl _) (I1.hok.fresh (Nat.le_refl _))
def iRng1 (ta:TA):TI:=fun σ H R=>ta σ H fun vs H1=>∃j:Int,vs=[.int j]∧-(2 ^ 62)≤j∧j < 2 ^ 62∧R (Itr 0 j.toNat) H1
def iRng2 (ta:TA):TI:=fun σ H R=>ta σ H fun vs H1=>∃i j:Int,vs=[.int i,.int j]∧(-(2 ^ 62)≤i∧i < 2 ^ 62∧-(2 ^ 62)≤j∧j < 2 ^ 62)∧R (Itr i (j - i).toNat) H1
theorem pi_range1 {a:Expr} {ta:TA} {p pos:Pos} (hg:Gl X "range") (hm:X.mg "range"=none) (ha:PA X [a] ta) (hs:starEach [a] X.env=[(false,eval a X.env)]:=by rfl):PI X tg (.Call (.Name "range" p) [a] [] pos) (iRng1 ta):=by
 intro pins s σ H R I h
 refine Call_ (ld_blt I hg hm boot_range (PyProof.Rows.callWith_type1 (thn (ha pos pins s σ H _ I h) fun us s1 ⟨vs,H1,I1,r1,q1⟩=>?_) hs rfl))
 obtain ⟨j,e,q1,q2,q⟩:=q1
 subst e
 cases r1 with
 | cons r rr=>
  cases rr
  obtain ⟨t,rfl⟩:=r
  exact call_range_1 (range_it I1 (by omega) (by omega) q1 q2 (by simpa using q))
theorem pi_range2 {a b:Expr} {ta:TA} {p pos:Pos} (hg:Gl X "range") (hm:X.mg "range"=none) (ha:PA X [a,b] ta) (hs:starEach [a,b] X.env=[(false,eval a X.env),(false,eval b X.env)]:=by rfl) (hs2:starEach [b] X.env=[(false,eval b X.env)]:=by rfl) :
  PI X tg (.Call (.Name "range" p) [a,b] [] pos) (iRng2 ta):=by
 intro pins s σ H R I h
 refine Call_ (ld_blt I hg hm boot_range (PyProof.Rows.callWith_type1 (thn (ha pos pins s σ H _ I h) fun us s1 ⟨vs,H1,I1,r1,q1⟩=>?_) (by rw [hs,hs2]) (by rw [hs2];rfl)))
 obtain ⟨i,j,e,⟨q1,q2,q3,q4⟩,q⟩:=q1
 subst e
 cases r1 with
 | cons r rr=>
  cases rr with
  | cons r' rr=>
   cases rr
   obtain ⟨t,rfl⟩:=r
   obtain ⟨t',rfl⟩:=r'
   exact call_range_2 (range_it I1 q1 q2 q3 q4 q)
def tFor (wi:TI) (g:TG) (tb:TS):TS:=fun D σ H=>wi σ H fun J H1=>∃W:Nat→Nat→St→Hp→Prop,(∃m,W 0 m σ H1)∧∀i m σ H,W i m σ H→
 (J.stop i H∧D.nx σ H)∨(J.go i H∧∃N:St→Hp→Prop,(∀σ' H',N σ' H'→∃m',m' < m∧W (i + 1) m' σ' H')∧∀x H',J.yld i H x H'→g x σ H' fun σ2 H2=>tb { D with nx:=N,ct:=N,bk:=D.nx } σ2 H2)
def pinsAt (fp:List Addr) (h:Heap):List (Addr×Obj):=fp.filterMap fun b=>(h.get? b).map fun o=>(b,o)
theorem mem_pinsAt {fp:List Addr} {h:Heap} {b:Addr} {o:Obj} (hb:b∈fp) (e:h.get? b=some o):(b,o)∈pinsAt fp h:=List.mem_filterMap.mpr ⟨b,hb,by rw [e];rfl⟩
theorem of_pinsAt {fp:List Addr} {h:Heap} {p:Addr×Obj} (hp:p∈pinsAt fp h):p.1∈fp∧h.get? p.1=some p.2:=by
 obtain ⟨b,hb,e⟩:=List.mem_filterMap.mp hp
 cases q:h.get? b with
 | none=>rw [q] at e;cases e
 | some o=>
  rw [q] at e
  have e':(b,o)=p:=Option.some.inj e
  subst e'
  exact ⟨hb,q⟩
theorem Inv.pinned {pins:List (Addr×Obj)} {σ:St} {H:Hp} {s:Shared} {fp:List Addr} (I:Inv X pins σ H s) (hf:∀b∈fp,FpOk X pins H b) (ho:∀b∈fp,∃o,s.heap.get? b=some o∧∀v,o.data≠.cell v):Inv X (pins ++ pinsAt fp s.heap) σ H s:=
 I.pins_of fun p hp=>(List.mem_append.mp hp).elim (fun z=>I.pin p (List.mem_append_right _ z)) fun z=>by
  obtain ⟨hb,e⟩:=of_pinsAt z
  obtain ⟨f0,f1,f2,_⟩:=hf p.1 hb
  obtain ⟨o,e',d⟩:=ho p.1 hb
  rw [e] at e';cases e'
  exact ⟨e,f0,f1,f2,d⟩
theorem Inv.unpinned {pins pl:List (Addr×Obj)} {σ:St} {H:Hp} {s:Shared} (I:Inv X (pins ++ pl) σ H s):Inv X pins σ H s:=I.pins_of fun p hp=>I.pin p (List.mem_append_right _ (List.mem_append_left _ hp))
theorem ps_for {iter:Expr} {body:List Stmt} {wi:TI} {g:TG} {tb:TS} {pos:Pos} (hp:PassesOwn (model X.prog X.w) X.A X.env X.xe) (hc:X.calm=true) (hi:PI X tg iter wi) (hg:PG X tg g) (hb:PSs X body tb)
  (hs:∀x,foldedSetIterable iter X.env x=pure x:=by intro _;rfl):PS X (.For tg iter body [] pos) (tFor wi g tb):=by
 intro pins s σ H D I h
 refine wpAny_For (thn (hi pins s σ H _ I h) fun v s1 h1=>thn h1 fun itv s2 h2=>?_) hs
 obtain ⟨it,fp,tn,J,H2,e,I2,T,st2,f2,W,⟨m0,w0⟩,turn⟩:=h2
 subst e
 have stat:∀{H':Hp},(∀b∈fp,H' b=none)→∀b∈fp,FpOk X pins H' b:=fun hn b hb=>⟨hn b hb,(f2 b hb).2⟩
 refine codeAny_forLoop_any (fun n s'=>∃i σ' H',Inv X pins σ' H' s'∧tn i s'.heap∧(∀b∈fp,H' b=none)∧W i n σ' H') ?_ m0 ⟨0,σ,H2,I2,st2,fun b hb=>(f2 b hb).1,w0⟩
 rintro n s3 ⟨i,σ3,H3,I3,st3,fr3,w3⟩
 rcases turn i n σ3 H3 w3 with ⟨stop,qn⟩ | ⟨go,N,hN,step⟩
 ·refine wpAny_passesOwn hp (thn (T.done X rfl rfl rfl hc i pins s3 σ3 H3 X.xe I3 (stat fr3) st3 stop) fun r s4 zz0=>?_)
  obtain ⟨hr,I4⟩:=zz0
  subst hr
  exact wpAny_execs_nil ⟨σ3,H3,I4,qn⟩
 ·refine wpAny_passesOwn hp (thn (T.item X rfl rfl rfl hc i pins s3 σ3 H3 X.xe I3 (stat fr3) st3 go) fun r s4 zz0=>?_)
  obtain ⟨u,hr,h4⟩:=zz0
  subst hr
  refine wpAny_passesOwn hp (thn h4 fun _ s5 zz0=>?_)
  obtain ⟨x,H5,I5,r5,y5,st5,fr5⟩:=zz0
  have I5':=I5.pinned (stat fr5) (T.obj _ _ st5)
  refine wpAny_passesOwn hp (thn (hg _ s5 σ3 H5 x u _ I5' r5 (step x H5 y5)) fun _ s6 zz0=>?_)
  obtain ⟨σ6,H6,I6,q6⟩:=zz0
  refine wpAny_passesOwn hp (thn (hb _ s6 σ6 H6 _ I6 q6) fun f s7 q7=>?_)
  have again:∀{σ7:St} {H7:Hp},Inv X (pins ++ pinsAt fp s5.heap) σ7 H7 s7→N σ7 H7→∃m,m < n∧∃i σ' H',Inv X pins σ' H' s7∧tn i s7.heap∧(∀b∈fp,H' b=none)∧W i m σ' H':=fun {σ7 H7} I7 n7=>by
   obtain ⟨m',hm,w7⟩:=hN σ7 H7 n7
   refine ⟨m',hm,i + 1,σ7,H7,I7.unpinned,T.keep _ _ _ st5 fun b hb o e=>(I7.pin (b,o) (List.mem_append_right _ (List.mem_append_right _ (mem_pinsAt hb e)))).1,fun b hb=>?_,w7⟩
   obtain ⟨o,e,d⟩:=T.obj _ _ st5 b hb
   exact (I7.pin (b,o) (List.mem_append_right _ (List.mem_append_right _ (mem_pinsAt hb e)))).2.1
  cases f with
  | next=>obtain ⟨σ7,H7,I7,n7⟩:=q7;exact again I7 n7
  | cont=>obtain ⟨σ7,H7,I7,n7⟩:=q7;exact again I7 n7
  | brk=>obtain ⟨σ7,H7,I7,q7⟩:=q7;exact ⟨σ7,H7,I7.unpinned,q7⟩
  | ret v=>obtain ⟨x7,σ7,H7,I7,r7,q7⟩:=q7;exact ⟨x7,σ7,H7,I7.unpinned,r7,q7⟩
end
end L2
namespace L2
open PySem PySem.Spec PyProof.Rows
abbrev R2:=V→V→Hp→VK→Prop
def OpR (X:Cx) (f:Value→Value→Sem Value) (r:R2):Prop:=
 ∀(pins:List (Addr×Obj)) (s:Shared) (σ:St) (H:Hp) (x y:V) (v u:Value) (Q:VK),Inv X pins σ H s→RelV x v→RelV y u→r x y H Q→
  wpAny (model X.prog X.w) X.A (f v u) (EP X pins σ Q) X.xe s
def UnR (X:Cx) (f:Value→Sem Value) (r:V→Hp→VK→Prop):Prop:=
 ∀(pins:List (Addr×Obj)) (s:Shared) (σ:St) (H:Hp) (x:V) (v:Value) (Q:VK),Inv X pins σ H s→RelV x v→r x H Q→
  wpAny (model X.prog X.w) X.A (f v) (EP X pins σ Q) X.xe s
def CallR (X:Cx) (f:Value) (r:List V→Hp→VK→Prop):Prop:=
 ∀(pins:List (Addr×Obj)) (s:Shared) (σ:St) (H:Hp) (xs:List V) (us:List Value) (Q:VK),Inv X pins σ H s→Vals xs us→r xs H Q→
  wpAny (model X.prog X.w) X.A (call f us) (EP X pins σ Q) X.xe s
def tOp (r:R2) (ta tb:TE):TE:=fun σ H Q=>ta σ H fun x H1=>tb σ H1 fun y H2=>r x y H2 Q
def tUn (r:V→Hp→VK→Prop) (ta:TE):TE:=fun σ H Q=>ta σ H fun x H1=>r x H1 Q
def rI (C:Int→Int→Prop) (g:Int→Int→V):R2:=fun x y H Q=>∃i j,x = .int i∧y = .int j∧C i j∧Q (g i j) H
def rI0 (g:Int→Int→V):R2:=fun x y H Q=>∃i j,x = .int i∧y = .int j∧Q (g i j) H
def rU (g:Int→V):V→Hp→VK→Prop:=fun x H Q=>∃i,x = .int i∧Q (g i) H
section
variable {X:Cx} {a b c:Expr} {ta tb tc:TE} {pos:Pos}
theorem binT (ha:PE X a ta) (hb:PE X b tb) {pins:List (Addr×Obj)} {s:Shared} {σ:St} {H:Hp} {R:V→V→Hp→Prop} (I:Inv X pins σ H s)
  (h:ta σ H fun x H1=>tb σ H1 fun y H2=>R x y H2) {Q:Value→Shared→Prop} {f:Value→Value→Sem Value}
  (hf:∀v u s2 x y H2,Inv X pins σ H2 s2→RelV x v→RelV y u→R x y H2→wpAny (model X.prog X.w) X.A (f v u) Q X.xe s2) :
  wpAny (model X.prog X.w) X.A (eval a X.env) (fun v s₁=>wpAny (model X.prog X.w) X.A (eval b X.env) (fun u s₂=>wpAny (model X.prog X.w) X.A (f v u) Q X.xe s₂) X.xe s₁) X.xe s:=by
 refine thn (ha pins s σ H _ I h) fun v s1 zz0=>?_
 obtain ⟨x,H1,I1,r1,q1⟩:=zz0
 refine thn (hb pins s1 σ H1 _ I1 q1) fun u s2 zz0=>?_
 obtain ⟨y,H2,I2,r2,q2⟩:=zz0
 exact hf v u s2 x y H2 I2 r1 r2 q2
theorem pe_op {op:Operator} {r:R2} (ho:OpR X (binaryOp op) r) (ha:PE X a ta) (hb:PE X b tb):PE X (.BinOp a op b pos) (tOp r ta tb):=by
 intro pins s σ H Q I h
 exact wpAny_BinOp (binT ha hb I h fun v u s2 x y H2 I2 rx ry q=>ho pins s2 σ H2 x y v u Q I2 rx ry q)
theorem pe_un {op:UnaryOp} {r:V→Hp→VK→Prop} (ho:UnR X (unaryOp op) r) (ha:PE X a ta):PE X (.UnaryOp op a pos) (tUn r ta):=by
 intro pins s σ H Q I h
 exact UnaryOp_ (thn (ha pins s σ H _ I h) fun v s1 ⟨x,H1,I1,r1,q1⟩=>ho pins s1 σ H1 x v Q I1 r1 q1)
theorem opI {f:Value→Value→Sem Value} {C:Int→Int→Prop} {g:Int→Int→Int}
  (rule:∀(i j:Int) (t u:Tok) (s:Shared) (Q:Value→Shared→Prop) (E:Value→Shared→Prop),C i j→Q (.int (g i j) s.toks) { s with toks:=s.toks + 1 }→wpAny (model X.prog X.w) X.A (f (.int i t) (.int j u)) Q E s) :
  OpR X f (rI C fun i j=>.int (g i j)):=by
 intro pins s σ H x y v u Q I rx ry h
 obtain ⟨i,j,rfl,rfl,hc,q⟩:=h
 obtain ⟨t,rfl⟩:=rx
 obtain ⟨t',rfl⟩:=ry
 exact rule i j t t' s _ _ hc ⟨.int (g i j),H,I.tok _,⟨_,rfl⟩,q⟩
theorem opI0 {f:Value→Value→Sem Value} {g:Int→Int→Int}
  (rule:∀(i j:Int) (t u:Tok) (s:Shared) (Q:Value→Shared→Prop) (E:Value→Shared→Prop),Q (.int (g i j) s.toks) { s with toks:=s.toks + 1 }→wpAny (model X.prog X.w) X.A (f (.int i t) (.int j u)) Q E s) :
  OpR X f (rI0 fun i j=>.int (g i j)):=by
 intro pins s σ H x y v u Q I rx ry h
 obtain ⟨i,j,rfl,rfl,q⟩:=h
 obtain ⟨t,rfl⟩:=rx
 obtain ⟨t',rfl⟩:=ry
 exact rule i j t t' s _ _ ⟨.int (g i j),H,I.tok _,⟨_,rfl⟩,q⟩
theorem opB0 {f:Value→Value→Sem Value} {g:Int→Int→Bool}
  (rule:∀(i j:Int) (t u:Tok) (s:Shared) (Q:Value→Shared→Prop) (E:Value→Shared→Prop),Q (.bool (g i j)) s→wpAny (model X.prog X.w) X.A (f (.int i t) (.int j u)) Q E s) :
  OpR X f (rI0 fun i j=>.bl (g i j)):=by
 intro pins s σ H x y v u Q I rx ry h
 obtain ⟨i,j,rfl,rfl,q⟩:=h
 obtain ⟨t,rfl⟩:=rx
 obtain ⟨t',rfl⟩:=ry
 exact rule i j t t' s _ _ ⟨.bl (g i j),H,I,rfl,q⟩
def CPow (i j:Int):Prop:=0≤j∧j≤1000000∧i.natAbs < 2 ^ 64
def CMul (i j:Int):Prop:=(-(2 ^ 64) < i∧i < 2 ^ 64)∨(-(2 ^ 64) < j∧j < 2 ^ 64)
theorem CMul.ok {i j:Int} (h:CMul i j):IntMulOk i j:=by
 rcases h with ⟨h1,h2⟩ | ⟨h1,h2⟩
 ·exact .of_left (intBits_le_64 h1 h2)
 ·exact .of_right (intBits_le_64 h1 h2)
theorem op_add:OpR X (binaryOp .Add) (rI0 fun i j=>.int (i + j)):=opI0 fun _ _ _ _ _ _ _ q=>add_int q
theorem op_sub:OpR X (binaryOp .Sub) (rI0 fun i j=>.int (i - j)):=opI0 fun _ _ _ _ _ _ _ q=>sub_int q
theorem op_mod:OpR X (binaryOp .Mod) (rI (fun _ j=>0 < j) fun i j=>.int (i % j)):=opI fun i j _ _ _ _ _ hc q=>by
 have h1:(0:Int) < j:=hc
 exact mod_int' (by omega) (by rw [Int.fmod_eq_emod_of_nonneg i (by omega)];exact q)
theorem op_pow:OpR X (binaryOp .Pow) (rI CPow fun i j=>.int (i ^ j.toNat)):=opI fun _ _ _ _ _ _ _ hc q=>pow_int_small hc.1 hc.2.1 hc.2.2 q
theorem unI {f:Value→Sem Value} {g:Int→Int}
  (rule:∀(i:Int) (t:Tok) (s:Shared) (Q:Value→Shared→Prop) (E:Value→Shared→Prop),Q (.int (g i) s.toks) { s with toks:=s.toks + 1 }→wpAny (model X.prog X.w) X.A (f (.int i t)) Q E s) :
  UnR X f (rU fun i=>.int (g i)):=by
 intro pins s σ H x v Q I rx h
 obtain ⟨i,rfl,q⟩:=h
 obtain ⟨t,rfl⟩:=rx
 exact rule i t s _ _ ⟨.int (g i),H,I.tok _,⟨_,rfl⟩,q⟩
theorem un_neg:UnR X (unaryOp .USub) (rU fun i=>.int (-i)):=unI fun _ _ _ _ _ q=>neg_int q
end
section
variable {X:Cx} {a b c:Expr} {ta tb tc:TE} {pos:Pos}
theorem fin_bl {pins:List (Addr×Obj)} {σ:St} {H:Hp} {s:Shared} {Q:VK} {k k':Bool} (I:Inv X pins σ H s) (q:Q (.bl k) H) (e:k=k'):EP X pins σ Q (.bool k') s:=by
 subst e
 exact ⟨.bl k,H,I,rfl,q⟩
theorem op_lt:OpR X (compareOp .Lt) (rI0 fun i j=>.bl (decide (i < j))):=opB0 fun _ _ _ _ _ _ _ q=>lt_int q
theorem op_le:OpR X (compareOp .LtE) (rI0 fun i j=>.bl (decide (i≤j))):=opB0 fun _ _ _ _ _ _ _ q=>le_int q
theorem op_gt:OpR X (compareOp .Gt) (rI0 fun i j=>.bl (decide (j < i))):=opB0 fun _ _ _ _ _ _ _ q=>gt_int q
theorem op_ge:OpR X (compareOp .GtE) (rI0 fun i j=>.bl (decide (j≤i))):=opB0 fun _ _ _ _ _ _ _ q=>ge_int q
theorem op_isN:OpR X (compareOp .Is) (fun x y H Q=>y = .non∧Q (.bl (decide (x = .non))) H):=by
 intro pins s σ H x y v u Q I rx ry h
 obtain ⟨rfl,q⟩:=h
 cases ry
 refine is_none_gen (fin_bl I q ?_)
 cases x <;> first
  | (cases rx;rfl)
  | (obtain ⟨t,rfl⟩:=rx;rfl)
theorem op_notN:OpR X (compareOp .IsNot) (fun x y H Q=>y = .non∧Q (.bl (!decide (x = .non))) H):=by
 intro pins s σ H x y v u Q I rx ry h
 obtain ⟨rfl,q⟩:=h
 cases ry
 refine isnot_none_gen (fin_bl I q ?_)
 cases x <;> first
  | (cases rx;rfl)
  | (obtain ⟨t,rfl⟩:=rx;rfl)
theorem nomark (b:Expr) {op:CmpOp} (h:op≠.In:=by decide) (h2:op≠.NotIn:=by decide):behindInMarks op b=false:=by
 have e1:(op == CmpOp.In)=false:=by cases op <;> first | rfl | exact absurd rfl h
 have e2:(op == CmpOp.NotIn)=false:=by cases op <;> first | rfl | exact absurd rfl h2
 cases b <;> simp [behindInMarks,e1,e2]
theorem pe_cmpR {op:CmpOp} {r:R2} (ho:OpR X (compareOp op) r) (ha:PE X a ta) (hb:PE X b tb) (hm:behindInMarks op b=false):PE X (.Compare a [op] [b] pos) (tOp r ta tb):=by
 intro pins s σ H Q I h
 exact wpAny_Compare1 (binT ha hb I h fun v u s2 x y H2 I2 rx ry q=>ho pins s2 σ H2 x y v u Q I2 rx ry q) hm
def tTest (t:TE):TT:=fun σ H Q=>t σ H fun x H'=>∃k,x = .bl k∧Q k H'
theorem pt_cmpR {op:CmpOp} {r:R2} (ho:OpR X (compareOp op) r) (ha:PE X a ta) (hb:PE X b tb) (hm:behindInMarks op b=false):PT X (.Compare a [op] [b] pos) (tTest (tOp r ta tb)):=by
 intro pins s σ H Q I h
 refine wpAny_isTrue_Compare1 (thn (ha pins s σ H _ I h) fun v s1 ⟨x,H1,I1,r1,q1⟩=>thn (hb pins s1 σ H1 _ I1 q1) fun u s2 ⟨y,H2,I2,r2,q2⟩=>
  thn (ho pins s2 σ H2 x y v u _ I2 r1 r2 q2) fun c s3 ⟨z,H3,I3,r3,k,e,q3⟩=>?_) hm
 subst e
 cases r3
 exact wpAny_truthy_bool ⟨H3,I3,q3⟩
theorem line63:(sizeLine:Nat) < 2 ^ 63:=by rw [sizeLine_eq];decide
theorem op_add_str:OpR X (binaryOp .Add) (fun x y H Q=>∃i j,x = .str i∧y = .str j∧i.length + j.length≤sizeLine∧Q (.str (i ++ j)) H):=by
 intro pins s σ H x y v u Q I rx ry h
 obtain ⟨i,j,rfl,rfl,hz,q⟩:=h
 obtain ⟨t,rfl⟩:=rx
 obtain ⟨t',rfl⟩:=ry
 exact add_str (fun t' tk=>⟨.str (i ++ j),H,I.tok _,⟨_,rfl⟩,q⟩) hz
theorem vals1 {x:V} {us:List Value} (r:Vals [x] us):∃u,us=[u]∧RelV x u:=by
 cases r with
 | cons r1 r2=>cases r2;exact ⟨_,rfl,r1⟩
theorem vals2 {x y:V} {us:List Value} (r:Vals [x,y] us):∃u w',us=[u,w']∧RelV x u∧RelV y w':=by
 cases r with
 | cons r1 r2=>
  cases r2 with
  | cons r3 r4=>cases r4;exact ⟨_,_,rfl,r1,r3⟩
theorem call_max2 (hc:X.calm=true):CallR X (.builtin "max") (fun xs H Q=>∃i j,xs=[.int i,.int j]∧Q (.int (if j > i then j else i)) H):=by
 intro pins s σ H xs us Q I r h
 obtain ⟨i,j,rfl,q⟩:=h
 obtain ⟨u,w',rfl,⟨t,rfl⟩,⟨t',rfl⟩⟩:=vals2 r
 refine max_two_ints (I.ok.hd hc) fun h' tk k=>⟨_,H,I.kept k,?_,q⟩
 by_cases hj:j > i
 ·rw [if_pos hj,if_pos hj];exact ⟨_,rfl⟩
 ·rw [if_neg hj,if_neg hj];exact ⟨_,rfl⟩
theorem call_min2 (hc:X.calm=true):CallR X (.builtin "min") (fun xs H Q=>∃i j,xs=[.int i,.int j]∧Q (.int (if j < i then j else i)) H):=by
 intro pins s σ H xs us Q I r h
 obtain ⟨i,j,rfl,q⟩:=h
 obtain ⟨u,w',rfl,⟨t,rfl⟩,⟨t',rfl⟩⟩:=vals2 r
 refine min_two_ints (I.ok.hd hc) fun h' tk k=>⟨_,H,I.kept k,?_,q⟩
 by_cases hj:j < i
 ·rw [if_pos hj,if_pos hj];exact ⟨_,rfl⟩
 ·rw [if_neg hj,if_neg hj];exact ⟨_,rfl⟩
theorem call_int1:CallR X (.type "int") (fun xs H Q=>(∃i,xs=[.int i]∧Q (.int i) H)∨∃k,xs=[.bl k]∧Q (.int (if k then 1 else 0)) H):=by
 intro pins s σ H xs us Q I r h
 rcases h with ⟨i,rfl,q⟩ | ⟨k,rfl,q⟩
 ·obtain ⟨u,rfl,t,rfl⟩:=vals1 r
  exact call_int_int ⟨.int i,H,I,⟨_,rfl⟩,q⟩
 ·obtain ⟨u,rfl,r1⟩:=vals1 r
  cases r1
  exact call_int_bool ⟨.int (if k then 1 else 0),H,I.tok _,⟨_,rfl⟩,q⟩
end
end L2
namespace L2
open PySem PySem.Spec PyProof.Rows
structure ObjM (h:Heap) (x dx C:Addr) (mA:Str→Option Value):Prop where
 obj:h.get? x=some (PySem.W.instObj C dx)
 ns:h.Ns1 dx mA
 ne:dx≠x
theorem RelO.some_of {v:V} {o:Option Value} (r:RelO (some v) o):∃u,o=some u∧RelV v u:=by
 cases o with
 | none=>exact (show False from r).elim
 | some u=>exact ⟨u,rfl,r⟩
theorem RelO.none_of {o:Option Value} (r:RelO none o):o=none:=by
 cases o with
 | none=>rfl
 | some u=>exact (show False from r).elim
structure Cls (K:PySem.W.Frag) (C:Addr):Prop where
 pg:PySem.W.plainGet K C Str.empty=true
 hd:PySem.W.hasDictIn K C=true
 po:PySem.W.plainOver K C=true
 sa:PySem.W.findIn K (.ref C) "__setattr__"=some (some (.builtin "object.__setattr__"))
structure Con (K:PySem.W.Frag) (C:Addr) (f:Str) (v:V) (u:Value):Prop where
 at_:PySem.W.findIn K (.ref C) f=some (some u)
 rel:RelV v u
 get:PySem.W.specialIn K u "__get__"=some none
 cp:PySem.W.copiedNames.contains f=false
structure Meth (K:PySem.W.Frag) (C:Addr) (m:Str) (f:Addr):Prop where
 at_:PySem.W.findIn K (.ref C) m=some (some (.ref f))
 fn:PySem.W.isFn K (.ref f)=true
 kp:PySem.W.keepIn K (.ref f)=true
def InOp (X:Cx) (op:Operator) (rd:V→V→Hp→VK→Prop):Prop:=
 ∀(pins:List (Addr×Obj)) (s:Shared) (σ:St) (H:Hp) (x y:V) (u v:Value) (Q:VK),Inv X pins σ H s→RelV x u→RelV y v→rd x y H Q→wpAny (model X.prog X.w) X.A (inplaceOp op u v) (EP X pins σ Q) X.xe s
section
variable {X:Cx} {o e value:Expr} {f:Str} {pos pos' tpos:Pos} {ta tv:TE}
def rAdd:V→V→Hp→VK→Prop:=fun x y H Q=>∃i j,x = .int i∧y = .int j∧Q (.int (i + j)) H
theorem in_add:InOp X .Add rAdd:=by
 rintro pins s σ H x y u v Q I rx ry ⟨i,j,rfl,rfl,q⟩
 obtain ⟨t,rfl⟩:=(show ∃t,u=Value.int i t from rx)
 obtain ⟨t',rfl⟩:=(show ∃t',v=Value.int j t' from ry)
 exact PyProof.Rows.iadd_int ⟨.int (i + j),H,I.tok _,⟨_,rfl⟩,q⟩
end
section
variable {X:Cx} {pins:List (Addr×Obj)} {σ:St} {H:Hp} {s:Shared} {A:Around} {E:Value→Shared→Prop} {Q:Value→Shared→Prop} {c:Value} {b:Bool}
inductive TyOf (K:PySem.W.Frag) (H:Hp):V→Value→Prop where
 | non:TyOf K H .non (.type "NoneType")
 | bl (x:Bool):TyOf K H (.bl x) (.type "bool")
 | int (i:Int):TyOf K H (.int i) (.type "int")
 | str (x:Str):TyOf K H (.str x) (.type "str")
 | flt (x:UInt64):TyOf K H (.flt x) (.type "float")
 | lst {a:Addr} {xs:List V} (e:H a=some (.lst xs)):TyOf K H (.ref a) (.type "list")
 | frz {a:Addr} {o:Obj} {xs:List V} (e:H a=some (.frz o (.lst xs))):TyOf K H (.ref a) (.type "list")
 | tup {a:Addr} {xs:List V} (e:H a=some (.tup xs)):TyOf K H (.ref a) (.type "tuple")
 | dK {a:Addr} {kvs:List (Key×V)} (e:H a=some (.dK kvs)):TyOf K H (.ref a) (.type "dict")
 | dT {a:Addr} {kvs:List (List Key×V)} (e:H a=some (.dT kvs)):TyOf K H (.ref a) (.type "dict")
 | ins {a C dx:Addr} {fs:List (Str×V)} (e:H a=some (.ins C dx fs)) (cl:Cls K C) (ha:PySem.W.findIn K (.ref C) "__class__"=some (some (.builtin "object.__class__")))
   (hn:PySem.W.specialIn K (.builtin "object.__class__") "__get__"=some (some (.builtin "getset_descriptor.__get__"))) (htk:PySem.W.takesIn K (.builtin "object.__class__")=some true)
   (hm:PySem.W.mroIn K C (.type "object")=some true):TyOf K H (.ref a) (.ref C)
end
end L2
namespace L2
open PySem PySem.Spec PyProof.Rows
structure Room (k:Nat) (A:Around):Prop where
 hd:A.handled=none
 dp:A.depth + 3 * k + 5 < recursionLimit
 un:A.units + 16 * k + 200 < cLine
theorem Room.mono {j k:Nat} {A:Around} (r:Room k A) (h:j≤k):Room j A:=⟨r.hd,by have:=r.dp;omega,by have:=r.un;omega⟩
theorem Room.deeper {k:Nat} {A:Around} (r:Room (k + 1) A) (env:Env):Room k (A.deeper env):=
 ⟨r.hd,by have:=r.dp;show A.depth + 1 + 3 * k + 5 < _;omega,by have:=r.un;show A.units + 3 + 16 * k + 200 < _;omega⟩
theorem Room.in1 {k:Nat} {A:Around} (r:Room (k + 1) A):Room k A.in1:=
 ⟨r.hd,by have:=r.dp;show A.depth + 3 * k + 5 < _;omega,by have:=r.un;show A.units + 1 + 16 * k + 200 < _;omega⟩
theorem Room.depth {k:Nat} {A:Around} (r:Room k A):A.depth < recursionLimit:=by have:=r.dp;omega
theorem Room.units {k:Nat} {A:Around} (r:Room k A):A.units + 64 < cLine:=by have:=r.un;omega
def tNil:TA:=fun _ H Q=>Q [] H
def tCons (ta:TE) (tr:TA):TA:=fun σ H Q=>ta σ H fun x H1=>tr σ H1 fun xs H2=>Q (x :: xs) H2
section
variable {X:Cx} {e:Expr} {es:List Expr} {te:TE} {t:TA} {pos:Pos}
theorem pa_nil:PA X [] tNil:=fun _ _ _ _ H Q I h=>Calls.spliced_nil ⟨[],H,I,.nil,h⟩
theorem pa_cons (ha:PE X e te) (hr:PA X es t) (hs:starEach (e :: es) X.env=(false,eval e X.env) :: starEach es X.env:=by rfl):PA X (e :: es) (tCons te t):=by
 intro pos pins s σ H Q I h
 rw [hs]
 show wpAny _ _ (spliced ((false,eval e X.env) :: backTo pos (starEach es X.env))) _ _ s
 refine Calls.spliced_cons (thn (ha pins s σ H _ I h) fun u s1 zz0=>?_)
 obtain ⟨x,H1,I1,r1,q1⟩:=zz0
 exact thn (hr pos pins s1 σ H1 _ I1 q1) fun us s2 ⟨xs,H2,I2,r2,q2⟩=>⟨x :: xs,H2,I2,.cons r1 r2,q2⟩
def tTup (t:TA):TE:=fun σ H Q=>t σ H fun xs H1=>xs.length≤sizeLine∧∀p,H1 p=none→Q (.ref p) (upd H1 p (.tup xs))
def tLst (t:TA):TE:=fun σ H Q=>t σ H fun xs H1=>xs.length≤sizeLine∧∀p,H1 p=none→Q (.ref p) (upd H1 p (.lst xs))
theorem pe_tup {x1} (h:PA X es t):PE X (.Tuple es x1 pos) (tTup t):=by
 intro pins s σ H Q I hq
 refine wpAny_Tuple_spliced (thn (h pos pins s σ H _ I hq) fun us s1 ⟨xs,H1,I1,r,z,q⟩=>⟨by rw [←r.length];exact z,?_⟩)
 have hf:H1 s1.heap.objs.size=none:=I1.hok.fresh (Nat.le_refl _)
 refine ⟨.ref s1.heap.objs.size,upd H1 s1.heap.objs.size (.tup xs),I1.laid (t':=s1.toks) (fun b u e=>Heap.get?_push_of_some _ e) (Nat.le_refl _) ?_,rfl,q _ hf⟩
 exact ⟨z,us,r,⟨_,Heap.get?_push_size _ rfl,rfl,_,rfl⟩⟩
theorem pe_lst (h:PA X es t):PE X (.List es pos) (tLst t):=by
 intro pins s σ H Q I hq
 refine wpAny_List_spliced (thn (h pos pins s σ H _ I hq) fun us s1 ⟨xs,H1,I1,r,z,q⟩=>⟨by rw [←r.length];exact z,?_⟩)
 have hf:H1 s1.heap.objs.size=none:=I1.hok.fresh (Nat.le_refl _)
 refine ⟨.ref s1.heap.objs.size,upd H1 s1.heap.objs.size (.lst xs),I1.laid (t':=s1.toks) (fun b u e=>Heap.get?_push_of_some _ e) (Nat.le_refl _) ?_,rfl,q _ hf⟩
 exact ⟨z,us,0,r,Heap.get?_push_size _ rfl⟩
end
abbrev Sp:=List V→Hp→VK→XK→Prop
abbrev CXT:=List Env→Hp→Shared→XK→Value→Shared→Prop
structure Env0 (P:Program) (w:World) (K:PySem.W.Frag) (mg:Str→Option Value) (base:Heap) (A:Around) (outer:List Env) (s:Shared) (H:Hp):Prop where
 frames:A.frames=some outer
 mod:Mod K mg base
 bs:∀b o,base.get? b=some o→s.heap.get? b=some o∧H b=none
 bsz:base.objs.size≤s.heap.objs.size
 funs:s.heap.FunFrames base outer
 frf:∀b∈frs outer,H b=none
 hok:HOk P w H s.heap
 bare:AllBare s.gens
def CE (outer:List Env) (P:Program) (w:World) (H:Hp) (s:Shared) (Q:VK) (u:Value) (s':Shared):Prop:=
 ∃v H',s'.os=s.os∧AllBare s'.gens∧Un (frs outer) [] H H' s.heap s'.heap∧HOk P w H' s'.heap∧RelV v u∧Q v H'
def CR (CX:CXT) (outer:List Env) (P:Program) (w:World) (H:Hp) (s:Shared) (Q:VK) (E:XK) (r:Result) (s':Shared):Prop:=
 match r with
 | .ok (.ret u)=>CE outer P w H s Q u s'
 | .ok _=>False
 | .error e=>CX outer H s E e s'
structure FnOk (P:Program) (w:World) (K:PySem.W.Frag) (mg:Str→Option Value) (base:Heap) (CX:CXT) (k:Nat) (f:Addr) (fd:FuncData) (ps:List Str) (sp:Sp):Prop where
 len:∀vs H Q E,sp vs H Q E→vs.length=ps.length
 run:∀(A:Around) (outer:List Env) (s:Shared) (H:Hp) (args:Args) (us:List Value) (vs:List V) (Q:VK) (E:XK),Room k A→Env0 P w K mg base A outer s H→BindsTo s fd args (ps.zip us)→Vals vs us→sp vs H Q E→
  codeAny (model P w) A (.call (.ref f) args) (CR CX outer P w H s Q E) s
theorem FnOk.mono {P:Program} {w:World} {K:PySem.W.Frag} {mg:Str→Option Value} {base:Heap} {CX:CXT} {j k:Nat} {f:Addr} {fd:FuncData} {ps:List Str} {sp:Sp} (F:FnOk P w K mg base CX j f fd ps sp) (h:j≤k) :
  FnOk P w K mg base CX k f fd ps sp:=⟨F.len,fun A outer s H args us vs Q E hr=>F.run A outer s H args us vs Q E (hr.mono h)⟩
theorem FnOk.imp {P:Program} {w:World} {K:PySem.W.Frag} {mg:Str→Option Value} {base:Heap} {CX:CXT} {k:Nat} {f:Addr} {fd:FuncData} {ps:List Str} {sp sp':Sp} (F:FnOk P w K mg base CX k f fd ps sp)
  (h:∀vs H Q E,sp' vs H Q E→sp vs H Q E):FnOk P w K mg base CX k f fd ps sp':=
 ⟨fun vs H Q E q=>F.len vs H Q E (h _ _ _ _ q),fun A outer s H args us vs Q E hr he hb hv hs=>F.run A outer s H args us vs Q E hr he hb hv (h _ _ _ _ hs)⟩
theorem Env0.in1 {P:Program} {w:World} {K:PySem.W.Frag} {mg:Str→Option Value} {base:Heap} {A:Around} {outer:List Env} {s:Shared} {H:Hp} (e:Env0 P w K mg base A outer s H) :
  Env0 P w K mg base A.in1 outer s H:=⟨e.frames,e.mod,e.bs,e.bsz,e.funs,e.frf,e.hok,e.bare⟩
section
variable {X:Cx} {pins:List (Addr×Obj)} {σ:St} {H:Hp} {s s':Shared}
theorem Inv.env0 (I:Inv X pins σ H s):Env0 X.prog X.w X.K X.mg X.base X.A X.stack s H:=
 ⟨I.ok.frames,I.ok.mod,I.bs,Nat.le_trans I.ok.bsz I.sz,I.stack,I.stkFree,I.hok,I.bare⟩
theorem Inv.after {Q:VK} {u:Value} (I:Inv X pins σ H s) (h:CE X.stack X.prog X.w H s Q u s'):EP X pins σ Q u s':=by
 obtain ⟨v,H',os,bare,un,hok,r,q⟩:=h
 obtain ⟨hh,g,d,t,os'⟩:=s'
 obtain rfl:os'=s.os:=os
 exact ⟨v,H',I.call (h':=hh) (g':=g) (d':=d) (t':=t) (ch:=[]) un hok bare (fun b z=>absurd z (by simp)),r,q⟩
end
def tCall (sp:Sp) (dvs:List V) (E:XK) (t:TA):TE:=fun σ H Q=>t σ H fun vs H1=>sp (vs ++ dvs) H1 Q E
def Binds (K:PySem.W.Frag) (fd:FuncData) (ps:List Str) (ds:List Value):Prop:=
 ∀(s:Shared) (us:List Value),K.In s.heap→(us ++ ds).length=ps.length→BindsTo s fd ⟨us,[]⟩ (ps.zip (us ++ ds))
theorem Binds.all {K:PySem.W.Frag} {fd:FuncData} {ps:List Str} (h:∀us:List Value,us.length=ps.length→bindArgs fd ⟨us,[]⟩=pure (ps.zip us)):Binds K fd ps []:=fun s us _ hl=>by
 rw [List.append_nil] at hl ⊢
 exact .of_eq (h us hl)
def Passes (CX:CXT) (X:Cx) (E:XK):Prop:=∀(pins:List (Addr×Obj)) (σ:St) (H:Hp) (s:Shared) (e:Value) (s':Shared),Inv X pins σ H s→CX X.stack H s E e s'→X.xe e s'
section
variable {X:Cx} {CX:CXT} {k:Nat} {f C:Addr} {fd:FuncData} {ps:List Str} {sp:Sp} {dvs:List V} {ds:List Value} {E:XK} {x m:Str} {p pos apos:Pos} {e o:Expr} {es:List Expr} {ta:TE} {t:TA}
theorem run_fn {pins:List (Addr×Obj)} {σ:St} {H:Hp} {s:Shared} {Q:VK} {us:List Value} {vs:List V} (F:FnOk X.prog X.w X.K X.mg X.base CX k f fd ps sp) (hr:Room k X.A) (hb:Binds X.K fd ps ds) (hd:Vals dvs ds) (hx:Passes CX X E)
  (I:Inv X pins σ H s) (r:Vals vs us) (h:sp (vs ++ dvs) H Q E):wpAny (model X.prog X.w) X.A (call (.ref f) us) (EP X pins σ Q) X.xe s:=by
 have r2:Vals (vs ++ dvs) (us ++ ds):=r.append hd
 have hl:(us ++ ds).length=ps.length:=by rw [←r2.length];exact F.len _ _ _ _ h
 refine wpAny_call (codeAny_mono (F.run X.A X.stack s H ⟨us,[]⟩ (us ++ ds) (vs ++ dvs) Q E hr I.env0 (hb s us I.kIn hl) r2 h) fun r s' hq=>?_)
 cases r with
 | error e=>exact hx pins σ H s e s' I hq
 | ok fl=>
  cases fl with
  | ret u=>exact I.after hq
  | next=>exact False.elim hq
  | brk=>exact False.elim hq
  | cont=>exact False.elim hq
theorem pe_call (F:FnOk X.prog X.w X.K X.mg X.base CX k f fd ps sp) (hr:Room k X.A) (hg:Gl X x) (hm:X.mg x=some (.ref f)) (hk:PySem.W.keepIn X.K (.ref f)=true) (hb:Binds X.K fd ps ds) (hd:Vals dvs ds) (hx:Passes CX X E)
  (ha:PA X (e :: es) t) (hdb:(x == ("__debug__":Str))=false:=by decide) (he:starEach (e :: es) X.env=(false,eval e X.env) :: starEach es X.env:=by rfl) (hpl:(backTo pos (starEach es X.env)).any (·.1)=false:=by rfl) :
  PE X (.Call (.Name x p) (e :: es) [] pos) (tCall sp dvs E t):=by
 intro pins s σ H Q I h
 refine wpAny_Call_Name_kw (ld_glob I hg hm ?_ hdb)
 refine PySem.W.callWith_K (h₀:=X.base) I.ok.mod.kin hk (thn (ha pos pins s σ H _ I h) fun us s1 ⟨vs,H1,I1,r,q⟩=>⟨I1.kIn,?_⟩) he hpl
 exact run_fn F hr hb hd hx I1 r q
structure Mk (K:PySem.W.Frag) (C f:Addr):Prop where
 makes:PySem.W.makesIn K C=true
 init:PySem.W.findIn K (.ref C) "__init__"=some (some (.ref f))
 fn:PySem.W.isFn K (.ref f)=true
 kp:PySem.W.keepIn K (.ref C)=true
end
section
variable {X:Cx} {CX:CXT} {k:Nat} {f C:Addr} {fd:FuncData} {ps ks:List Str} {sp:Sp} {E:XK} {x m:Str} {p pos apos kpos:Pos} {e o:Expr} {es:List Expr} {kws:List Keyword} {te ta:TE} {t tk:TA} {nm:Option Str}
structure KBinds (K:PySem.W.Frag) (fd:FuncData) (ps ks:List Str) (g:List Value→List Value→List Value) (gV:List V→List V→List V):Prop where
 to:∀(s:Shared) (us ws:List Value),K.In s.heap→(g us ws).length=ps.length→BindsTo s fd ⟨us,ks.zip ws⟩ (ps.zip (g us ws))
 rel:∀{vs:List V} {us:List Value} {zs:List V} {ws:List Value},Vals vs us→Vals zs ws→Vals (gV vs zs) (g us ws)
variable {g:List Value→List Value→List Value} {gV:List V→List V→List V}
end
structure FnScope (N P:List Str) (sc:Scope):Prop where
 kind:sc.kind = .function
 co:sc.isCoroutine=false
 gen:sc.isGenerator=false
 nd:N.Nodup
 pre:N.take P.length=P
 par:∀x∈P,sc.names.lookup x=some .local∨sc.names.lookup x=some .cell
 nofree:∀y∈sc.names,y.2≠.free
theorem bindL_out {kindOf:Str→Option NameKind} {x:Str}:∀{binds:List (Str×Value)} {m:Str→Option Value},(∀v,(x,v)∉binds)→bindL kindOf binds m x=m x
 | [],_,_=>rfl
 | (n,v) :: r,m,h=>by
  unfold bindL
  rw [bindL_out fun w hw=>h w (List.mem_cons_of_mem _ hw)]
  split
  ·have:x≠n:=by rintro rfl;exact h v List.mem_cons_self
   simp [this]
  ·rfl
theorem bindC_out {kindOf:Str→Option NameKind} {x:Str}:∀{binds:List (Str×Value)} {m:Str→Option Value},(∀v,(x,v)∉binds)→bindC kindOf binds m x=m x
 | [],_,_=>rfl
 | (n,v) :: r,m,h=>by
  unfold bindC
  rw [bindC_out fun w hw=>h w (List.mem_cons_of_mem _ hw)]
  split
  ·rfl
  ·have:x≠n:=by rintro rfl;exact h v List.mem_cons_self
   simp [this]
theorem bindL_get {kindOf:Str→Option NameKind} {x:Str} {v:Value}:∀{P:List Str} {vs:List Value} {i:Nat} {m:Str→Option Value},P.Nodup→P[i]? = some x→vs[i]? = some v→kindOf x=some .local→
  bindL kindOf (P.zip vs) m x=some v
 | [],_,_,_,_,h,_,_=>by simp at h
 | _ :: _,[],_,_,_,_,h,_=>by simp at h
 | p :: P,w :: vs,0,m,nd,h1,h2,hk=>by
  simp at h1 h2;subst h1;subst h2
  show bindL kindOf ((p,w) :: P.zip vs) m p=_
  unfold bindL
  rw [bindL_out fun v hv=>(List.nodup_cons.mp nd).1 (List.of_mem_zip hv).1,if_pos hk]
  simp
 | p :: P,w :: vs,i + 1,m,nd,h1,h2,hk=>by
  show bindL kindOf ((p,w) :: P.zip vs) m x=_
  unfold bindL
  exact bindL_get (i:=i) (List.nodup_cons.mp nd).2 (by simpa using h1) (by simpa using h2) hk
theorem bindC_get {kindOf:Str→Option NameKind} {x:Str} {v:Value}:∀{P:List Str} {vs:List Value} {i:Nat} {m:Str→Option Value},P.Nodup→P[i]? = some x→vs[i]? = some v→kindOf x≠some .local→
  bindC kindOf (P.zip vs) m x=some v
 | [],_,_,_,_,h,_,_=>by simp at h
 | _ :: _,[],_,_,_,_,h,_=>by simp at h
 | p :: P,w :: vs,0,m,nd,h1,h2,hk=>by
  simp at h1 h2;subst h1;subst h2
  show bindC kindOf ((p,w) :: P.zip vs) m p=_
  unfold bindC
  rw [bindC_out fun v hv=>(List.nodup_cons.mp nd).1 (List.of_mem_zip hv).1,if_neg hk]
  simp
 | p :: P,w :: vs,i + 1,m,nd,h1,h2,hk=>by
  show bindC kindOf ((p,w) :: P.zip vs) m x=_
  unfold bindC
  exact bindC_get (i:=i) (List.nodup_cons.mp nd).2 (by simpa using h1) (by simpa using h2) hk
def start (N:List Str) (vs:List V):St:=vs.map some ++ List.replicate (N.length - vs.length) none
def cxOf (CX:CXT) (P:Program) (w:World) (K:PySem.W.Frag) (mg:Str→Option Value) (base:Heap) (N:List Str) (qual:Str) (scope:Scope) (f:Addr) (cd:Value) (A:Around) (outer:List Env) (s:Shared) (H:Hp) (E:XK):Cx where
 prog:=P
 w:=w
 K:=K
 mg:=mg
 base:=base
 A:=A.deeper (envOfC qual scope s.heap.objs.size f cd)
 N:=N
 s₀:=s
 H₀:=H
 env:=envOfC qual scope s.heap.objs.size f cd
 outer:=outer
 stack:=envOfC qual scope s.heap.objs.size f cd :: outer
 ex:=[]
 calm:=true
 fn:=fun _=>true
 pn:=[]
 xe:=fun e s'=>wpAny (model P w) (A.deeper (envOfC qual scope s.heap.objs.size f cd)) (leaving (envOfC qual scope s.heap.objs.size f cd) e) (fun _ s''=>CX outer H s E e s'') (fun e' s''=>CX outer H s E e' s'') s'
theorem cell_has {sc:Scope} {n:Nat} {x:Str} (h:sc.names.lookup x=some .cell):∃c,(cellsFrom n sc.names []).lookup x=some c:=by
 have q:=PySem.W.cellsFrom_some sc.names n [] (.inl h)
 exact Option.isSome_iff_exists.mp q
theorem inv_start {CX:CXT} {P:Program} {w:World} {K:PySem.W.Frag} {mg:Str→Option Value} {base:Heap} {N ps:List Str} {qual:Str} {scope:Scope} {f:Addr} {cd:Value} {A:Around} {outer:List Env} {s s1:Shared} {H:Hp} {E:XK} {us:List Value} {vs:List V}
  (S:FnScope N ps scope) (hd:A.handled=none) (e0:Env0 P w K mg base A outer s H) (hl:vs.length=ps.length) (r:Vals vs us)
  (x:InCallC s s.heap.objs.size (bindL (envOfC qual scope s.heap.objs.size f cd).kindOf (ps.zip us) fun _=>none) (cellsFrom (s.heap.objs.size + 1) scope.names []) (bindC (envOfC qual scope s.heap.objs.size f cd).kindOf (ps.zip us) fun _=>none) s1) :
  Inv (cxOf CX P w K mg base N qual scope f cd A outer s H E) [] (start N vs) H s1:=by
 have hpl:ps.length≤N.length:=by have:=congrArg List.length S.pre;rw [List.length_take] at this;omega
 obtain ⟨h1,tk,rfl,hk⟩:=x.done
 have noA:∀b:Addr,b∉(cxOf CX P w K mg base N qual scope f cd A outer s H E).ex:=fun b z=>absurd (show b∈([]:List Addr) from z) (by simp)
 refine ⟨⟨e0.mod,S.kind,rfl,rfl,Nat.le_refl _,fun y z c h1 h2=>?_,fun y hy=>?_,fun y c _ h=>?_,fun _=>hd,Around.frames_deeper e0.frames,.inr ⟨rfl,rfl⟩,fun b z=>absurd z (noA b),e0.bs,e0.bsz,fun b _ _=>noA b,fun b z=>absurd z (noA b),e0.funs,e0.frf⟩,
  rfl,e0.bare,Un.kept hk,⟨_,x.toInCall.ns,fun i y v h1 h2 h3=>?_⟩,fun y c h=>⟨_,x.cell y c h⟩,e0.hok.fresh (Nat.le_refl _),fun y c h=>?_,fun p hp=>absurd (show p∈([]:List (Addr×Obj)) from hp) (by simp),e0.hok.kept hk,?_⟩
 ·exact name_of_addr x.apart (PySem.mem_of_lookup h1) (PySem.mem_of_lookup h2)
 ·have hy:scope.names.lookup y=some .cell∨scope.names.lookup y=some .free:=hy
  rcases hy with hy | hy
  ·exact cell_has hy
  ·exact absurd rfl (S.nofree _ (PySem.mem_of_lookup hy))
 ·exact Nat.le_of_lt (x.above y c (PySem.mem_of_lookup h))
 ·have hi:i < vs.length:=by
   unfold start at h2
   by_cases hi:i < vs.length
   ·exact hi
   ·rw [List.getElem?_append_right (by simpa using hi)] at h2
    rw [List.getElem?_replicate] at h2
    split at h2 <;> cases h2
  have ha:vs[i]? = some v:=by
   unfold start at h2
   rw [List.getElem?_append_left (by simpa using hi),List.getElem?_map] at h2
   cases e:vs[i]? with
   | none=>rw [e] at h2;cases h2
   | some a=>rw [e] at h2;cases h2;rfl
  obtain ⟨u,hu,rv⟩:=r.get ha
  have hp:ps[i]? = some y:=by
   rw [←S.pre,List.getElem?_take_of_lt (by omega)];exact h1
  have ndP:ps.Nodup:=by rw [←S.pre];exact S.nd.sublist (List.take_sublist _ _)
  refine ⟨u,rv,?_⟩
  rcases S.par y (List.mem_of_getElem? hp) with k | k
  ·exact .inl ⟨k,bindL_get ndP hp hu k⟩
  ·obtain ⟨c,e⟩:=cell_has (n:=s.heap.objs.size + 1) k
   refine .inr ⟨.inl k,c,e,?_⟩
   have q:=x.cell y c e
   rw [bindC_get ndP hp hu (by show scope.names.lookup y≠_;rw [k];decide)] at q
   exact q
 ·exact e0.hok.fresh (Nat.le_of_lt (x.above y c (PySem.mem_of_lookup h)))
 ·unfold start
  show _=N.length
  rw [List.length_append,List.length_map,List.length_replicate]
  omega
theorem fn_of {CX:CXT} {P:Program} {w:World} {K:PySem.W.Frag} {mg:Str→Option Value} {base:Heap} {k:Nat} {f:Addr} {name qual:Str} {params:Arguments} {body:List Stmt} {scope:Scope} {dV kV doc pm cdv ct oc:Value} {an od:Option Addr}
  {osl:Array (Option Value)} {N ps:List Str} {sp:Sp} (lk:K.lookup f=some ⟨oc,od,.func (PySem.W.fnOf name qual params body scope dV kV doc pm an cdv ct),osl⟩) (hcd:PySem.W.codeIn K cdv qual=true) (S:FnScope N ps scope)
  (len:∀vs H Q E,sp vs H Q E→vs.length=ps.length)
  (hbody:∀(A:Around) (outer:List Env) (s:Shared) (H:Hp) (vs:List V) (Q:VK) (E:XK),Room k (A.deeper (envOfC qual scope s.heap.objs.size f cdv))→sp vs H Q E→
   ∃t,PSs (cxOf CX P w K mg base N qual scope f cdv A outer s H E) body t∧t { nx:=fun _ H'=>Q .non H',rt:=Q } (start N vs) H) :
  FnOk P w K mg base CX (k + 1) f (PySem.W.fnOf name qual params body scope dV kV doc pm an cdv ct) ps sp:=by
 refine ⟨len,fun A outer s H args us vs Q E hr e0 hb r hsp=>?_⟩
 have hl:=len _ _ _ _ hsp
 have KX:K.In s.heap:=e0.mod.kin.keeps fun b o e=>(e0.bs b o e).1
 have lim:s.heap.NoLimit:=e0.mod.nolimit.keeps fun b o e=>(e0.bs b o e).1
 have hkind:∀y∈ps.zip us,scope.names.lookup y.1=some .local∨(scope.names.lookup y.1=some .cell∧((cellsFrom (s.heap.objs.size + 1) scope.names []).lookup y.1).isSome=true):=fun zz0 hy=>by
  obtain ⟨n,v⟩:=zz0
  rcases S.par n (List.of_mem_zip hy).1 with q | q
  ·exact .inl q
  ·exact .inr ⟨q,PySem.W.cellsFrom_some _ _ _ (.inl q)⟩
 refine codeAny_call_function hr.depth (KX _ _ lk) rfl S.co S.gen rfl (PySem.W.codeRec_of KX hcd) (hb _ _ _ _ ?_)
 refine wpAny_newFunctionEnv_cells S.kind hkind fun env he s1 x=>?_
 subst he
 refine ⟨lim.keeps x.toInCall.keep,codeAny_func ?_⟩
 obtain ⟨t,ht,hq⟩:=hbody A outer s H vs Q E (hr.deeper _) hsp
 have I:Inv (cxOf CX P w K mg base N qual scope f cdv A outer s H E) [] (start N vs) H s1:=inv_start S hr.hd e0 hl r x
 refine wpAny_mono (ht [] s1 (start N vs) H _ I hq) (fun fl s' hs=>?_) fun e s' hs=>hs
 have fin:∀{σ':St} {H':Hp} {v:V} {u:Value},Inv (cxOf CX P w K mg base N qual scope f cdv A outer s H E) [] σ' H' s'→RelV v u→Q v H'→CE outer P w H s Q u s':=
  fun {σ' H' v u} J rv q=>⟨v,H',J.os,J.bare,J.base,J.hok,rv,q⟩
 cases fl with
 | ret u=>
  obtain ⟨v,σ',H',J,rv,q⟩:=hs
  exact fin J rv q
 | next=>
  obtain ⟨σ',H',J,q⟩:=hs
  exact fin (v:=V.non) (u:=Value.none) J rfl q
 | brk=>
  obtain ⟨_,_,_,q⟩:=hs
  exact False.elim q
 | cont=>
  obtain ⟨_,_,_,q⟩:=hs
  exact False.elim q
end L2
namespace L2
open PySem PySem.Spec PyProof.Rows
section
variable {X:Cx} {x:Str} {p pos:Pos} {e:Expr} {es:List Expr} {t:TA} {id T:String} {r:List V→Hp→VK→Prop}
def tCB (r:List V→Hp→VK→Prop) (t:TA):TE:=fun σ H Q=>t σ H fun vs H1=>r vs H1 Q
theorem pe_callB (hc:CallR X (.builtin id) r) (hg:Gl X x) (hm:X.mg x=none) (hv:bootBuiltins x=some (.builtin id)) (ha:PA X (e :: es) t) (hn:x≠"__name__":=by decide) (hdb:(x == ("__debug__":Str))=false:=by decide)
  (he:starEach (e :: es) X.env=(false,eval e X.env) :: starEach es X.env:=by rfl) (hpl:(backTo pos (starEach es X.env)).any (·.1)=false:=by rfl):PE X (.Call (.Name x p) (e :: es) [] pos) (tCB r t):=by
 intro pins s σ H Q I h
 refine wpAny_Call_Name_kw (ld_blt I hg hm hv ?_ hn hdb)
 exact PyProof.Rows.callWith_builtin1 (thn (ha pos pins s σ H _ I h) fun us s1 ⟨vs,H1,I1,r1,q1⟩=>hc pins s1 σ H1 vs us Q I1 r1 q1) he hpl
theorem pe_callTy (hc:CallR X (.type T) r) (hg:Gl X x) (hm:X.mg x=none) (hv:bootBuiltins x=some (.type T)) (ha:PA X (e :: es) t) (hn:x≠"__name__":=by decide) (hdb:(x == ("__debug__":Str))=false:=by decide)
  (he:starEach (e :: es) X.env=(false,eval e X.env) :: starEach es X.env:=by rfl) (hpl:(backTo pos (starEach es X.env)).any (·.1)=false:=by rfl):PE X (.Call (.Name x p) (e :: es) [] pos) (tCB r t):=by
 intro pins s σ H Q I h
 refine wpAny_Call_Name_kw (ld_blt I hg hm hv ?_ hn hdb)
 exact PyProof.Rows.callWith_type1 (thn (ha pos pins s σ H _ I h) fun us s1 ⟨vs,H1,I1,r1,q1⟩=>hc pins s1 σ H1 vs us Q I1 r1 q1) he hpl
end
end L2
namespace HT
open PySem PyProof.Rows
section
variable {prog:Program} {w:World} {A:Around} {E:Value→Shared→Prop} {s:Shared}
def sIx (n d:Nat):Option Int→Nat
 | none=>d
 | some v=>if v < 0 then (v + (n:Int)).toNat else min v.toNat n
theorem sIx_none (n d:Nat):sIx n d none=d:=rfl
theorem sIx_nat (n d k:Nat):sIx n d (some (k:Int))=min k n:=by
 show (if (k:Int) < 0 then ((k:Int) + (n:Int)).toNat else min (k:Int).toNat n)=min k n
 rw [if_neg (by omega),Int.toNat_natCast]
theorem sIx_le (n d:Nat) (hd:d≤n) (o:Option Int):sIx n d o≤n:=by
 cases o with
 | none=>exact hd
 | some v=>
  show (if v < 0 then (v + (n:Int)).toNat else min v.toNat n)≤n
  by_cases hv:v < 0
  ·rw [if_pos hv];omega
  ·rw [if_neg hv];exact Nat.min_le_right _ _
theorem clip_eq (v:Int) (n d:Nat):(if v < 0 then max (v + (n:Int)) 0 else min v (n:Int))=((sIx n d (some v):Nat):Int):=by
 show (if v < 0 then max (v + (n:Int)) 0 else min v (n:Int))=(((if v < 0 then (v + (n:Int)).toNat else min v.toNat n):Nat):Int)
 by_cases hv:v < 0
 ·simp only [if_pos hv];omega
 ·simp only [if_neg hv];omega
theorem adjust_gen (lo hi:Option Int) (n:Nat):Builtin.Slice.sliceAdjust lo hi 1 (n:Int)=(((sIx n 0 lo:Nat):Int),((sIx n n hi:Nat):Int)):=by
 have h1:¬((1:Int) < 0):=by omega
 unfold Builtin.Slice.sliceAdjust
 simp only [h1,if_false]
 refine Prod.ext ?_ ?_
 ·cases lo with
  | none=>rfl
  | some v=>exact clip_eq v n 0
 ·cases hi with
  | none=>rfl
  | some v=>exact clip_eq v n n
theorem places_gen (i j:Nat):Builtin.Slice.slicePlaces (i:Int) (j:Int) 1=j - i:=by
 unfold Builtin.Slice.slicePlaces
 have h1:(1:Int) > 0:=by omega
 simp only [h1,if_true,Int.ediv_one]
 split <;> omega
theorem slicePart_ {v:Value} {o:Option Int} {Q:Option Int→Shared→Prop} (p:IsPart v o) (h:Q o s):wpAny (model prog w) A (Builtin.Slice.slicePartIndex v) Q E s:=by
 cases p with
 | none=>exact slicePart_none h
 | int i t=>exact slicePart_int h
theorem sliceApplied_gen {sl:Addr} {vl vu:Value} {lo hi:Option Int} {n:Nat} {Q:Int×Int×Nat→Shared→Prop} (hs:s.heap.IsSliceOf sl vl vu .none) (pl:IsPart vl lo) (pu:IsPart vu hi)
  (h:Q (((sIx n 0 lo:Nat):Int),1,sIx n n hi - sIx n 0 lo) s):wpAny (model prog w) A (Builtin.Slice.sliceApplied (.ref sl) (pure (n:Int))) Q E s:=by
 obtain ⟨os,hos,hcs,hds⟩:=id hs
 unfold Builtin.Slice.sliceApplied Builtin.Slice.sliceFields
 refine wpAny_bind (wpAny_bind (wpAny_field hos hds (x:=vl) rfl (wpAny_bind (wpAny_field hos hds (x:=vu) rfl (wpAny_bind (wpAny_field hos hds (x:=.none) rfl (wpAny_pure ?_)))))))
 refine wpAny_bind (slicePart_none ?_)
 show wpAny _ _ (if ((1:Int) == 0)=true then _ else _) _ _ s
 rw [if_neg (by decide)]
 refine wpAny_bind (slicePart_ pl (wpAny_bind (slicePart_ pu (wpAny_bind (wpAny_pure ?_)))))
 show wpAny _ _ (match Builtin.Slice.sliceAdjust lo hi 1 (n:Int) with | (lo,hi)=>pure (lo,(1:Int),Builtin.Slice.slicePlaces lo hi 1)) _ _ s
 rw [adjust_gen lo hi n]
 show wpAny _ _ (pure (((sIx n 0 lo:Nat):Int),(1:Int),Builtin.Slice.slicePlaces ((sIx n 0 lo:Nat):Int) ((sIx n n hi:Nat):Int) 1)) _ _ s
 rw [places_gen]
 exact wpAny_pure h
theorem pick_gen (xs:Array Value) (i k:Nat):((List.range k).filterMap fun (m:Nat)=>xs[((i:Int) + (m:Int) * 1).toNat]?).toArray=((xs.toList.drop i).take k).toArray:=by
 have e:(fun (m:Nat)=>xs[((i:Int) + (m:Int) * 1).toNat]?)=fun m=>xs[i + m]?:=by
  funext m
  have:((i:Int) + (m:Int) * 1).toNat=i + m:=by omega
  rw [this]
 rw [e]
 have:=pick_run xs i k
 rw [List.filterMap_map] at this
 have e2:((fun x=>xs[x]?) ∘ fun x=>i + x)=fun m=>xs[i + m]?:=rfl
 rw [e2] at this
 rw [this]
theorem getItem_tuple_cut {t sl:Addr} {items:Array Value} {vl vu:Value} {lo hi:Option Int} {Q:Value→Shared→Prop} (ht:IsTup s.heap t items) (hs:s.heap.IsSliceOf sl vl vu .none) (pl:IsPart vl lo) (pu:IsPart vu hi)
  (hw:¬(sIx items.size 0 lo=0∧sIx items.size items.size hi=items.size))
  (h:Q (.ref s.heap.objs.size) { s with heap:=s.heap.push { cls:=.type "tuple",data:=.seq ((items.toList.drop (sIx items.size 0 lo)).take (sIx items.size items.size hi - sIx items.size 0 lo)).toArray } })
  (hsz:items.size≤sizeLine):wpAny (model prog w) A (getItem (.ref t) (.ref sl)) Q E s:=by
 have htake:sizeOk (.seq ((items.toList.drop (sIx items.size 0 lo)).take (sIx items.size items.size hi - sIx items.size 0 lo)).toArray):=by
  show ((items.toList.drop (sIx items.size 0 lo)).take (sIx items.size items.size hi - sIx items.size 0 lo)).toArray.size≤sizeLine
  rw [List.size_toArray,List.length_take,List.length_drop,Array.length_toList]
  omega
 have hj:sIx items.size items.size hi≤items.size:=sIx_le _ _ (Nat.le_refl _) hi
 obtain ⟨os,hos,hcs,hds⟩:=id hs
 have hTs:s.TypeIs (.ref sl) "slice":=⟨os,hos,hcs⟩
 unfold getItem
 try with_reducible refine wpAny_holding ?_
 first | refine wpAny_bind (wpAny_pure ?_) | skip
 refine wpAny_bind (wpAny_sequenceKey ht.typeIs (by decide) ?_)
 refine wpAny_bind (wpAny_callSpecial?_slot (name:=Str.ofString "__getitem__") ht.typeIs PyProof.Rows.slot_tuple_getitem
  (wpAny_call_entry PyProof.Rows.slot_tuple_getitem ht.typeIs entry_tuple_getitem ?_ (args_tuple_getitem _ _)))
 show wpAny _ _ (Builtin.Tuple.tupleItemsOf (.ref t) >>= _) _ _ s
 refine wpAny_bind (tupleItemsOf_ ht ?_)
 refine wpAny_bind (wpAny_typeOf hTs ?_)
 rw [if_pos (by decide)]
 refine wpAny_bind (sliceApplied_gen hs pl pu ?_)
 have hno:¬((((sIx items.size 0 lo:Nat):Int) == 0 && (1:Int) == 1 && (sIx items.size items.size hi - sIx items.size 0 lo) == items.size)=true):=by
  intro q
  rw [Bool.and_eq_true,Bool.and_eq_true] at q
  have q1:((sIx items.size 0 lo:Nat):Int)=0:=eq_of_beq q.1.1
  have q2:sIx items.size items.size hi - sIx items.size 0 lo=items.size:=eq_of_beq q.2
  exact hw ⟨by omega,by omega⟩
 show wpAny _ _ (if (((sIx items.size 0 lo:Nat):Int) == 0 && (1:Int) == 1 && (sIx items.size items.size hi - sIx items.size 0 lo) == items.size)=true then _ else _) _ _ s
 rw [if_neg hno,pick_gen]
 first
  | exact wpAny_bind (m:=Builtin.Tuple.tupleExact _) (wpAny_newObj_type (wpAny_pure ⟨_,rfl,wpAny_pure h⟩) htake)
  | exact wpAny_bind (m:=Builtin.Tuple.tupleExact _) (wpAny_newObj_type (wpAny_bind (wpAny_pure (wpAny_pure ⟨_,rfl,wpAny_pure h⟩))) htake)
  | exact wpAny_bind (wpAny_bind (m:=Builtin.Tuple.tupleExact _) (wpAny_newObj_type (wpAny_pure (wpAny_pure ⟨_,rfl,wpAny_pure h⟩)) htake))
  | exact wpAny_bind (wpAny_bind (m:=Builtin.Tuple.tupleExact _) (wpAny_newObj_type (wpAny_pure ⟨_,rfl,wpAny_pure h⟩) htake))
end
end HT
namespace L2
open PySem PySem.Spec PyProof.Rows
abbrev TO:=St→Hp→(Option Int→Hp→Prop)→Prop
def PO (X:Cx) (e:Option Expr) (t:TO):Prop:=
 ∀(pins:List (Addr×Obj)) (s:Shared) (σ:St) (H:Hp) (Q:Option Int→Hp→Prop),Inv X pins σ H s→t σ H Q→
  wpAny (model X.prog X.w) X.A (evalPart e X.env) (fun u s'=>∃o H',Inv X pins σ H' s'∧IsPart u o∧Q o H') X.xe s
def tNoPart:TO:=fun _ H Q=>Q none H
def tPart (t:TE):TO:=fun σ H Q=>t σ H fun x H1=>∃i,x = .int i∧Q (some i) H1
section
variable {X:Cx} {e:Expr} {te:TE} {lo hi:Option Expr} {tl th:TO} {pos p2:Pos}
theorem po_none:PO X none tNoPart:=by
 intro pins s σ H Q I h
 rw [evalPart_none]
 exact wpAny_pure ⟨none,H,I,.none,h⟩
theorem po_some (h:PE X e te):PO X (some e) (tPart te):=by
 intro pins s σ H Q I hw
 rw [evalPart_some]
 refine thn (h pins s σ H _ I hw) fun u s1 zz0=>?_
 obtain ⟨x,H1,I1,r1,q1⟩:=zz0
 obtain ⟨i,rfl,q⟩:=q1
 obtain ⟨t,rfl⟩:=r1
 exact ⟨some i,H1,I1,.int i t,q⟩
def SlR (X:Cx) (r:V→Option Int→Option Int→Hp→VK→Prop):Prop:=
 ∀(pins:List (Addr×Obj)) (s:Shared) (σ:St) (H:Hp) (x:V) (v vl vu:Value) (lo hi:Option Int) (sl:Addr) (Q:VK),Inv X pins σ H s→RelV x v→s.heap.IsSliceOf sl vl vu .none→IsPart vl lo→IsPart vu hi→r x lo hi H Q→
  ∃T id,typeLookup (.type T) "__getitem__"=pure (some (.builtin id))∧s.TypeIs v T∧wpAny (model X.prog X.w) X.A (getItem v (.ref sl)) (EP X pins σ Q) X.xe s
theorem SlR.or {r r':V→Option Int→Option Int→Hp→VK→Prop} (h:SlR X r) (h':SlR X r'):SlR X (fun x lo hi H Q=>r x lo hi H Q∨r' x lo hi H Q):=by
 intro pins s σ H x v vl vu lo hi sl Q I rx hs pl pu q
 rcases q with q | q
 ·exact h pins s σ H x v vl vu lo hi sl Q I rx hs pl pu q
 ·exact h' pins s σ H x v vl vu lo hi sl Q I rx hs pl pu q
def tSl (r:V→Option Int→Option Int→Hp→VK→Prop) (te:TE) (tl th:TO):TE:=fun σ H Q=>te σ H fun x H1=>tl σ H1 fun l H2=>th σ H2 fun u H3=>r x l u H3 Q
theorem pe_slice {r:V→Option Int→Option Int→Hp→VK→Prop} (hr:SlR X r) (he:PE X e te) (hl:PO X lo tl) (hu:PO X hi th):PE X (.Subscript e (.Slice lo hi none p2) pos) (tSl r te tl th):=by
 intro pins s σ H Q I h
 refine Subscript_ (thn (he pins s σ H _ I h) fun v s1 zz0=>?_)
 obtain ⟨x,H1,I1,r1,q1⟩:=zz0
 refine wpAny_Slice (thn (hl pins s1 σ H1 _ I1 q1) fun vl s2 ⟨l,H2,I2,pl,q2⟩=>thn (hu pins s2 σ H2 _ I2 q2) fun vu s3 zz0=>?_)
 obtain ⟨u,H3,I3,pu,q3⟩:=zz0
 rw [evalPart_none]
 refine wpAny_pure ?_
 have I4:Inv X pins σ H3 { s3 with heap:=s3.heap.push { cls:=.type "slice",data:=.fields #[vl,vu,.none] } }:=I3.kept (t':=s3.toks) fun b ob q=>Heap.get?_push_of_some _ q
 obtain ⟨T,id,hT,ht,hg⟩:=hr pins { s3 with heap:=s3.heap.push { cls:=.type "slice",data:=.fields #[vl,vu,.none] } } σ H3 x v vl vu l u s3.heap.objs.size Q I4 r1 (Heap.IsSliceOf.new ..) pl pu q3
 show wpAny (model X.prog X.w) X.A (subscriptTail e (.Slice lo hi none p2) v (.ref s3.heap.objs.size)) (EP X pins σ Q) X.xe { s3 with heap:=s3.heap.push { cls:=.type "slice",data:=.fields #[vl,vu,.none] } }
 exact tail_any (ops:=[.ref s3.heap.objs.size,v]) ht hT hg (by with_unfolding_all rfl)
def cutV (xs:List V) (lo hi:Option Int):List V:=(xs.drop (HT.sIx xs.length 0 lo)).take (HT.sIx xs.length xs.length hi - HT.sIx xs.length 0 lo)
theorem cutV_length (xs:List V) (lo hi:Option Int):(cutV xs lo hi).length≤xs.length:=by
 unfold cutV
 rw [List.length_take,List.length_drop]
 omega
def rSlT (K:PySem.W.Frag):V→Option Int→Option Int→Hp→VK→Prop:=fun x lo hi H Q=>∃a xs,x = .ref a∧SqT K H a xs∧
 ¬(HT.sIx xs.length 0 lo=0∧HT.sIx xs.length xs.length hi=xs.length)∧∀p,H p=none→Q (.ref p) (upd H p (.tup (cutV xs lo hi)))
theorem sl_tup:SlR X (rSlT X.K):=by
 intro pins s σ H x v vl vu lo hi sl Q I rx hs pl pu h
 obtain ⟨a,xs,rfl,hx,hw,q⟩:=h
 cases rx
 obtain ⟨its,r,ht,hz⟩:=I.tuple hx
 have hlen:its.toArray.size=xs.length:=by rw [List.size_toArray];exact r.length.symm
 refine ⟨"tuple",_,PyProof.Rows.slot_tuple_getitem.lookup,ht.typeIs,?_⟩
 refine HT.getItem_tuple_cut ht hs pl pu (by rw [hlen];exact hw) ?_ (by rw [hlen];exact hz)
 rw [hlen]
 refine ⟨.ref s.heap.objs.size,_,I.laid (t':=s.toks) (o:=.tup (cutV xs lo hi)) (fun b ob q=>Heap.get?_push_of_some _ q) (Nat.le_refl _) ?_,rfl,q _ (I.hok.fresh (Nat.le_refl _))⟩
 exact ⟨Nat.le_trans (cutV_length xs lo hi) hz,_,(r.drop (HT.sIx xs.length 0 lo)).take (HT.sIx xs.length xs.length hi - HT.sIx xs.length 0 lo),IsTup.new _ _⟩
end
end L2
namespace L2
open PySem PySem.Spec PyProof.Rows
def ixN (n:Nat) (i:Int):Option Nat:=if 0≤i then (if i < n then some i.toNat else none) else if -(n:Int)≤i then some (i + n).toNat else none
def atI {α:Type} (xs:List α) (i:Int):Option α:=(ixN xs.length i).bind fun j=>xs[j]?
theorem ixN_seq {n:Nat} {i:Int} {j:Nat} (h:ixN n i=some j):seqIndex? i n=some j∧j < n∧-(n:Int)≤i∧i < n:=by
 unfold ixN at h
 by_cases h0:0≤i
 ·rw [if_pos h0] at h
  by_cases h1:i < n
  ·rw [if_pos h1] at h
   have e:i.toNat=j:=Option.some.inj h
   exact ⟨by rw [seqIndex_of h0 h1,e],by omega,by omega,h1⟩
  ·rw [if_neg h1] at h;cases h
 ·rw [if_neg h0] at h
  by_cases h1:-(n:Int)≤i
  ·rw [if_pos h1] at h
   have e:(i + n).toNat=j:=Option.some.inj h
   exact ⟨by rw [seqIndex_neg (by omega) h1,e],by omega,h1,by omega⟩
  ·rw [if_neg h1] at h;cases h
theorem atI_get {α:Type} {xs:List α} {i:Int} {v:α} (h:atI xs i=some v):∃j,seqIndex? i xs.length=some j∧xs[j]? = some v∧j < xs.length∧-(xs.length:Int)≤i∧i < xs.length:=by
 unfold atI at h
 cases e:ixN xs.length i with
 | none=>rw [e] at h;cases h
 | some j=>
  rw [e] at h
  obtain ⟨h1,h2,h3,h4⟩:=ixN_seq e
  exact ⟨j,h1,h,h2,h3,h4⟩
theorem atI_nat {α:Type} {xs:List α} {j:Nat} {v:α} (h:xs[j]? = some v):atI xs (j:Int)=some v:=by
 have hj:j < xs.length:=(List.getElem?_eq_some_iff.mp h).1
 have e:ixN xs.length (j:Int)=some j:=by
  unfold ixN
  rw [if_pos (by omega),if_pos (by omega)];simp
 unfold atI;rw [e];exact h
def PlainIx (b:Expr):Prop:=∀o i,subscripted b false o i=operate [o,i] (getItem o i)
def IxR (X:Cx) (r:R2):Prop:=
 ∀(value slice:Expr) (pins:List (Addr×Obj)) (s:Shared) (σ:St) (H:Hp) (x y:V) (v u:Value) (Q:VK),Inv X pins σ H s→RelV x v→RelV y u→r x y H Q→
  subscripted slice false v u=operate [v,u] (getItem v u)→wpAny (model X.prog X.w) X.A (subscriptTail value slice v u) (EP X pins σ Q) X.xe s
def MtR (X:Cx) (id:String) (r:V→List V→Hp→VK→Prop):Prop:=
 ∀(pins:List (Addr×Obj)) (s:Shared) (σ:St) (H:Hp) (x:V) (xs:List V) (v:Value) (us:List Value) (Q:VK),Inv X pins σ H s→RelV x v→Vals xs us→r x xs H Q→
  wpAny (model X.prog X.w) X.A (call (.builtin id) (v :: us)) (EP X pins σ Q) X.xe s
section
variable {X:Cx} {a b:Expr} {ta tb:TE} {pos:Pos}
theorem IxR.or {r r':R2} (h:IxR X r) (h':IxR X r'):IxR X (fun x y H Q=>r x y H Q∨r' x y H Q):=by
 intro value slice pins s σ H x y v u Q I rx ry q hs
 rcases q with q | q
 ·exact h value slice pins s σ H x y v u Q I rx ry q hs
 ·exact h' value slice pins s σ H x y v u Q I rx ry q hs
theorem pe_ix {r:R2} (hr:IxR X r) (ha:PE X a ta) (hb:PE X b tb) (hs:PlainIx b):PE X (.Subscript a b pos) (tOp r ta tb):=by
 intro pins s σ H Q I h
 exact Subscript_ (binT ha hb I h fun v u s2 x y H2 I2 rx ry q=>hr a b pins s2 σ H2 x y v u Q I2 rx ry q (hs _ _))
def rIxL (K:PySem.W.Frag):R2:=fun x y H Q=>∃p xs i v,x = .ref p∧y = .int i∧SqL K H p xs∧atI xs i=some v∧Q v H
def rIxT (K:PySem.W.Frag):R2:=fun x y H Q=>∃p xs i v,x = .ref p∧y = .int i∧SqT K H p xs∧atI xs i=some v∧Q v H
def rIxS:R2:=fun x y H Q=>∃z i c,x = .str z∧y = .int i∧z.length≤sizeLine∧atI z.cps.toList i=some c∧Q (.str ⟨#[c]⟩) H
theorem ix_list:IxR X (rIxL X.K):=by
 intro value slice pins s σ H x y v u Q I rx ry h hs
 obtain ⟨p,xs,i,z,rfl,rfl,hq,he,q⟩:=h
 cases rx
 obtain ⟨t,rfl⟩:=ry
 obtain ⟨its,r,pl,hz⟩:=I.list hq
 obtain ⟨j,h1,h2,h3,h4,h5⟩:=atI_get he
 obtain ⟨w,ew,rw'⟩:=r.get h2
 have hl:=r.length
 have hn:=line63
 have fin:EP X pins σ Q w s:=⟨z,H,I,rw',q⟩
 by_cases h0:0≤i
 ·have hj:i.toNat=j:=by
   rw [seqIndex_of h0 h5] at h1
   exact Option.some.inj h1
  exact item_listR pl.isList h0 (by omega) (by rw [hj];simpa using ew) fin hs
 ·have hj:(i + (its.toArray.size:Int)).toNat=j:=by
   rw [seqIndex_neg (by omega) h4] at h1
   rw [List.size_toArray,←hl]
   exact Option.some.inj h1
  exact subscriptTail_builtinR (x:=w) pl.isList.typeIs slot_list_getitem.lookup
   (wpAny_getItem_list_neg (Q:=fun r s'=>r=w∧EP X pins σ Q r s') pl.isList (by omega) (by rw [List.size_toArray] <;> omega) (by omega) (by rw [hj];simpa using ew) ⟨rfl,fin⟩) hs
theorem ix_tup:IxR X (rIxT X.K):=by
 intro value slice pins s σ H x y v u Q I rx ry h hs
 obtain ⟨p,xs,i,z,rfl,rfl,hq,he,q⟩:=h
 cases rx
 obtain ⟨t,rfl⟩:=ry
 obtain ⟨its,r,pl,hz⟩:=I.tuple hq
 obtain ⟨j,h1,h2,h3,h4,h5⟩:=atI_get he
 obtain ⟨w,ew,rw'⟩:=r.get h2
 have hl:=r.length
 have hn:=line63
 have fin:EP X pins σ Q w s:=⟨z,H,I,rw',q⟩
 exact subscriptTail_builtinR (x:=w) pl.typeIs slot_tuple_getitem.lookup
  (getItem_tuple (j:=j) (Q:=fun r s'=>r=w∧EP X pins σ Q r s') pl (by omega) (by omega) (by rw [List.size_toArray,←hl];exact h1) (by simpa using ew) ⟨rfl,fin⟩) hs
theorem ix_str:IxR X rIxS:=by
 intro value slice pins s σ H x y v u Q I rx ry h hs
 obtain ⟨z,i,c,rfl,rfl,hz,he,q⟩:=h
 obtain ⟨t,rfl⟩:=rx
 obtain ⟨t',rfl⟩:=ry
 obtain ⟨j,h1,h2,h3,h4,h5⟩:=atI_get he
 have hl:z.cps.toList.length=z.length:=by simp [Str.length]
 rw [hl] at h1 h4 h5
 have hn:=line63
 exact tail_any (typeIs_str s z t) slot_str_getitem.lookup (getItem_str (c:=c) (by
  have e1:decide (i < -(2 ^ 63:Int))=false:=decide_eq_false (by omega)
  have e2:decide (i≥2 ^ 63)=false:=decide_eq_false (by omega)
  rw [e1,e2,Bool.or_false]) (by rw [h1];simpa using h2) ⟨.str ⟨#[c]⟩,H,I.tok _,⟨_,rfl⟩,q⟩) hs
def rIx (K:PySem.W.Frag):R2:=fun x y H Q=>rIxL K x y H Q∨rIxT K x y H Q∨rIxS x y H Q
theorem ix_seq:IxR X (rIx X.K):=ix_list.or (ix_tup.or ix_str)
theorem slice_bounds (lo hi:Option Int) (n:Nat):(sliceBounds lo hi none n).1=((HT.sIx n 0 lo:Nat):Int)∧(sliceBounds lo hi none n).2.1=((HT.sIx n n hi:Nat):Int)∧(sliceBounds lo hi none n).2.2=1:=by
 refine ⟨?_,?_,rfl⟩
 ·cases lo with
  | none=>simp [sliceBounds,HT.sIx]
  | some i=>
   simp only [sliceBounds,HT.sIx,Option.getD_none,show (1:Int) > 0 by decide,if_true]
   by_cases h:i < 0
   ·simp only [h,if_true] <;> omega
   ·simp only [h,if_false] <;> omega
 ·cases hi with
  | none=>simp [sliceBounds,HT.sIx]
  | some i=>
   simp only [sliceBounds,HT.sIx,Option.getD_none,show (1:Int) > 0 by decide,if_true]
   by_cases h:i < 0
   ·simp only [h,if_true] <;> omega
   ·simp only [h,if_false] <;> omega
theorem slicePick_cut (its:List Value) (lo hi:Option Int):slicePick its.toArray lo hi none=((its.drop (HT.sIx its.length 0 lo)).take (HT.sIx its.length its.length hi - HT.sIx its.length 0 lo)).toArray:=by
 obtain ⟨h1,h2,h3⟩:=slice_bounds lo hi its.toArray.size
 unfold slicePick
 rw [h1,h2,h3]
 simp only [sliceRange_one,pick_run,List.size_toArray] <;> rfl
def rSlL (K:PySem.W.Frag):V→Option Int→Option Int→Hp→VK→Prop:=fun x lo hi H Q=>∃a xs,x = .ref a∧SqL K H a xs∧∀p,H p=none→Q (.ref p) (upd H p (.lst (cutV xs lo hi)))
theorem sl_list:SlR X (rSlL X.K):=by
 intro pins s σ H x v vl vu lo hi sl Q I rx hs pl pu h
 obtain ⟨a,xs,rfl,hx,q⟩:=h
 cases rx
 obtain ⟨its,r,ht,hz⟩:=I.list hx
 have hlen:=r.length
 refine ⟨"list",_,slot_list_getitem.lookup,ht.isList.typeIs,?_⟩
 refine wpAny_getItem_list_slice ht.isList hs pl pu .none (by simp) ?_ (by rw [List.size_toArray] <;> omega)
 rw [slicePick_cut,←hlen]
 refine ⟨.ref s.heap.objs.size,_,I.laid (t':=s.toks) (o:=.lst (cutV xs lo hi)) (fun b ob q=>Heap.get?_push_of_some _ q) (Nat.le_refl _) ?_,rfl,q _ (I.hok.fresh (Nat.le_refl _))⟩
 exact ⟨Nat.le_trans (cutV_length xs lo hi) hz,_,0,(r.drop (HT.sIx xs.length 0 lo)).take (HT.sIx xs.length xs.length hi - HT.sIx xs.length 0 lo),Heap.get?_push_size _ rfl⟩
def flatV:V→Bool
 | .non=>true
 | .bl _=>true
 | .int _=>true
 | .str _=>true
 | _=>false
def eqV:V→V→Bool
 | .non,.non=>true
 | .bl a,.bl b=>a == b
 | .bl a,.int b=>(if a then 1 else 0) == b
 | .int a,.bl b=>a == (if b then 1 else 0)
 | .int a,.int b=>a == b
 | .str a,.str b=>a == b
 | _,_=>false
theorem eqAt_V {A:Around} {s:Shared} {y x:V} {u v:Value} (ry:RelV y u) (rx:RelV x v) (fy:flatV y=true) (fx:flatV x=true):SeqAt.EqAt A s u v (eqV y x):=by
 cases y with
 | non=>
  cases ry
  cases x with
  | non=>cases rx;exact SeqAt.EqAt.same _
  | bl b=>cases rx;exact SeqAt.EqAt.none_bool b
  | int b=>obtain ⟨t,rfl⟩:=rx;exact SeqAt.EqAt.none_int b t
  | str b=>obtain ⟨t,rfl⟩:=rx;exact SeqAt.EqAt.none_str b t
  | _=>exact absurd (show false=true from fx) Bool.false_ne_true
 | bl a=>
  cases ry
  cases x with
  | non=>cases rx;exact SeqAt.EqAt.bool_none a
  | bl b=>cases rx;exact SeqAt.EqAt.bool_bool a b
  | int b=>obtain ⟨t,rfl⟩:=rx;exact SeqAt.EqAt.bool_int a b t
  | str b=>obtain ⟨t,rfl⟩:=rx;exact SeqAt.EqAt.bool_str a b t
  | _=>exact absurd (show false=true from fx) Bool.false_ne_true
 | int a=>
  obtain ⟨t',rfl⟩:=ry
  cases x with
  | non=>cases rx;exact SeqAt.EqAt.int_none a t'
  | bl b=>cases rx;exact SeqAt.EqAt.int_bool a t' b
  | int b=>obtain ⟨t,rfl⟩:=rx;exact SeqAt.EqAt.int_int a t' b t
  | str b=>obtain ⟨t,rfl⟩:=rx;exact SeqAt.EqAt.int_str a t' b t
  | _=>exact absurd (show false=true from fx) Bool.false_ne_true
 | str a=>
  obtain ⟨t',rfl⟩:=ry
  cases x with
  | non=>cases rx;exact SeqAt.EqAt.str_none a t'
  | bl b=>cases rx;exact SeqAt.EqAt.str_bool a t' b
  | int b=>obtain ⟨t,rfl⟩:=rx;exact SeqAt.EqAt.str_int a t' b t
  | str b=>obtain ⟨t,rfl⟩:=rx;exact SeqAt.EqAt.str_str a t' b t
  | _=>exact absurd (show false=true from fx) Bool.false_ne_true
 | _=>exact absurd (show false=true from fy) Bool.false_ne_true
def eqU (x:V) (u:Value):Bool:=match u with
 | .none=>eqV .non x
 | .bool b=>eqV (.bl b) x
 | .int i _=>eqV (.int i) x
 | .str z _=>eqV (.str z) x
 | _=>false
theorem eqU_of {x y:V} {u:Value} (r:RelV y u) (f:flatV y=true):eqU x u=eqV y x:=by
 cases y with
 | non=>cases r;rfl
 | bl b=>cases r;rfl
 | int i=>obtain ⟨t,rfl⟩:=r;rfl
 | str z=>obtain ⟨t,rfl⟩:=r;rfl
 | _=>exact absurd (show false=true from f) Bool.false_ne_true
theorem any_eqU {x:V}:∀{xs:List V} {us:List Value},Vals xs us→xs.all flatV=true→us.any (eqU x)=xs.any fun y=>eqV y x
 | _,_,.nil,_=>rfl
 | y :: xs,u :: us,.cons r t,f=>by
  rw [List.all_cons,Bool.and_eq_true] at f
  rw [List.any_cons,List.any_cons,eqU_of r f.1,any_eqU t f.2]
theorem mem_eqAt {A:Around} {s:Shared} {x:V} {v:Value} (rx:RelV x v) (fx:flatV x=true):∀{xs:List V} {us:List Value},Vals xs us→xs.all flatV=true→∀u∈us,SeqAt.EqAt A s u v (eqU x u)
 | _,_,.nil,_=>fun u hu=>by cases hu
 | y :: xs,u :: us,.cons r t,f=>fun u' hu=>by
  rw [List.all_cons,Bool.and_eq_true] at f
  rcases List.mem_cons.mp hu with rfl | hu
  ·rw [eqU_of r f.1];exact eqAt_V r rx f.1 fx
  ·exact mem_eqAt rx fx t f.2 u' hu
def inV (x:V) (xs:List V):Bool:=xs.any fun y=>eqV y x
def rIn (K:PySem.W.Frag) (neg:Bool):R2:=fun x y H Q=>∃p xs,y = .ref p∧(SqL K H p xs∨SqT K H p xs)∧flatV x=true∧xs.all flatV=true∧Q (.bl (if neg then !inV x xs else inV x xs)) H
theorem op_in_seq:OpR X (compareOp .In) (rIn X.K false):=by
 intro pins s σ H x y v u Q I rx ry h
 obtain ⟨p,xs,rfl,hq,fx,fs,q⟩:=h
 cases ry
 rcases hq with hq | hq
 ·obtain ⟨its,r,pl,hz⟩:=I.list hq
  refine SeqAt.in_listAt (eqU x) pl.isList (fun w hw=>mem_eqAt rx fx r fs w (by simpa using hw)) ⟨.bl _,H,I,rfl,?_⟩
  rw [show its.toArray.any (eqU x)=its.any (eqU x) by simp,any_eqU r fs]
  exact q
 ·obtain ⟨its,r,pl,hz⟩:=I.tuple hq
  refine SeqAt.in_tupleAt (eqU x) pl (fun w hw=>mem_eqAt rx fx r fs w (by simpa using hw)) ⟨.bl _,H,I,rfl,?_⟩
  rw [show its.toArray.any (eqU x)=its.any (eqU x) by simp,any_eqU r fs]
  exact q
theorem op_notIn_seq:OpR X (compareOp .NotIn) (rIn X.K true):=by
 intro pins s σ H x y v u Q I rx ry h
 obtain ⟨p,xs,rfl,hq,fx,fs,q⟩:=h
 cases ry
 rcases hq with hq | hq
 ·obtain ⟨its,r,pl,hz⟩:=I.list hq
  refine SeqAt.notIn_listAt (eqU x) pl.isList (fun w hw=>mem_eqAt rx fx r fs w (by simpa using hw)) ⟨.bl _,H,I,rfl,?_⟩
  rw [show its.toArray.any (eqU x)=its.any (eqU x) by simp,any_eqU r fs]
  exact q
 ·obtain ⟨its,r,pl,hz⟩:=I.tuple hq
  refine SeqAt.notIn_tupleAt (eqU x) pl (fun w hw=>mem_eqAt rx fx r fs w (by simpa using hw)) ⟨.bl _,H,I,rfl,?_⟩
  rw [show its.toArray.any (eqU x)=its.any (eqU x) by simp,any_eqU r fs]
  exact q
theorem call_len_seq:CallR X (.builtin "len") (fun xs H Q=>∃p ys,xs=[.ref p]∧(SqL X.K H p ys∨SqT X.K H p ys)∧Q (.int ys.length) H):=by
 intro pins s σ H xs us Q I r h
 obtain ⟨p,ys,rfl,hq,q⟩:=h
 obtain ⟨u,rfl,rx⟩:=vals1 r
 cases rx
 have hn:=line63
 rcases hq with hq | hq
 ·obtain ⟨its,r',pl,hz⟩:=I.list hq
  have hlen:=r'.length
  exact Calls.call_len_list pl.isList (by simp only [List.size_toArray] <;> omega) ⟨.int ys.length,H,I.tok _,⟨s.toks + 1,by rw [List.size_toArray,hlen]⟩,q⟩
 ·obtain ⟨its,r',pl,hz⟩:=I.tuple hq
  have hlen:=r'.length
  exact len_tuple pl (by simp only [List.size_toArray] <;> omega) ⟨.int ys.length,H,I.tok _,⟨s.toks + 1,by rw [List.size_toArray,hlen]⟩,q⟩
theorem call_len_str:CallR X (.builtin "len") (fun xs H Q=>∃z,xs=[.str z]∧z.length≤sizeLine∧Q (.int z.length) H):=by
 intro pins s σ H xs us Q I r h
 obtain ⟨z,rfl,hz,q⟩:=h
 obtain ⟨u,rfl,t,rfl⟩:=vals1 r
 have hn:=line63
 exact len_str (by omega) ⟨.int z.length,H,I.tok _,⟨_,rfl⟩,q⟩
theorem call_list_of:CallR X (.type "list") (fun xs H Q=>∃p ys,xs=[.ref p]∧(SqL X.K H p ys∨SqT X.K H p ys)∧∀l,H l=none→Q (.ref l) (upd H l (.lst ys))):=by
 intro pins s σ H xs us Q I r h
 obtain ⟨p,ys,rfl,hq,q⟩:=h
 obtain ⟨u,rfl,rx⟩:=vals1 r
 cases rx
 have fin:∀(its:List Value),Vals ys its→ys.length≤sizeLine→∀(h':Heap) (c':Nat),(∀b o',s.heap.get? b=some o'→h'.get? b=some o')→
   h'.get? s.heap.objs.size=some { cls:=.type "list",dict:=none,data:=.seq its.toArray c',slots:=#[] }→EP X pins σ Q (.ref s.heap.objs.size) { s with heap:=h' }:=fun its r' hz h' c' kp e=>
  ⟨.ref s.heap.objs.size,_,I.laid (t':=s.toks) kp (Nat.le_refl _) (show ObjOk X.prog X.w _ h' _ (.lst ys) from ⟨hz,its,c',r',e⟩),rfl,q _ (I.hok.fresh (Nat.le_refl _))⟩
 rcases hq with hq | hq
 ·obtain ⟨its,r',pl,hz⟩:=I.list hq
  have hlen:=r'.length
  obtain ⟨o,ho,hc,n,hd⟩:=pl.isList
  exact call_list_seq p (.inl rfl) ho hc hd (fun h' c' kp e=>fin its r' hz h' c' kp e) (by simp only [List.size_toArray] <;> omega)
 ·obtain ⟨its,r',pl,hz⟩:=I.tuple hq
  have hlen:=r'.length
  obtain ⟨o,ho,hc,n,hd⟩:=pl
  exact call_list_seq p (.inr rfl) ho hc hd (fun h' c' kp e=>fin its r' hz h' c' kp e) (by simp only [List.size_toArray] <;> omega)
theorem call_tuple_of:CallR X (.type "tuple") (fun xs H Q=>∃p ys,xs=[.ref p]∧((SqL X.K H p ys∧∀l,H l=none→Q (.ref l) (upd H l (.tup ys)))∨(SqT X.K H p ys∧Q (.ref p) H))):=by
 intro pins s σ H xs us Q I r h
 obtain ⟨p,ys,rfl,h⟩:=h
 obtain ⟨u,rfl,rx⟩:=vals1 r
 cases rx
 rcases h with ⟨hq,q⟩ | ⟨hq,q⟩
 ·obtain ⟨its,r',pl,hz⟩:=I.list hq
  have hlen:=r'.length
  refine call_tuple_list pl.isList (fun h' kp=>?_) (by simp only [List.size_toArray] <;> omega)
  have I1:Inv X pins σ H { s with heap:=h' }:=I.kept (t':=s.toks) kp
  have I2:Inv X pins σ (upd H h'.objs.size (.tup ys)) { s with heap:=h'.push { cls:=.type "tuple",data:=.seq its.toArray } }:=
   I1.laid (t':=s.toks) (fun b o e=>Heap.get?_push_of_some _ e) (Nat.le_refl _) (show ObjOk X.prog X.w _ _ _ (.tup ys) from ⟨hz,its,r',IsTup.new _ _⟩)
  exact ⟨.ref h'.objs.size,_,I2,rfl,q _ (I1.hok.fresh (Nat.le_refl _))⟩
 ·obtain ⟨its,r',pl,hz⟩:=I.tuple hq
  exact call_tuple_same pl ⟨.ref p,H,I,rfl,q⟩
def tyV (K:PySem.W.Frag) (T:String) (x:V) (H:Hp):Prop:=match x with
 | .str _=>T="str"
 | .int _=>T="int"
 | .ref p=>(T="list"∧∃xs,SqL K H p xs)∨(T="tuple"∧∃o,K.lookup p=some o∧o.cls = .type "tuple"∧o.dict=none)∨
   (T="dict"∧((∃kvs,H p=some (.dK kvs))∨∃kvs,H p=some (.dT kvs)))∨(T="set"∧∃S n,H p=some (.set S n))
 | _=>False
theorem tyV_is {pins:List (Addr×Obj)} {σ:St} {H:Hp} {s:Shared} {T:String} {x:V} {v:Value} (I:Inv X pins σ H s) (r:RelV x v) (ty:tyV X.K T x H) :
  s.TypeIs v T∧∀a,v = .ref a→∃ob,s.heap.get? a=some ob∧ob.dict=none:=by
 cases x with
 | str z=>
  obtain ⟨t,rfl⟩:=r
  cases (show T="str" from ty)
  exact ⟨typeIs_str s z t,fun _ e=>nomatch e⟩
 | int i=>
  obtain ⟨t,rfl⟩:=r
  cases (show T="int" from ty)
  exact ⟨typeIs_int s i t,fun _ e=>nomatch e⟩
 | ref p=>
  cases r
  rcases ty with ⟨rfl,xs,hq⟩ | ⟨rfl,o,hk,hc,hd⟩ | ⟨rfl,hk⟩ | ⟨rfl,S,n,hk⟩
  ·obtain ⟨its,_,pl,_⟩:=I.list hq
   refine ⟨pl.isList.typeIs,fun a e=>?_⟩
   cases e
   obtain ⟨o,n,e,c,hd,_⟩:=pl
   exact ⟨o,e,hd⟩
  ·refine ⟨⟨o,I.kIn p o hk,hc⟩,fun a e=>?_⟩
   cases e
   exact ⟨o,I.kIn _ o hk,hd⟩
  ·have z:∃o,s.heap.get? p=some o∧o.ExactDict:=by
    rcases hk with ⟨kvs,hk⟩ | ⟨kvs,hk⟩
    ·obtain ⟨_,_,_,_,o,_,_,e,ex,_⟩:=I.hok p _ hk
     exact ⟨o,e,ex⟩
    ·obtain ⟨_,_,_,_,o,_,_,e,ex,_⟩:=I.hok p _ hk
     exact ⟨o,e,ex⟩
   obtain ⟨o,e,ex⟩:=z
   refine ⟨⟨o,e,ex.1⟩,fun a e2=>?_⟩
   cases e2
   exact ⟨o,e,ex.2.1⟩
  ·obtain ⟨o,_,_,_,e,ex,_⟩:=I.hok p _ hk
   refine ⟨⟨o,e,ex.1⟩,fun a e2=>?_⟩
   cases e2
   exact ⟨o,e,ex.2.1⟩
 | _=>exact False.elim ty
def tBM (K:PySem.W.Frag) (T:String) (r:V→List V→Hp→VK→Prop) (to:TE) (t:TA):TE:=fun σ H Q=>to σ H fun x H1=>tyV K T x H1∧t σ H1 fun xs H2=>r x xs H2 Q
variable {o e:Expr} {es:List Expr} {to:TE} {t:TA} {name:Str} {apos cpos:Pos} {T id:String} {r:V→List V→Hp→VK→Prop}
theorem pe_bm (pa:PlainAttrs T) (slot:Slot T name id) (hty:typeOf (.builtin id)=pure (.type "method_descriptor")) (hm:MtR X id r) (ho:PE X o to) (ha:PA X (e :: es) t)
  (hbase:attributeBase o name X.env (eval o X.env)=eval o X.env:=by rfl)
  (hfew:((backTo cpos (starEach (e :: es) X.env)).all (fun x=>!x.1) && (backToKw cpos (keywordEach [] X.env)).all (fun x=>x.1.isSome)
   && decide ((e :: es).length + ([]:List Keyword).length + (if ([]:List Keyword).isEmpty then 0 else 1) < 30))=true:=by rfl)
  (hline:(apos.endLine == cpos.line)=true:=by rfl) (hs:starEach (e :: es) X.env=(false,eval e X.env) :: starEach es X.env:=by rfl) (hplain:(backTo cpos (starEach es X.env)).any (·.1)=false:=by rfl) :
  PE X (.Call (.Attribute o name apos) (e :: es) [] cpos) (tBM X.K T r to t):=by
 intro pins s σ H Q I h
 refine wpAny_Call_method_late hbase hfew hline rfl (thn (ho pins s σ H _ I h) fun v s1 zz0=>?_)
 obtain ⟨x,H1,I1,r1,ty,q1⟩:=zz0
 obtain ⟨h1,h2⟩:=tyV_is I1 r1 ty
 refine ⟨T,id,pa,slot,hty,h1,h2,?_⟩
 have hA:=ha cpos pins s1 σ H1 _ I1 q1
 rw [hs] at hA ⊢
 refine Calls.callWith_builtin (by show (false || (backTo cpos (starEach es X.env)).any (·.1))=false;rw [hplain] <;> rfl) (Calls.evalArgs_plain ?_)
 exact thn hA fun us s2 ⟨vs,H2,I2,r2,q2⟩=>hm pins s2 σ H2 x vs v us Q I2 r1 r2 q2
end
end L2
namespace L2
open PySem PySem.Spec PyProof.Rows
def MtM (X:Cx) (id:String) (r:V→List V→Hp→VK→Prop):Prop:=
 ∀(pins:List (Addr×Obj)) (s:Shared) (σ:St) (H:Hp) (x:V) (xs:List V) (v:Value) (us:List Value) (Q:VK),Inv X pins σ H s→RelV x v→Vals xs us→r x xs H Q→
  wpAny (model X.prog X.w) X.A (call (.builtin id) (v :: us)) (EP X pins σ Q) X.xe s
theorem Vals.one:∀{x:V} {us:List Value},Vals [x] us→∃u,us=[u]∧RelV x u
 | _,_,.cons r .nil=>⟨_,rfl,r⟩
section
variable {X:Cx} {pins:List (Addr×Obj)} {σ:St} {H:Hp} {s:Shared} {l b:Addr} {xs ys zs:List V}
theorem Inv.lset {its its':List Value} {n:Nat} {f:Array Value→Array Value} {t':Nat} (I:Inv X pins σ H s) (hH:H l=some (.lst xs))
  (e:s.heap.get? l=some { cls:=.type "list",data:=.seq its.toArray n }) (hf:f its.toArray=its'.toArray) (hv:Vals ys its') (hz:ys.length≤sizeLine) :
  Inv X pins σ (upd H l (.lst ys)) { s with heap:=s.heap.update l (Obj.mapSeq f),toks:=t' }:=by
 have q:=PySem.IsL.update e f
 rw [hf] at q
 refine I.write (x:=l) (e:=l) (by rw [hH];exact trivial) (.inl rfl) (fun b' u hb hu=>(Heap.get?_update_other s.heap (Obj.mapSeq f) (Ne.symm hb)).trans hu) ⟨_,q⟩ ?_
 exact ⟨hz,its',_,hv,q⟩
theorem Inv.lnew {its:List Value} {t':Nat} (I:Inv X pins σ H s) (hv:Vals ys its) (hz:ys.length≤sizeLine) :
  Inv X pins σ (upd H s.heap.objs.size (.lst ys)) { s with heap:=s.heap.push { cls:=.type "list",data:=.seq its.toArray },toks:=t' }:=
 I.laid (fun _ _ q=>Heap.get?_push_of_some _ q) (Nat.le_refl _) ⟨hz,its,0,hv,Heap.get?_push_size _ rfl⟩
theorem Inv.fresh (I:Inv X pins σ H s):H s.heap.objs.size=none:=I.hok.fresh (Nat.le_refl _)
theorem Inv.lstM (I:Inv X pins σ H s) (hH:H l=some (.lst xs)):xs.length≤sizeLine∧∃(its:List Value) (n:Nat),Vals xs its∧xs.length=its.length∧s.heap.get? l=some { cls:=.type "list",data:=.seq its.toArray n }:=by
 obtain ⟨z,its,n,r,e⟩:=I.hok l _ hH
 exact ⟨z,its,n,r,r.length,e⟩
end
section
variable {X:Cx}
def rAppend:V→List V→Hp→VK→Prop:=fun x vs H Q=>∃l xs y,x = .ref l∧vs=[y]∧H l=some (.lst xs)∧xs.length < sizeLine∧Q .non (upd H l (.lst (xs ++ [y])))
theorem mt_append:MtM X "list.append" rAppend:=by
 intro pins s σ H x vs v us Q I rx rv h
 obtain ⟨l,xs,y,rfl,rfl,hH,hz,q⟩:=h
 cases rx
 obtain ⟨u,rfl,ru⟩:=rv.one
 obtain ⟨z,its,n,r,hl,e⟩:=I.lstM hH
 refine call_meets F.slot_list_append ⟨_,e,rfl⟩ F.entry_list_append (F.args_list_append_2 _ _) (PySem.list_append l its.toArray n u (by rw [List.size_toArray];omega)) ⟨e,?_⟩
 refine ⟨.non,_,I.lset (its':=its ++ [u]) hH e (by simp) (r.append (.cons ru .nil)) ?_,rfl,q⟩
 rw [List.length_append,List.length_singleton]
 omega
end
end L2
namespace Att
open PySem PySem.W PySem.Calls PyProof.Rows
theorem ints_of_wellAll {P:Params} {h:Heap}:∀(ns:List Int) (vs:List Value),WellAll P h vs (ns.map WData.int)→IntsAre vs ns:=by
 intro ns
 induction ns with
 | nil=>
  intro vs w
  rw [List.map_nil] at w
  cases w
  exact .nil
 | cons n ns ih=>
  intro vs w
  rw [List.map_cons] at w
  cases w with
  | cons a b=>
   cases a
   exact .cons _ _ (ih _ b)
theorem script_of {l:OpenLaw} {n:Nat} (hn:l.most=some n) {P:Params} {h:Heap} {args:List WData} {vals:List Value}
  (hpre:l.row.toRowW.claim.pre args=true) (hwl:WellAll P h vals args) :
  ∃a vs ns,vals=[Value.ref a]∧args=[WData.list (ns.map WData.int)]∧h.get? a=some { cls:=.type "list",data:=.seq vs.toArray }∧IntsAre vs ns∧ns.length≤n:=by
 have hsh:WShape.hasAll [] args [.list .int]=true:=(pre_splitW hpre).1
 have hc:l.pre.holds [] { args:=args }=true:=(pre_splitW hpre).2
 obtain ⟨d,r,rfl,h1,h2⟩:=hasAllW_cons hsh
 obtain rfl:=hasAllW_nil h2
 obtain ⟨xs,rfl,h3⟩:=hasW_list h1
 obtain ⟨ns,rfl⟩:=items_int h3
 have hlen:ns.length≤n:=by
  unfold OpenLaw.pre at hc
  have h4:(WTm.not (.lt (.lit (.int (n:Int))) (.len (.arg 0)))).holds [] { args:=[.list (ns.map .int)] }=true:=by
   have h4:=(holds_andW hc).1
   rw [hn] at h4
   exact h4
  have h5:=condW_of h4 (w_not (w_lt w_lit (w_len_list (w_arg rfl))))
  rw [List.length_map] at h5
  refine Nat.le_of_not_lt fun q=>?_
  have q':(n:Int) < ((ns.length:Nat):Int):=by omega
  first
   | (rw [decide_eq_true q'] at h5;exact absurd h5 (by decide))
   | (simp at h5;omega)
 cases hwl with
 | cons w1 w2=>
  cases w2
  cases w1 with
  | list ho hall=>exact ⟨_,_,ns,rfl,rfl,ho,ints_of_wellAll ns _ hall,hlen⟩
theorem post_true (l:OpenLaw) (args:List WData):l.row.toRowW.claim.post args (.bool true) args=true:=
 postW_of (r:=l.row.toRowW) (X:=(true == true))
  (show WShape.has [] (.bool true) .bool=true by first | rfl | decide | simp [WShape.has,WShape.arms,WShape.armsAll])
  (show (WTm.eq .res (.lit (.bool true))).value [] { args:=args,res:=some (.bool true),after:=args }=some (.bool (true == true)) from w_eq_bool (w_res rfl) w_lit) rfl
theorem attach_call {l:OpenLaw} {n:Nat} {q:Program} {loose:List Str} {XP:(Str→Option Value)→Heap→Prop} {YP:World→Heap→Prop} {d:DefRec}
  (hn:l.most=some n) (hdf:d.params.defaults=[])
  (call:∀(w:World) (s₀ s₁:Shared) (mg mb:Str→Option Value) (fa:Addr) (o:Obj) (pm cd doc:Value) (a:Addr) (vs:List Value) (ns:List Int),
   Ground q loose [] XP w s₀ mg mb s₁.heap→YP w s₁.heap→
   s₁.heap.get? fa=some o→o.data = .func (docDef d.name d.params d.body d.scope pm cd doc)→s₁.heap.CodeRec cd d.name→mg d.name=some (.ref fa)→
   s₁.heap.get? a=some { cls:=.type "list",data:=.seq vs.toArray }→IntsAre vs ns→ns.length≤n→s₁.gens=#[]→
   codeAny (model l.prog w) callerA (.call (.ref fa) ⟨[.ref a],[]⟩) (fun r s'=>r = .ok (.ret (.bool true))∧OldK s₁.heap s'.heap∧s'.os=s₁.os∧AllBare s'.gens) s₁) :
  WalkO q loose XP YP l.row.toRowW d [] (fun f vs=>PySem.call f vs):=by
 intro w s₀ s₁ mg mb G Y fa o pm cd doc dV kV ho hd hcd hD hmg hg args vals as hpre hlay hrd hwl hlo
 obtain rfl:dV = .none:=Dflts.none hD hdf
 obtain rfl:kV = .none:=Dflts.noKw hD
 obtain ⟨a,vs,ns,rfl,rfl,hobj,hints,hlen⟩:=script_of hn hpre hwl
 refine enter_call (codeAny_mono (call w s₀ s₁ mg mb fa o pm cd doc a vs ns G Y ho (fd_plain hd) hcd hmg hobj hints hlen hg) fun r s' hq=>?_)
 obtain ⟨rfl,h2,h3,h4⟩:=hq
 exact ⟨.inl ⟨.bool true,.bool true,[],rfl,fun _=>rfl,.bool true,post_true l _,fun _=>⟨List.Pairwise.nil,fun _ hm=>(nomatch hm)⟩⟩,h2,h3,h4⟩
end Att
namespace L2
open PySem PySem.Spec PyProof.Rows
theorem vals_ints:∀{vs:List Value} {ns:List Int},IntsAre vs ns→Vals (ns.map V.int) vs
 | _,_,.nil=>.nil
 | _,_,.cons n t h=>.cons ⟨t,rfl⟩ (vals_ints h)
end L2
namespace L2
open PySem PySem.Spec PyProof.Rows
abbrev KOf {K:PySem.W.Frag} {h:Heap} (_:K.In h):PySem.W.Frag:=K
end L2
namespace L2
open PySem PySem.Spec PyProof.Rows
def defArgs (s:Stmt):Arguments:=match s with
 | .FunctionDef _ a _ _ _ _ _ _ _ _=>a
 | _=>{ posonlyargs:=[],args:=[],vararg:=none,kwonlyargs:=[],kw_defaults:=[],kwarg:=none,defaults:=[] }
def defBody (s:Stmt):List Stmt:=match s with
 | .FunctionDef _ _ b _ _ _ _ _ _ _=>b
 | _=>[]
def defScope (s:Stmt):Scope:=match s with
 | .FunctionDef _ _ _ _ _ _ sc _ _ _=>sc
 | _=>{ kind:=.function,names:=[],isGenerator:=false,isCoroutine:=false }
abbrev CX0:CXT:=fun _ _ _ _ _ _=>False
abbrev E0:XK:=fun _ _ _=>False
theorem pass0 {X:Cx}:Passes CX0 X E0:=fun _ _ _ _ _ _ _ h=>h.elim
structure Fun (K:PySem.W.Frag) (x qual:Str) (st:Stmt) (f:Addr) (fd:FuncData):Prop where
 ex:∃(oc:Value) (od:Option Addr) (kV doc pm:Value) (an:Option Addr) (cdv ct:Value) (osl:Array (Option Value)),
  fd=PySem.W.fnOf x qual (defArgs st) (defBody st) (defScope st) .none kV doc pm an cdv ct∧K.lookup f=some ⟨oc,od,.func fd,osl⟩∧PySem.W.codeIn K cdv qual=true
 kp:PySem.W.keepIn K (.ref f)=true
section
variable {P:Program} {w:World} {K:PySem.W.Frag} {mg:Str→Option Value} {base:Heap}
theorem Fun.ok {x qual:Str} {st:Stmt} {f:Addr} {fd:FuncData} {N ps:List Str} {k:Nat} {sp:Sp} (F:Fun K x qual st f fd) (S:FnScope N ps (defScope st)) (len:∀vs H Q E,sp vs H Q E→vs.length=ps.length)
  (hbody:∀(cdv:Value) (A:Around) (outer:List Env) (s:Shared) (H:Hp) (vs:List V) (Q:VK) (E:XK),Room k (A.deeper (envOfC qual (defScope st) s.heap.objs.size f cdv))→sp vs H Q E→
   ∃t,PSs (cxOf CX0 P w K mg base N qual (defScope st) f cdv A outer s H E).nox (defBody st) t∧t { nx:=fun _ H'=>Q .non H',rt:=Q } (start N vs) H):FnOk P w K mg base CX0 (k + 1) f fd ps sp:=by
 obtain ⟨oc,od,kV,doc,pm,an,cdv,ct,osl,rfl,lk,hcd⟩:=F.ex
 refine fn_of lk hcd S len fun A outer s H vs Q E hr hsp=>?_
 obtain ⟨t,h,q⟩:=hbody cdv A outer s H vs Q E hr hsp
 exact ⟨t,h.nox,q⟩
theorem Fun.binds {x qual:Str} {st:Stmt} {f:Addr} {fd:FuncData} {ps:List Str} (F:Fun K x qual st f fd)
  (h:∀(kV doc pm:Value) (an:Option Addr) (cdv ct:Value) (us:List Value),us.length=ps.length→bindArgs (PySem.W.fnOf x qual (defArgs st) (defBody st) (defScope st) .none kV doc pm an cdv ct) ⟨us,[]⟩=pure (ps.zip us)):Binds K fd ps []:=by
 obtain ⟨oc,od,kV,doc,pm,an,cdv,ct,osl,rfl,lk,hcd⟩:=F.ex
 exact .all (h kV doc pm an cdv ct)
theorem fun_mk {x qual:Str} {st:Stmt} {f:Addr} {oc:Value} {od an:Option Addr} {osl:Array (Option Value)} {kV doc pm cdv ct:Value} (l:K.lookup f=some ⟨oc,od,.func (PySem.W.fnOf x qual (defArgs st) (defBody st) (defScope st) .none kV doc pm an cdv ct),osl⟩)
  (c:PySem.W.codeIn K cdv qual=true) (k:PySem.W.keepIn K (.ref f)=true):Fun K x qual st f (PySem.W.fnOf x qual (defArgs st) (defBody st) (defScope st) .none kV doc pm an cdv ct):=⟨⟨oc,od,kV,doc,pm,an,cdv,ct,osl,rfl,l,c⟩,k⟩
end
theorem small1000 {n:Nat} (h:n≤1000):n < sizeLine:=Nat.lt_of_le_of_lt h (by decide)
theorem iteF {A B:Prop} (h:B):if false=true then A else B:=by
 rw [if_neg Bool.false_ne_true]
 exact h
theorem iteT {A B:Prop} (h:A):if true=true then A else B:=by
 rw [if_pos rfl]
 exact h
end L2
set_option maxHeartbeats 4000000
namespace L2
open PySem PySem.Spec PyProof.Rows
section
variable {κ:Type} [DecidableEq κ]
def valV (kvs:List (κ×V)) (k:κ):Option V:=(kvs.find? fun kv=>decide (kv.1=k)).map (·.2)
def putK (kvs:List (κ×V)) (k:κ) (v:V):List (κ×V):=
 if (kvs.any fun kv=>decide (kv.1=k))=true then kvs.map (fun kv=>if kv.1=k then (kv.1,v) else kv) else kvs ++ [(k,v)]
def dropK (kvs:List (κ×V)) (k:κ):List (κ×V):=kvs.filter fun kv=>decide (kv.1≠k)
theorem valV_pos {p:κ×V} {r:List (κ×V)} {k:κ} (e:p.1=k):valV (p :: r) k=some p.2:=by simp [valV,List.find?_cons,e]
theorem valV_neg {p:κ×V} {r:List (κ×V)} {k:κ} (e:¬p.1=k):valV (p :: r) k=valV r k:=by simp [valV,List.find?_cons,e]
theorem valV_any (k:κ):∀kvs:List (κ×V),(kvs.any fun kv=>decide (kv.1=k))=(valV kvs k).isSome
 | []=>rfl
 | p :: r=>by
  rw [List.any_cons]
  by_cases e:p.1=k
  ·simp only [valV_pos e,decide_eq_true e,Bool.true_or,Option.isSome_some]
  ·rw [valV_neg e,decide_eq_false e,Bool.false_or];exact valV_any k r
theorem length_putK (kvs:List (κ×V)) (k:κ) (v:V):(putK kvs k v).length≤kvs.length + 1:=by
 unfold putK
 split
 ·rw [List.length_map];omega
 ·rw [List.length_append,List.length_cons,List.length_nil];omega
theorem RelO.isSome_eq {o:Option V} {u:Option Value} (r:RelO o u):o.isSome=u.isSome:=by
 cases o with
 | none=>cases u with
  | none=>rfl
  | some _=>exact (show False from r).elim
 | some _=>cases u with
  | none=>exact (show False from r).elim
  | some _=>rfl
theorem RelO.getD {o:Option V} {u:Option Value} {d:V} {d':Value} (r:RelO o u) (rd:RelV d d'):RelV (o.getD d) (u.getD d'):=by
 cases o with
 | none=>cases u with
  | none=>exact rd
  | some _=>exact (show False from r).elim
 | some _=>cases u with
  | none=>exact (show False from r).elim
  | some _=>exact r
theorem KV.val {kvs:List (κ×V)} {vs:List (κ×Value)} (r:KV kvs vs) (k:κ):RelO (valV kvs k) (valueAt vs k):=by
 unfold KV at r
 induction r with
 | nil=>exact True.intro
 | @cons p q ps qs h t ih=>
  obtain ⟨h1,h2⟩:=h
  by_cases e:p.1=k
  ·have e':q.1=k:=h1.symm.trans e
   have b:valueAt (q :: qs) k=some q.2:=by simp [valueAt,List.find?_cons,e']
   rw [valV_pos e,b];exact h2
  ·have e':¬q.1=k:=fun z=>e (h1.trans z)
   have b:valueAt (q :: qs) k=valueAt qs k:=by simp [valueAt,List.find?_cons,e']
   rw [valV_neg e,b];exact ih
theorem KV.any {kvs:List (κ×V)} {vs:List (κ×Value)} (r:KV kvs vs) (k:κ):(kvs.any fun kv=>decide (kv.1=k))=vs.any fun kv=>decide (kv.1=k):=by
 unfold KV at r
 induction r with
 | nil=>rfl
 | cons h t ih=>rw [List.any_cons,List.any_cons,ih,h.1]
theorem KV.repl {kvs:List (κ×V)} {vs:List (κ×Value)} (r:KV kvs vs) (k:κ) {y:V} {u:Value} (ry:RelV y u) :
  KV (kvs.map fun kv=>if kv.1=k then (kv.1,y) else kv) (vs.map fun kv=>if kv.1=k then (kv.1,u) else kv):=by
 unfold KV at r ⊢
 induction r with
 | nil=>exact .nil
 | @cons p q ps qs h t ih=>
  rw [List.map_cons,List.map_cons]
  refine .cons ?_ ih
  obtain ⟨h1,h2⟩:=h
  by_cases e:p.1=k
  ·rw [if_pos e,if_pos (h1.symm.trans e)];exact ⟨h1,ry⟩
  ·rw [if_neg e,if_neg (fun z=>e (h1.trans z))];exact ⟨h1,h2⟩
theorem KV.put {kvs:List (κ×V)} {vs:List (κ×Value)} (r:KV kvs vs) (k:κ) {y:V} {u:Value} (ry:RelV y u):KV (putK kvs k y) (stored vs k u):=by
 unfold putK stored
 rw [r.any k]
 by_cases e:(vs.any fun kv=>decide (kv.1=k))=true
 ·rw [if_pos e,if_pos e];exact r.repl k ry
 ·rw [if_neg e,if_neg e];exact Paired.snoc r ⟨rfl,ry⟩
theorem KV.drop {kvs:List (κ×V)} {vs:List (κ×Value)} (r:KV kvs vs) (k:κ):KV (dropK kvs k) (without vs k):=by
 unfold KV at r ⊢
 unfold dropK without
 induction r with
 | nil=>exact .nil
 | @cons p q ps qs h t ih=>
  obtain ⟨h1,h2⟩:=h
  rw [List.filter_cons,List.filter_cons]
  by_cases e:p.1=k
  ·have a:¬decide (p.1≠k)=true:=by simp [e]
   have b:¬decide (q.1≠k)=true:=by simp [h1.symm.trans e]
   rw [if_neg a,if_neg b];exact ih
  ·have e':¬q.1=k:=fun z=>e (h1.trans z)
   have a:decide (p.1≠k)=true:=by simp [e]
   have b:decide (q.1≠k)=true:=by simp [e']
   rw [if_pos a,if_pos b];exact .cons ⟨h1,h2⟩ ih
theorem KV.length {kvs:List (κ×V)} {vs:List (κ×Value)} (r:KV kvs vs):kvs.length=vs.length:=Paired.length r
theorem dropK_le (kvs:List (κ×V)) (k:κ):(dropK kvs k).length≤kvs.length:=List.length_filter_le _ _
end
theorem kV_is {P:Program} {w:World} {k:Key} {u:Value} (r:RelV (kV k) u):(mixKind P w).is k u=true:=by
 cases k with
 | inl i=>obtain ⟨t,e⟩:=(show ∃t,u=Value.int i t from r);subst e;exact mixKind_int P w i t
 | inr x=>obtain ⟨t,e⟩:=(show ∃t,u=Value.str x t from r);subst e;exact mixKind_str P w x t
theorem items_are {P:Program} {w:World}:∀{ks:List Key} {us:List Value},Vals (ks.map kV) us→ItemsAre (mixKind P w) ks us
 | [],_,r=>by rw [List.map_nil] at r;cases r;exact .nil
 | k :: ks,_,r=>by
  rw [List.map_cons] at r
  cases r with
  | cons h t=>exact .cons (kV_is h) (items_are t)
abbrev KT (H:Hp):List (List Key×V)→List (List Key×Addr×Value)→Prop:=Paired fun p q=>p.1=q.1∧H q.2.1=some (.tup (p.1.map kV))∧RelV p.2 q.2.2
theorem KT.val {H:Hp} {kvs:List (List Key×V)} {xs:List (List Key×Addr×Value)} (r:KT H kvs xs) (k:List Key):RelO (valV kvs k) ((atKey xs k).map (·.2)):=by
 induction r with
 | nil=>exact True.intro
 | @cons p q ps qs h t ih=>
  obtain ⟨h1,_,h2⟩:=h
  by_cases e:p.1=k
  ·have e':q.1=k:=h1.symm.trans e
   have b:atKey (q :: qs) k=some q.2:=by simp [atKey,List.find?_cons,e']
   rw [valV_pos e,b];exact h2
  ·have e':¬q.1=k:=fun z=>e (h1.trans z)
   have b:atKey (q :: qs) k=atKey qs k:=by simp [atKey,List.find?_cons,e']
   rw [valV_neg e,b];exact ih
theorem KT.repl {H:Hp} {kvs:List (List Key×V)} {xs:List (List Key×Addr×Value)} (r:KT H kvs xs) (k:List Key) {y:V} {u:Value} (ry:RelV y u) :
  KT H (kvs.map fun kv=>if kv.1=k then (kv.1,y) else kv) (xs.map (putAt k u)):=by
 induction r with
 | nil=>exact .nil
 | @cons p q ps qs h t ih=>
  rw [List.map_cons,List.map_cons]
  refine .cons ?_ ih
  obtain ⟨h1,h2,h3⟩:=h
  unfold putAt
  by_cases e:p.1=k
  ·rw [if_pos e,if_pos (h1.symm.trans e)];exact ⟨h1,h2,ry⟩
  ·rw [if_neg e,if_neg (fun z=>e (h1.trans z))];exact ⟨h1,h2,h3⟩
theorem KT.put {H:Hp} {kvs:List (List Key×V)} {xs:List (List Key×Addr×Value)} (r:KT H kvs xs) (k:List Key) {b:Addr} {y:V} {u:Value} (hb:H b=some (.tup (k.map kV))) (ry:RelV y u) :
  KT H (putK kvs k y) (storedH xs k b u):=by
 have e:(kvs.any fun kv=>decide (kv.1=k))=(atKey xs k).isSome:=by
  rw [valV_any,(r.val k).isSome_eq,Option.isSome_map]
 unfold putK storedH
 rw [e]
 by_cases q:(atKey xs k).isSome=true
 ·rw [if_pos q,if_pos q];exact r.repl k ry
 ·rw [if_neg q,if_neg q];exact Paired.snoc r ⟨rfl,hb,ry⟩
theorem KT.keeps {H H':Hp} {kvs:List (List Key×V)} {xs:List (List Key×Addr×Value)} (r:KT H kvs xs) (ht:∀b ys,H b=some (.tup ys)→H' b=some (.tup ys)):KT H' kvs xs:=
 Paired.mapP r fun _ _ z=>⟨z.1,ht _ _ z.2.1,z.2.2⟩
section
variable {P:Program} {w:World} {H:Hp} {h:Heap} {a:Addr}
theorem rd_of {u:HO} (ok:HOk P w H h) (e:Rd H a u):ObjOk P w H h a u:=e.ok ok
theorem dk_rd {kvs:List (Key×V)} (ok:HOk P w H h) (e:Rd H a (.dK kvs)):kvs.length≤sizeLine∧(a == sysModules)=false∧∃vs,KV kvs vs∧h.DictOf (mixKind P w) a vs:=
 show ObjOk P w H h a (.dK kvs) from rd_of ok e
theorem dk_of {kvs:List (Key×V)} (ok:HOk P w H h) (e:H a=some (.dK kvs)):kvs.length≤sizeLine∧(a == sysModules)=false∧∃vs,KV kvs vs∧h.DictOf (mixKind P w) a vs:=dk_rd ok (.inl e)
theorem key_of {ks:List Key} (ok:HOk P w H h) (e:H a=some (.tup (ks.map kV))):(tupleKind (mixKind P w)).is h ks a:=by
 obtain ⟨_,its,r,o,h1,h2,n,h3⟩:=(show ObjOk P w H h a (.tup (ks.map kV)) from ok a _ e)
 exact ⟨o,its.toArray,n,h1,h2,h3,by simpa using items_are r⟩
theorem dt_rd {kvs:List (List Key×V)} (ok:HOk P w H h) (e:Rd H a (.dT kvs)):kvs.length≤sizeLine∧(a == sysModules)=false∧
  ∃xs,KT H kvs xs∧h.DictOfH (tupleKind (mixKind P w)) a xs:=by
 obtain ⟨z,y,xs,r,o,es,ep,h1,h2,h3,h4,h5⟩:=(show ObjOk P w H h a (.dT kvs) from rd_of ok e)
 refine ⟨z,y,xs,r,o,es,ep,h1,h2,h3,h4,fun x hx=>?_,h5⟩
 have all:∀{l:List (List Key×V)} {m:List (List Key×Addr×Value)},KT H l m→∀x∈m,(tupleKind (mixKind P w)).is h x.1 x.2.1:=by
  intro l m q
  induction q with
  | nil=>intro x hx;exact nomatch hx
  | @cons p q ps qs hq t ih=>
   intro x hx
   rcases List.mem_cons.mp hx with e | hx
   ·subst e
    exact key_of ok (by rw [←hq.1];exact hq.2.1)
   ·exact ih x hx
 exact all r x hx
theorem dt_of {kvs:List (List Key×V)} (ok:HOk P w H h) (e:H a=some (.dT kvs)):kvs.length≤sizeLine∧(a == sysModules)=false∧
  ∃xs,KT H kvs xs∧h.DictOfH (tupleKind (mixKind P w)) a xs:=dt_rd ok (.inl e)
end
def DGet (H:Hp) (a:Addr) (y:V) (r:Option V):Prop:=
 (∃kvs k,Rd H a (.dK kvs)∧y=kV k∧r=valV kvs k)∨∃kvs k b,Rd H a (.dT kvs)∧y = .ref b∧H b=some (.tup (k.map kV))∧r=valV kvs k
def DPut (H:Hp) (a:Addr) (y v:V) (H':Hp):Prop:=
 (∃kvs k,H a=some (.dK kvs)∧y=kV k∧kvs.length < sizeLine∧H'=upd H a (.dK (putK kvs k v)))∨
 ∃kvs k b,H a=some (.dT kvs)∧y = .ref b∧H b=some (.tup (k.map kV))∧kvs.length < sizeLine∧H'=upd H a (.dT (putK kvs k v))
theorem DPut.k {H:Hp} {a:Addr} {kvs:List (Key×V)} {k:Key} {v:V} (e:H a=some (.dK kvs)) (hl:kvs.length < sizeLine):DPut H a (kV k) v (upd H a (.dK (putK kvs k v))):=.inl ⟨kvs,k,e,rfl,hl,rfl⟩
section
variable {X:Cx} {pins:List (Addr×Obj)} {σ:St} {H:Hp} {s:Shared} {a:Addr} {y v:V} {u r:Value} {o:Option V} {A:Around} {E:Value→Shared→Prop}
theorem Inv.big (I:Inv X pins σ H s):sysModules < s.heap.objs.size:=by
 have h:mainGlobals < s.heap.objs.size:=(I.mod.glob.keeps I.bk).lt
 exact Nat.lt_trans (by decide) h
theorem d_getItem {Q:Value→Shared→Prop} (hu:A.units + 1 < cLine) (I:Inv X pins σ H s) (g:DGet H a y (some v)) (ry:RelV y u) (h:∀w' s',Inv X pins σ H s'→RelV v w'→Q w' s') :
  wpAny (model X.prog X.w) A (getItem (.ref a) u) Q E s:=by
 rcases g with ⟨kvs,k,e,ey,l⟩ | ⟨kvs,k,b,e,ey,eb,l⟩
 ·subst ey
  obtain ⟨z,hd,vs,rel,dd⟩:=dk_rd I.hok e
  obtain ⟨w',hw,rw'⟩:=RelO.some_of (v:=v) (o:=valueAt vs k) (by rw [l];exact rel.val k)
  exact wpAny_getItem_of (kV_is ry) dd.mapOf hw (h w' _ (I.tok _) rw')
 ·subst ey
  cases (show u=Value.ref b from ry)
  obtain ⟨z,hd,xs,rel,dd⟩:=dt_rd I.hok e
  obtain ⟨w',hw,rw'⟩:=RelO.some_of (v:=v) (o:=(atKey xs k).map (·.2)) (by rw [l];exact rel.val k)
  obtain ⟨p,hp,hp2⟩:=Option.map_eq_some_iff.mp hw
  refine wpAny_getItem_heap (tupleKind_room_in1 hu) (key_of I.hok eb) dd hp ?_
  rw [hp2]
  exact h w' _ (I.tok _) rw'
theorem d_write {h':Heap} {t':Nat} {ob:HO} (I:Inv X pins σ H s) (mu:Mut (H a)) (hs:Heap.SameBut a s.heap h') (he:∃q,h'.get? a=some q) (new:ObjOk X.prog X.w (upd H a ob) h' a ob) :
  Inv X pins σ (upd H a ob) { s with heap:=h',toks:=t' }:=
 I.write (x:=a) (e:=a) mu (.inl rfl) (fun b q hb z=>(hs.2 b hb).trans z) he new
theorem dk_new {P:Program} {w:World} {H':Hp} {h':Heap} {kvs:List (Key×V)} {vs:List (Key×Value)} (z:kvs.length≤sizeLine) (hd:(a == sysModules)=false) (rel:KV kvs vs) (dd:h'.DictOf (mixKind P w) a vs) :
  ObjOk P w H' h' a (.dK kvs):=⟨z,hd,vs,rel,dd⟩
theorem d_setItem {H':Hp} {Q:Unit→Shared→Prop} (hu:A.units + 1 < cLine) (I:Inv X pins σ H s) (g:DPut H a y v H') (ry:RelV y u) (rv:RelV v r) (h:∀s',Inv X pins σ H' s'→Q () s') :
  wpAny (model X.prog X.w) A (setItem (.ref a) u r) Q E s:=by
 rcases g with ⟨kvs,k,e,ey,l,eH⟩ | ⟨kvs,k,b,e,ey,eb,l,eH⟩
 ·subst ey eH
  obtain ⟨z,hd,vs,rel,dd⟩:=dk_of I.hok e
  have hz:vs.length≤sizeLine:=by rw [←rel.length];exact z
  have hl:(putK kvs k v).length≤sizeLine:=by have:=length_putK kvs k v;omega
  refine wpAny_setItem_pairs (hsz:=hz) (kV_is ry) dd fun h' dd' hs=>h _ ?_
  have he:∃q,h'.get? a=some q:=let ⟨q,_,_,hq,_⟩:=dd';⟨q,hq⟩
  exact d_write I (by rw [e];exact True.intro) hs he (dk_new hl hd (rel.put k rv) dd')
 ·subst ey eH
  cases (show u=Value.ref b from ry)
  obtain ⟨z,hd,xs,rel,dd⟩:=dt_of I.hok e
  have hz:xs.length≤sizeLine:=by rw [←Paired.length rel];exact z
  have hl:(putK kvs k v).length≤sizeLine:=by have:=length_putK kvs k v;omega
  refine wpAny_setItem_heap (hsz:=hz) (tupleKind_room_in1 hu) (key_of I.hok eb) dd fun h' dd' hs=>h _ ?_
  obtain ⟨q,es,ep,hq,h2,h3,h4,_,h5⟩:=dd'
  refine d_write I (by rw [e];exact True.intro) hs ⟨q,hq⟩ ⟨hl,hd,_,(rel.put k eb rv).keeps fun c ys ec=>?_,q,es,ep,hq,h2,h3,h4,h5⟩
  rw [upd_ne (ne_of ec e (fun z=>nomatch z))]
  exact ec
end
section
variable {X:Cx} {pins:List (Addr×Obj)} {σ:St} {H:Hp} {s:Shared} {a:Addr} {kvs:List (Key×V)} {k:Key} {u:Value} {A:Around} {E:Value→Shared→Prop}
theorem d_delItem {Q:Unit→Shared→Prop} (I:Inv X pins σ H s) (e:H a=some (.dK kvs)) (ry:RelV (kV k) u) (l:(valV kvs k).isSome=true) (h:∀s',Inv X pins σ (upd H a (.dK (dropK kvs k))) s'→Q () s') :
  wpAny (model X.prog X.w) A (delItem (.ref a) u) Q E s:=by
 obtain ⟨z,hd,vs,rel,dd⟩:=dk_of I.hok e
 refine wpAny_delItem_slot dd.typeIs (by decide) PySem.F.slot_dict_delitem
  (call_meetsIn PySem.F.slot_dict_delitem dd.typeIs PySem.F.entry_dict_delitem (PySem.F.args_dict_delitem_2 _ _) (meets_dict_delitem_pairs (mixKind X.prog X.w) a (kV_is ry)) ⟨vs,dd,by rw [←rel.length];exact z,by rw [←(rel.val k).isSome_eq];exact l,fun h' dd' hs=>h _ ?_⟩)
 have he:∃q,h'.get? a=some q:=let ⟨q,_,_,hq,_⟩:=dd';⟨q,hq⟩
 exact d_write I (by rw [e];exact True.intro) hs he (dk_new (Nat.le_trans (dropK_le kvs k) z) hd (rel.drop k) dd')
theorem d_pop {v:V} {more:List Value} {Q:Value→Shared→Prop} (I:Inv X pins σ H s) (e:H a=some (.dK kvs)) (ry:RelV (kV k) u) (l:valV kvs k=some v) (hm:more=[]∨∃x,more=[x])
  (h:∀w' s',Inv X pins σ (upd H a (.dK (dropK kvs k))) s'→RelV v w'→Q w' s'):wpAny (model X.prog X.w) A (call (.builtin "dict.pop") (.ref a :: u :: more)) Q E s:=by
 obtain ⟨z,hd,vs,rel,dd⟩:=dk_of I.hok e
 obtain ⟨w',hw,rw'⟩:=RelO.some_of (v:=v) (o:=valueAt vs k) (by rw [←l];exact rel.val k)
 have hp:(keyPart u).isSome=true:=by
  cases k with
  | inl i=>obtain ⟨t,q⟩:=(show ∃t,u=Value.int i t from ry);subst q;rfl
  | inr x=>obtain ⟨t,q⟩:=(show ∃t,u=Value.str x t from ry);subst q;rfl
 have ha:argsOk "dict.pop" ⟨.ref a :: u :: more,[]⟩:=by
  rcases hm with q | ⟨x,q⟩
  ·subst q;exact PySem.F.args_dict_pop_2 _ _
  ·subst q;exact PySem.F.args_dict_pop_3 _ _ _
 refine call_meetsIn PySem.F.slot_dict_pop dd.typeIs PySem.F.entry_dict_pop ha (meets_dict_pop_there (mixKind X.prog X.w) a (kV_is ry) more hm hp)
  ⟨vs,w',dd,by rw [←rel.length];exact z,hw,fun h' dd' hs=>h w' _ ?_ rw'⟩
 have he:∃q,h'.get? a=some q:=let ⟨q,_,_,hq,_⟩:=dd';⟨q,hq⟩
 exact d_write I (by rw [e];exact True.intro) hs he (dk_new (Nat.le_trans (dropK_le kvs k) z) hd (rel.drop k) dd')
theorem d_popD {r:Value} {Q:Value→Shared→Prop} (I:Inv X pins σ H s) (e:H a=some (.dK kvs)) (ry:RelV (kV k) u) (l:valV kvs k=none) (h:∀s',Inv X pins σ H s'→Q r s') :
  wpAny (model X.prog X.w) A (call (.builtin "dict.pop") [.ref a,u,r]) Q E s:=by
 obtain ⟨z,hd,vs,rel,dd⟩:=dk_of I.hok e
 have hn:valueAt vs k=none:=RelO.none_of (by rw [←l];exact rel.val k)
 have hp:(keyPart u).isSome=true:=by
  cases k with
  | inl i=>obtain ⟨t,q⟩:=(show ∃t,u=Value.int i t from ry);subst q;rfl
  | inr x=>obtain ⟨t,q⟩:=(show ∃t,u=Value.str x t from ry);subst q;rfl
 exact call_meetsIn PySem.F.slot_dict_pop dd.typeIs PySem.F.entry_dict_pop (PySem.F.args_dict_pop_3 _ _ _) (meets_dict_pop_default (mixKind X.prog X.w) a (kV_is ry) hd hp r) ⟨vs,dd,hn,h _ (I.tok _)⟩
end
def NoSl (i:Expr):Prop:=∀ov iv,subscripted i false ov iv=operate [ov,iv] (getItem ov iv)
theorem subD_of {prog:Program} {w:World} {A:Around} {E:Value→Shared→Prop} {s:Shared} {env:Env} {value slice:Expr} {pos:Pos} {T id:String} {Q:Value→Shared→Prop}
  (hl:typeLookup (.type T) "__getitem__"=pure (some (.builtin id))) (hs:NoSl slice)
  (h:wpAny (model prog w) A (eval value env) (fun o s₁=>wpAny (model prog w) A (eval slice env) (fun i s₂=>s₂.TypeIs o T∧wpAny (model prog w) A (getItem o i) Q E s₂) E s₁) E s) :
  wpAny (model prog w) A (eval (.Subscript value slice pos) env) Q E s:=by
 refine Subscript_ (wpAny_mono h (fun o s₁ h₁=>wpAny_mono h₁ (fun i s₂ h₂=>?_) fun _ _ x=>x) fun _ _ x=>x)
 obtain ⟨hT,h₂⟩:=h₂
 unfold subscriptTail
 refine wpAny_bind ?_
 rw [getitemInPython_of_ne hT.not_modules]
 refine wpAny_bind (wpAny_specialOf hT hl ?_)
 have fin:wpAny (model prog w) A (subscripted slice false o i) (fun r s₃=>wpAny (model prog w) A (letTemporaryGo value o r >>= fun _=>pure r) Q E s₃) E s₂:=by
  rw [hs o i]
  exact wpAny_operating (wpAny_mono h₂ (fun r s₃ h₃=>wpAny_bind (wpAny_letTemporaryGo (wpAny_pure h₃))) fun _ _ x=>x)
 first
  | exact wpAny_pure (wpAny_bind fin)
  | exact wpAny_bind (wpAny_pure (wpAny_bind fin))
  | exact wpAny_bind fin
theorem dict_typeIs {X:Cx} {pins:List (Addr×Obj)} {σ:St} {H:Hp} {s:Shared} {a:Addr} {y:V} {o:Option V} (I:Inv X pins σ H s) (g:DGet H a y o):s.TypeIs (.ref a) "dict":=by
 rcases g with ⟨kvs,k,e,_,_⟩ | ⟨kvs,k,b,e,_,_,_⟩
 ·obtain ⟨_,_,vs,_,dd⟩:=dk_rd I.hok e
  exact dd.typeIs
 ·obtain ⟨_,_,xs,_,dd⟩:=dt_rd I.hok e
  exact dd.typeIs
def tDGet (td ty:TE):TE:=fun σ H Q=>td σ H fun x H1=>ty σ H1 fun y H2=>∃a v,x = .ref a∧DGet H2 a y (some v)∧Q v H2
def sDPut (td ty tv:TE):TS:=fun D σ H=>tv σ H fun v H1=>td σ H1 fun x H2=>ty σ H2 fun y H3=>∃a H4,x = .ref a∧DPut H3 a y v H4∧D.nx σ H4
section
variable {X:Cx} {o i e value:Expr} {pos pos' tpos:Pos} {td ty tv:TE}
theorem pe_dget (hu:X.A.units + 1 < cLine) (ho:PE X o td) (hi:PE X i ty) (hs:NoSl i):PE X (.Subscript o i pos) (tDGet td ty):=by
 intro pins s σ H Q I h
 refine subD_of PySem.F.slot_dict_getitem.lookup hs (thn (ho pins s σ H _ I h) fun u s1 ⟨x,H1,I1,rx,q1⟩=>thn (hi pins s1 σ H1 _ I1 q1) fun iv s2 ⟨y,H2,I2,ry,a,v,ex,g,q2⟩=>?_)
 subst ex
 obtain rfl:u=Value.ref a:=rx
 exact ⟨dict_typeIs I2 g,d_getItem hu I2 g ry fun w' s3 I3 rw'=>⟨v,H2,I3,rw',q2⟩⟩
theorem ps_dput (hu:X.A.units + 1 < cLine) (ho:PE X o td) (hi:PE X i ty) (hv:PE X value tv) (hs:swapsWith value (some (.Subscript o i pos')) pos.line X.env=pure false) :
  PS X (.Assign [.Subscript o i pos'] value pos) (sDPut td ty tv):=by
 intro pins s σ H D I h
 refine wpAny_Assign_Subscript (thn (hv pins s σ H _ I h) fun r s1 ⟨v,H1,I1,rv,q1⟩=>thn (ho pins s1 σ H1 _ I1 q1) fun u s2 ⟨x,H2,I2,rx,q2⟩=>thn (hi pins s2 σ H2 _ I2 q2) fun iv s3 ⟨y,H3,I3,ry,a,H4,ex,g,q3⟩=>?_) hs
 subst ex
 obtain rfl:u=Value.ref a:=rx
 exact d_setItem hu I3 g ry rv fun s4 I4=>⟨σ,H4,I4,q3⟩
end
theorem dk_empty {P:Program} {w:World} {H:Hp} (h:Heap) (hb:sysModules < h.objs.size):ObjOk P w H (h.push { cls:=.type "dict",data:=.dict #[] }) h.objs.size (.dK []):=
 ⟨Nat.zero_le _,beq_eq_false_iff_ne.mpr (Ne.symm (Nat.ne_of_lt hb)),[],.nil,Heap.DictOf.new h⟩
def tDNewK:TE:=fun _ H Q=>∀p,H p=none→Q (.ref p) (upd H p (.dK []))
section
variable {X:Cx} {pos:Pos}
theorem pe_dnewK:PE X (.Dict [] [] pos) tDNewK:=fun pins s σ H Q I h=>
 wpAny_Dict_empty ⟨.ref s.heap.objs.size,_,I.laid (a:=s.heap.objs.size) (o:=.dK []) (t':=s.toks) (fun _ _ q=>Heap.get?_push_of_some _ q) (Nat.le_refl _) (dk_empty s.heap I.big),rfl,h _ (I.hok.fresh (Nat.le_refl _))⟩
end
structure M1 (X:Cx) (o:Expr) (m:Str) (apos:Pos) (e:Expr) (cpos:Pos):Prop where
 base:attributeBase o m X.env (eval o X.env)=eval o X.env
 few:((backTo cpos (starEach [e] X.env)).all (fun x=>!x.1) && (backToKw cpos (keywordEach [] X.env)).all (fun x=>x.1.isSome)
  && decide (([e]:List Expr).length + ([]:List Keyword).length + (if ([]:List Keyword).isEmpty then 0 else 1) < 30))=true
 line:(apos.endLine == cpos.line)=true
 trees:backTo cpos (starEach [e] X.env)=[(false,eval e X.env)]
structure M2 (X:Cx) (o:Expr) (m:Str) (apos:Pos) (e f:Expr) (cpos:Pos):Prop where
 base:attributeBase o m X.env (eval o X.env)=eval o X.env
 few:((backTo cpos (starEach [e,f] X.env)).all (fun x=>!x.1) && (backToKw cpos (keywordEach [] X.env)).all (fun x=>x.1.isSome)
  && decide (([e,f]:List Expr).length + ([]:List Keyword).length + (if ([]:List Keyword).isEmpty then 0 else 1) < 30))=true
 line:(apos.endLine == cpos.line)=true
 trees:backTo cpos (starEach [e,f] X.env)=[(false,eval e X.env),(false,eval f X.env)]
def IsD (H:Hp) (a:Addr):Prop:=(∃kvs,Rd H a (.dK kvs))∨∃kvs,Rd H a (.dT kvs)
theorem isD_at {X:Cx} {pins:List (Addr×Obj)} {σ:St} {H:Hp} {s:Shared} {a:Addr} (I:Inv X pins σ H s) (d:IsD H a) :
  s.TypeIs (.ref a) "dict"∧(∀b,Value.ref a = .ref b→∃ob,s.heap.get? b=some ob∧ob.dict=none)∧(a == sysModules)=false:=by
 rcases d with ⟨kvs,e⟩ | ⟨kvs,e⟩
 ·obtain ⟨_,hd,vs,_,dd⟩:=dk_rd I.hok e
  refine ⟨dd.typeIs,fun b q=>?_,hd⟩
  cases q
  obtain ⟨ob,_,_,h1,h2,_⟩:=dd
  exact ⟨ob,h1,h2.2.1⟩
 ·obtain ⟨_,hd,xs,_,dd⟩:=dt_rd I.hok e
  refine ⟨dd.typeIs,fun b q=>?_,hd⟩
  cases q
  obtain ⟨ob,_,_,h1,h2,_⟩:=dd
  exact ⟨ob,h1,h2.2.1⟩
section
variable {X:Cx} {pins:List (Addr×Obj)} {σ:St} {H:Hp} {s:Shared} {a:Addr} {y d:V} {u r:Value} {o:Option V} {A:Around} {E:Value→Shared→Prop}
theorem d_get2 {Q:Value→Shared→Prop} (hu:A.units + 1 < cLine) (I:Inv X pins σ H s) (g:DGet H a y o) (ry:RelV y u) (rd:RelV d r) (h:∀w' s',Inv X pins σ H s'→RelV (o.getD d) w'→Q w' s') :
  wpAny (model X.prog X.w) A (call (.builtin "dict.get") [.ref a,u,r]) Q E s:=by
 rcases g with ⟨kvs,k,e,ey,l⟩ | ⟨kvs,k,b,e,ey,eb,l⟩
 ·subst ey
  obtain ⟨z,hd,vs,rel,dd⟩:=dk_rd I.hok e
  refine call_meetsIn PySem.F.slot_dict_get dd.typeIs PySem.F.entry_dict_get (PySem.F.args_dict_get_3 _ _ _) (meets_dict_get_default (mixKind X.prog X.w) a (kV_is ry) hd r) ⟨_,dd.mapOf,h _ _ (I.tok _) ?_⟩
  rw [l]
  exact (rel.val k).getD rd
 ·subst ey
  cases (show u=Value.ref b from ry)
  obtain ⟨z,hd,xs,rel,dd⟩:=dt_rd I.hok e
  refine call_meetsIn PySem.F.slot_dict_get dd.typeIs PySem.F.entry_dict_get (PySem.F.args_dict_get_3 _ _ _) (meetsH_dict_get_default (tupleKind (mixKind X.prog X.w)) a b hd r) ⟨tupleKind_room_in1 hu,k,xs,key_of I.hok eb,dd,h _ _ (I.tok _) ?_⟩
  rw [l]
  exact (rel.val k).getD rd
end
def tDGet2 (td ty tx:TE):TE:=fun σ H Q=>td σ H fun x H1=>∃a,x = .ref a∧IsD H1 a∧ty σ H1 fun y H2=>tx σ H2 fun z H3=>∃o,DGet H3 a y o∧Q (o.getD z) H3
def tDPop2 (td ty tx:TE):TE:=fun σ H Q=>td σ H fun x H1=>∃a,x = .ref a∧IsD H1 a∧ty σ H1 fun y H2=>tx σ H2 fun z H3=>∃kvs k,H3 a=some (.dK kvs)∧y=kV k∧
 (∀v,valV kvs k=some v→Q v (upd H3 a (.dK (dropK kvs k))))∧(valV kvs k=none→Q z H3)
section
variable {X:Cx} {o e f:Expr} {apos cpos:Pos} {td ty tx:TE}
theorem pe_dget2 (hu:X.A.units + 1 < cLine) (ho:PE X o td) (he:PE X e ty) (hf:PE X f tx) (m:M2 X o "get" apos e f cpos):PE X (.Call (.Attribute o "get" apos) [e,f] [] cpos) (tDGet2 td ty tx):=by
 intro pins s σ H Q I h
 refine wpAny_Call_method m.base m.few m.line PySem.F.plainAttrs_dict PySem.F.slot_dict_get PySem.F.type_dict_get (thn (ho pins s σ H _ I h) fun u s1 ⟨x,H1,I1,rx,a,ex,d,q1⟩=>?_)
 subst ex
 obtain rfl:u=Value.ref a:=rx
 obtain ⟨t1,t2,_⟩:=isD_at I1 d
 refine ⟨t1,t2,?_⟩
 rw [m.trees]
 refine Calls.callWith_builtin rfl (Calls.evalArgs_plain (Calls.spliced_cons (thn (he pins s1 σ H1 _ I1 q1) fun iv s2 ⟨y,H2,I2,ry,q2⟩=>
  Calls.spliced_cons (thn (hf pins s2 σ H2 _ I2 q2) fun fv s3 ⟨z,H3,I3,rz,ov,g,q3⟩=>Calls.spliced_nil ?_))))
 exact d_get2 hu I3 g ry rz fun w' s4 I4 rw'=>⟨_,H3,I4,rw',q3⟩
theorem pe_dpop2 (ho:PE X o td) (he:PE X e ty) (hf:PE X f tx) (m:M2 X o "pop" apos e f cpos):PE X (.Call (.Attribute o "pop" apos) [e,f] [] cpos) (tDPop2 td ty tx):=by
 intro pins s σ H Q I h
 refine wpAny_Call_method m.base m.few m.line PySem.F.plainAttrs_dict PySem.F.slot_dict_pop PySem.F.type_dict_pop (thn (ho pins s σ H _ I h) fun u s1 ⟨x,H1,I1,rx,a,ex,d,q1⟩=>?_)
 subst ex
 obtain rfl:u=Value.ref a:=rx
 obtain ⟨t1,t2,_⟩:=isD_at I1 d
 refine ⟨t1,t2,?_⟩
 rw [m.trees]
 refine Calls.callWith_builtin rfl (Calls.evalArgs_plain (Calls.spliced_cons (thn (he pins s1 σ H1 _ I1 q1) fun iv s2 ⟨y,H2,I2,ry,q2⟩=>
  Calls.spliced_cons (thn (hf pins s2 σ H2 _ I2 q2) fun fv s3 ⟨z,H3,I3,rz,kvs,k,ea,ey,q3,q4⟩=>Calls.spliced_nil ?_))))
 subst ey
 cases l:valV kvs k with
 | some v=>exact d_pop I3 ea ry l (.inr ⟨fv,rfl⟩) fun w' s4 I4 rw'=>⟨v,_,I4,rw',q3 v l⟩
 | none=>exact d_popD I3 ea ry l fun s4 I4=>⟨z,H3,I4,rz,q4 l⟩
end
end L2
namespace L2
open PySem PySem.Spec PyProof.Rows
class TabP where
 tp:Addr→Prop
 ql:Addr→Str
def nT:HO→Prop
 | .tbl _=>False
 | _=>True
def cdP (c:Addr) (q:Str):Heap→Prop:=fun h=>h.CodeRec (.ref c) q
def TabOk [TabP] (H:Hp) (P:Addr):Prop:=∃ps:Array Value,H P=some (.tbl ps)∧TriplesOk ps.toList∧∀pos cv,codeAmong pos ps.toList=some cv→∃c,cv = .ref c∧H c=some (.ext (cdP c (TabP.ql P)))
def TabsOk [TabP] (H:Hp):Prop:=∀P,TabP.tp P→TabOk H P
structure Same [TabP] (H H':Hp):Prop where
 at':∀b o,H b=some o→(h:nT o:=by exact trivial)→H' b=some o
 tb:∀b ps,H b=some (.tbl ps)→∃ps',H' b=some (.tbl ps')
 gd:TabsOk H→TabsOk H'
variable [TabP]
theorem nT_or (o:HO):nT o∨∃ps,o = .tbl ps:=by cases o <;> first | exact .inl trivial | exact .inr ⟨_,rfl⟩
theorem Same.refl (H:Hp):Same H H:=⟨fun _ _ h _=>h,fun _ ps h=>⟨ps,h⟩,id⟩
theorem Same.trans {H H1 H2:Hp} (a:Same H H1) (b:Same H1 H2):Same H H2:=
 ⟨fun c o h n=>b.at' c o (a.at' c o h n) n,fun c ps h=>let ⟨p1,e1⟩:=a.tb c ps h;b.tb c p1 e1,fun g=>b.gd (a.gd g)⟩
theorem Same.some {H H':Hp} (s:Same H H') {b:Addr} (h:H b≠none):H' b≠none:=by
 cases e:H b with
 | none=>exact absurd e h
 | some o=>
  rcases nT_or o with n | ⟨ps,rfl⟩
  ·rw [s.at' b o e n];intro z;cases z
  ·obtain ⟨p,q⟩:=s.tb b ps e;rw [q];intro z;cases z
theorem Same.free {H H':Hp} (e:Same H H') {l:Addr} (h:H' l=Option.none):H l=Option.none:=by
 cases q:H l with
 | none=>rfl
 | some o=>exact absurd h (e.some (by rw [q];intro z;cases z))
theorem Same.seq {K:PySem.W.Frag} {H H':Hp} {a:Addr} {xs:List V} (e:Same H H') (h:SqL K H a xs):SqL K H' a xs:=by
 rcases h with (h | ⟨o,h⟩) | h
 ·exact .inl (.inl (e.at' _ _ h))
 ·exact .inl (.inr ⟨o,e.at' _ _ h⟩)
 ·exact .inr h
theorem TabsOk.put {H:Hp} {p:Addr} (g:TabsOk H) (o:HO) (h1:∀ps,H p≠some (.tbl ps)) (h2:∀q,H p≠some (.ext (cdP p q))):TabsOk (upd H p o):=fun P hP=>by
 obtain ⟨ps,e,t,c⟩:=g P hP
 refine ⟨ps,by rw [upd_ne (by rintro rfl;exact h1 _ e)];exact e,t,fun pos cv hc=>?_⟩
 obtain ⟨c',e1,e2⟩:=c pos cv hc
 exact ⟨c',e1,by rw [upd_ne (by rintro rfl;exact h2 _ e2)];exact e2⟩
theorem TabsOk.new {H:Hp} {p:Addr} (g:TabsOk H) (h:H p=none) (o:HO):TabsOk (upd H p o):=g.put o (fun ps=>by rw [h];intro z;cases z) (fun φ=>by rw [h];intro z;cases z)
theorem TabsOk.lst {H:Hp} {p:Addr} {zs:List V} (g:TabsOk H) (h:H p=some (.lst zs)) (o:HO):TabsOk (upd H p o):=g.put o (fun ps=>by rw [h];intro z;cases z) (fun φ=>by rw [h];intro z;cases z)
theorem same_new {H:Hp} {p:Addr} (h:H p=none) (o:HO):Same H (upd H p o):=
 ⟨fun b u q _=>by rw [upd_ne (ne_of_none q h)];exact q,fun b ps q=>⟨ps,by rw [upd_ne (ne_of_none q h)];exact q⟩,fun g=>g.new h o⟩
theorem upd_over {H1 H:Hp} {D:Addr} {zs:List V} (hD:H1 D=none) (s:Same H1 H) (hl:H D=some (.lst zs)) (o:HO):Same H1 (upd H D o):=
 ⟨fun b u q n=>by rw [upd_ne (ne_of_none q hD)];exact s.at' b u q n,fun b ps q=>by rw [upd_ne (ne_of_none q hD)];exact s.tb b ps q,fun g=>(s.gd g).lst hl o⟩
end L2
namespace L2
open PySem
def clGo (env:Env):List (Str×NameKind)→List (Str×Addr)→List (Str×Addr)
 | [],acc=>acc
 | (n,k) :: r,acc=>if (k == NameKind.free)=true then clGo env r ((n,(env.cells.lookup n).getD 0) :: acc) else clGo env r acc
abbrev clOf (scope:Scope) (env:Env):List (Str×Addr):=clGo env scope.names []
theorem closureFor_cl {scope:Scope} {env:Env} (h:∀y∈scope.names,y.2 = .free→∃c,env.cells.lookup y.1=some c):closureFor scope env=pure (clOf scope env):=by
 unfold closureFor clOf
 generalize scope.names=ns at h
 generalize ([]:List (Str×Addr))=acc
 show (forIn ns acc _ >>= _)=_
 induction ns generalizing acc with
 | nil=>rfl
 | cons y r ih=>
  obtain ⟨n,k⟩:=y
  rw [List.forIn_cons]
  have ih':=fun acc=>ih (fun y hy=>h y (List.mem_cons_of_mem _ hy)) acc
  by_cases hk:(k == NameKind.free)=true
  ·have hk':k = .free:=by simpa using hk
   obtain ⟨c,hc⟩:=h (n,k) List.mem_cons_self hk'
   have e1:cellOf env n=pure c:=by unfold cellOf;rw [hc]
   simp only [hk,if_true,e1,pure_bind,clGo,hc,Option.getD_some]
   exact ih' _
  ·simp only [hk,clGo]
   exact ih' _
theorem clGo_mem {env:Env}:∀{ns:List (Str×NameKind)} {acc:List (Str×Addr)} {p:Str×Addr},p∈clGo env ns acc→p∈acc∨∃k,(p.1,k)∈ns∧k=NameKind.free∧p.2=(env.cells.lookup p.1).getD 0
 | [],_,_,h=>.inl h
 | (n,k) :: r,acc,p,h=>by
  unfold clGo at h
  split at h
  ·rename_i hk
   rcases clGo_mem h with h | ⟨k',a,b⟩
   ·rcases List.mem_cons.mp h with rfl | h
    ·exact .inr ⟨k,List.mem_cons_self,by simpa using hk,rfl⟩
    ·exact .inl h
   ·exact .inr ⟨k',List.mem_cons_of_mem _ a,b⟩
  ·rcases clGo_mem h with h | ⟨k',a,b⟩
   ·exact .inl h
   ·exact .inr ⟨k',List.mem_cons_of_mem _ a,b⟩
theorem clGo_has {env:Env}:∀{ns:List (Str×NameKind)} {acc:List (Str×Addr)} {y:Str},((y,NameKind.free)∈ns∨∃c,(y,c)∈acc)→∃c,(y,c)∈clGo env ns acc
 | [],_,_,h=>by
  rcases h with h | h
  ·cases h
  ·exact h
 | (n,k) :: r,acc,y,h=>by
  unfold clGo
  split
  ·refine clGo_has ?_
   rcases h with h | ⟨c,h⟩
   ·rcases List.mem_cons.mp h with e | h
    ·cases e;exact .inr ⟨_,List.mem_cons_self⟩
    ·exact .inl h
   ·exact .inr ⟨c,List.mem_cons_of_mem _ h⟩
  ·rename_i hk
   refine clGo_has ?_
   rcases h with h | h
   ·rcases List.mem_cons.mp h with e | h
    ·cases e;exact absurd rfl hk
    ·exact .inl h
   ·exact .inr h
theorem lookup_of_mem {α:Type} {y:Str} {c:α}:∀{l:List (Str×α)},(y,c)∈l→∃c',l.lookup y=some c'
 | (n,k) :: r,h=>by
  by_cases e:(y == n)=true
  ·exact ⟨k,by rw [List.lookup_cons,e]⟩
  ·have e':(y == n)=false:=by simpa using e
   rcases List.mem_cons.mp h with z | z
   ·cases z;simp at e
   ·obtain ⟨c',q⟩:=lookup_of_mem z
    exact ⟨c',by rw [List.lookup_cons,e'];exact q⟩
theorem cl_lookup {scope:Scope} {env:Env} (h:∀y∈scope.names,y.2 = .free→∃c,env.cells.lookup y.1=some c) {y:Str} {c:Addr} (e:(clOf scope env).lookup y=some c):env.cells.lookup y=some c:=by
 rcases clGo_mem (PySem.mem_of_lookup e) with z | ⟨k,a,b,d⟩
 ·cases z
 ·obtain ⟨c',q⟩:=h _ a b
  have d':c=(env.cells.lookup y).getD 0:=d
  have q':env.cells.lookup y=some c':=q
  rw [q'] at d' ⊢
  exact congrArg some d'.symm
theorem cl_has {scope:Scope} {env:Env} {y:Str} (h:scope.names.lookup y=some .free):∃c,(clOf scope env).lookup y=some c:=by
 obtain ⟨c,q⟩:=clGo_has (env:=env) (acc:=[]) (.inl (PySem.mem_of_lookup h))
 exact lookup_of_mem q
theorem map_kind {g:Str×NameKind→Str×NameKind} {y:Str} (h1:∀p,(g p).1=p.1) (h2:∀p,p.2≠.cell→(g p).2 = .cell∨(g p).2 = .free→p.2 = .free) :
  ∀{ns:List (Str×NameKind)},(∀z∈ns,z.2≠NameKind.cell)→((ns.map g).lookup y=some .cell∨(ns.map g).lookup y=some .free)→ns.lookup y=some .free
 | [],_,h=>by simp at h
 | p :: r,hc,h=>by
  rw [List.map_cons] at h
  have ih:=map_kind (g:=g) (y:=y) h1 h2 (ns:=r) fun z hz=>hc z (List.mem_cons_of_mem _ hz)
  have nc:=hc p List.mem_cons_self
  have q1:=h1 p
  have q2:=h2 p nc
  generalize g p=q at h q1 q2
  obtain ⟨qn,qk⟩:=q
  obtain ⟨n,k⟩:=p
  have q1:qn=n:=q1
  subst q1
  have q2:qk = .cell∨qk = .free→k = .free:=q2
  rw [List.lookup_cons] at h ⊢
  cases e:(y == qn) with
  | true=>
   rw [e] at h
   have h':some qk=some NameKind.cell∨some qk=some NameKind.free:=h
   exact congrArg some (q2 (h'.imp Option.some.inj Option.some.inj))
  | false=>
   rw [e] at h
   exact ih h
theorem relabel_kind {scope:Scope} {env:Env} {y:Str} (hc:∀z∈scope.names,z.2≠NameKind.cell) (h:(relabel scope env).names.lookup y=some .cell∨(relabel scope env).names.lookup y=some .free):scope.names.lookup y=some .free:=by
 refine map_kind (fun p=>?_) (fun p hp q=>?_) hc h
 ·obtain ⟨n,k⟩:=p
  dsimp only
  split <;> rfl
 ·obtain ⟨n,k⟩:=p
  dsimp only at q hp ⊢
  split at q
  ·rename_i hk
   have:=(Bool.and_eq_true _ _ ▸ (Bool.and_eq_true _ _ ▸ hk).1).1
   simpa using this
  ·exact q.elim (fun z=>absurd z hp) id
end L2
namespace L2
open PySem PySem.Spec PyProof.Rows
def cxComp (X:Cx) (scope:Scope) (N:List Str) (C:Addr) (fp:List Addr) (s:Shared) (H:Hp):Cx where
 prog:=X.prog
 w:=X.w
 K:=X.K
 mg:=X.mg
 base:=X.base
 A:=X.A
 N:=N
 s₀:=s
 H₀:=H
 env:=compEnvC scope (clOf scope X.env) C X.env
 outer:=X.stack
 stack:=X.stack
 ex:=fp
 fn:=fun _=>false
 calm:=X.calm
 pn:=[]
 xe:=fun _ _=>False
structure CpScope (esc scope:Scope) (EN N:List Str) (n:Nat) (cap:List Nat):Prop where
 kind:scope.kind = .function
 cell:∀y∈scope.names,y.2≠.cell
 loc:∀y∈scope.names,y.2 = .local→scope.names.lookup y.1=some .local
 free:∀y∈scope.names,y.2 = .free→esc.names.lookup y.1=some .cell∨esc.names.lookup y.1=some .free
 nd:N.Nodup
 len:N.length=n + cap.length
 caps:∀j < cap.length,N[n + j]? = EN[cap.getD j 0]?∧∀x,N[n + j]? = some x→scope.names.lookup x=some .free
def cpSt (n:Nat) (cap:List Nat) (σ:St):St:=List.replicate n none ++ cap.map fun k=>(σ[k]?).join
theorem cpSt_len {n:Nat} {cap:List Nat} {σ:St}:(cpSt n cap σ).length=n + cap.length:=by
 unfold cpSt;rw [List.length_append,List.length_replicate,List.length_map]
theorem cpSt_get {n:Nat} {cap:List Nat} {σ:St} {i:Nat} {v:V} (h:(cpSt n cap σ)[i]? = some (some v)):∃j,i=n + j∧j < cap.length∧σ[cap.getD j 0]? = some (some v):=by
 unfold cpSt at h
 by_cases hi:i < n
 ·rw [List.getElem?_append_left (by simpa using hi),List.getElem?_replicate,if_pos hi] at h
  cases h
 ·rw [List.getElem?_append_right (by simpa using hi),List.length_replicate,List.getElem?_map] at h
  cases e:cap[i - n]? with
  | none=>rw [e] at h;cases h
  | some k=>
   rw [e] at h
   have hl:i - n < cap.length:=(List.getElem?_eq_some_iff.mp e).1
   refine ⟨i - n,by omega,hl,?_⟩
   have h':(σ[k]?).join=some v:=Option.some.inj h
   rw [List.getD_eq_getElem?_getD,e,Option.getD_some]
   cases q:σ[k]? with
   | none=>rw [q] at h';cases h'
   | some z=>rw [q] at h';exact congrArg some h'
section
variable {X:Cx} {scope esc:Scope} {EN N:List Str} {n:Nat} {cap:List Nat} {pins:List (Addr×Obj)} {σ:St} {H:Hp} {s:Shared} {fp:List Addr}
theorem inv_comp {h':Heap} {tk:Nat} {m:Str→Option Value} (S:CpScope esc scope EN N n cap) (he:X.env.scope=esc) (hN:X.N=EN) (I:Inv X pins σ H s) (hf:∀b∈fp,FpOk X pins H b) (ho:∀b∈fp,∃o,s.heap.get? b=some o)
  (hns:h'.Ns s.heap.objs.size m) (k:∀b o,s.heap.get? b=some o→h'.get? b=some o) :
  Inv (cxComp X scope N s.heap.objs.size fp s H) [] (cpSt n cap σ) H { s with heap:=h',toks:=tk }:=by
 have hfree:∀y∈scope.names,y.2 = .free→∃c,X.env.cells.lookup y.1=some c:=fun y hy hk=>by
  refine I.ok.has y.1 ?_
  show X.env.scope.names.lookup y.1=_∨X.env.scope.names.lookup y.1=_
  rw [he];exact S.free y hy hk
 have up:∀{y:Str} {c:Addr},(clOf scope X.env).lookup y=some c→X.env.cells.lookup y=some c:=fun {y c} e=>cl_lookup hfree e
 have kfree:∀y,(cxComp X scope N s.heap.objs.size fp s H).env.kindOf y=some .cell∨(cxComp X scope N s.heap.objs.size fp s H).env.kindOf y=some .free→scope.names.lookup y=some .free:=fun y h=>relabel_kind S.cell h
 have cellK:∀c v,s.heap.IsCell c v→h'.IsCell c v:=fun c v ⟨o,e,d⟩=>⟨o,k c o e,d⟩
 refine ⟨⟨I.ok.mod,S.kind,I.ok.glob,I.ok.blt,Nat.le_refl _,fun x y c h1 h2=>I.ok.inj x y c (up h1) (up h2),fun y hy=>cl_has (kfree y hy),fun _ _ z=>absurd z Bool.false_ne_true,I.ok.hd,I.ok.frames,.inl rfl,fun b hb=>⟨?_,fun x c e=>(hf b hb).2.2.2.2.1 x c (up e)⟩,I.bs,Nat.le_trans I.ok.bsz I.sz,fun b o e hb=>?_,fun b hb hz=>?_,I.stack,I.stkFree⟩,
  rfl,I.bare,Un.kept k,⟨m,hns,fun i x v e1 e2 e3=>?_⟩,fun x c e=>?_,I.hok.fresh (Nat.le_refl _),fun x c e=>I.freeC x c (up e),fun p hp=>absurd (show p∈([]:List (Addr×Obj)) from hp) (by simp),I.hok.kept k,?_⟩
 ·obtain ⟨o,e⟩:=ho b hb
  exact Nat.ne_of_lt (Heap.lt_size e)
 ·rcases (hf b hb).2.2.2.1 with z | z
  ·exact I.ok.noex b o e z
  ·exact absurd (Nat.lt_of_lt_of_le (Heap.lt_size e) (Nat.le_trans I.ok.bsz z)) (Nat.lt_irrefl _)
 ·rcases List.mem_cons.mp (I.stkSub b hz) with z | z
  ·exact (hf b hb).2.1 z
  ·exact (hf b hb).2.2.1 z
 ·obtain ⟨j,rfl,hj,e4⟩:=cpSt_get e2
  obtain ⟨c1,c2⟩:=S.caps j hj
  have e1:N[n + j]? = some x:=e1
  have hfr:=c2 x e1
  rw [e1,←hN] at c1
  obtain ⟨c,hc⟩:=cl_has (env:=X.env) hfr
  obtain ⟨m0,hn0,hl⟩:=I.loc
  have kx:X.env.scope.names.lookup x=some .cell∨X.env.scope.names.lookup x=some .free:=by
   rw [he];exact S.free (x,.free) (PySem.mem_of_lookup hfr) rfl
  obtain ⟨u,r,l⟩:=hl _ x v c1.symm e4 (kx.elim (fun z=>.inr (.inl z)) fun z=>.inr (.inr z))
  refine ⟨u,r,.inr ⟨?_,c,hc,?_⟩⟩
  ·rcases e3 with z | z | z
   ·exfalso
    have z':(relabel scope X.env).names.lookup x=some .local:=z
    have hz:∀ns:List (Str×NameKind),ns.lookup x=some .free→(ns.map fun (n,k)=>if (k == NameKind.free && X.env.scope.kind == .function && X.env.kindOf n == some .cell) then (n,NameKind.cell) else (n,k)).lookup x≠some .local:=by
     intro ns
     induction ns with
     | nil=>intro h;simp at h
     | cons p r ih=>
      obtain ⟨pn,pk⟩:=p
      intro h
      rw [List.map_cons]
      rw [List.lookup_cons] at h
      cases q:(x == pn) with
      | true=>
       rw [q] at h
       have h':pk = .free:=Option.some.inj h
       subst h'
       dsimp only
       split
       ·rw [List.lookup_cons,q];intro w;cases w
       ·rw [List.lookup_cons,q];intro w;cases w
      | false=>
       rw [q] at h
       dsimp only
       split
       ·rw [List.lookup_cons,q];exact ih h
       ·rw [List.lookup_cons,q];exact ih h
    exact hz _ hfr z'
   ·exact .inl z
   ·exact .inr z
  ·rcases l with ⟨q,_⟩ | ⟨_,c',e5,z⟩
   ·exfalso
    have q':X.env.scope.names.lookup x=some .local:=q
    rcases kx with w | w <;> rw [w] at q' <;> cases q'
   ·rw [up hc] at e5
    cases e5
    exact cellK c _ z
 ·obtain ⟨v,z⟩:=I.cell x c (up e)
  exact ⟨v,cellK c v z⟩
 ·show (cpSt n cap σ).length=N.length
  rw [cpSt_len,S.len]
theorem inv_back {N:List Str} {C:Addr} {pj:List (Addr×Obj)} {σ':St} {H':Hp} {s':Shared} (I:Inv X pins σ H s) (hf:∀b∈fp,FpOk X pins H b) (J:Inv (cxComp X scope N C fp s H) pj σ' H' s'):Inv X pins σ H' s':=
 I.call' J.os J.base J.hok J.bare fun b hb=>⟨(hf b hb).2.2.2.1,(hf b hb).2.1,(hf b hb).2.2.2.2.1,(hf b hb).2.2.2.2.2⟩
end
section
variable {X:Cx}
def PIfs (X:Cx) (ifs:List Expr) (t:TT):Prop:=
 ∀(pins:List (Addr×Obj)) (s:Shared) (σ:St) (H:Hp) (Q:Bool→Hp→Prop),Inv X pins σ H s→t σ H Q→
  wpAny (model X.prog X.w) X.A (forIn ifs true fun c r=>if r=true then do let ok ←isTrue c X.env (eval c X.env);pure (ForInStep.yield ok) else pure (ForInStep.yield r)) (TP X pins σ Q) X.xe s
def tT0:TT:=fun _ H Q=>Q true H
theorem pf_nil:PIfs X [] tT0:=fun _ _ _ H _ I h=>wpAny_tests_nil ⟨H,I,h⟩
theorem pf_one {c:Expr} {t:TT} (h:PT X c t):PIfs X [c] t:=fun pins s σ H Q I hq=>wpAny_tests_one (h pins s σ H Q I hq)
end
section
variable {prog:Program} {w:World} {A:Around} {R:Result→Shared→Prop} {s:Shared}
theorem codeAny_compLoop_gen {elt target iter:Expr} {ifs:List Expr} {scope:Scope} {pos:Pos} {it acc:Value} {env:Env} (I:Nat→Shared→Prop)
  (turn:∀n s,I n s→wpAny (model prog w) A (pyNext it) (fun r s₁=>match r with
   | none=>R (.ok .next) s₁
   | some v=>wpAny (model prog w) A (letOwnedTupleGo target it v) (fun _ s₁'=>wpAny (model prog w) A (assign target env v) (fun _ s₂=>
     wpAny (model prog w) A (forIn ifs true fun c r=>if r=true then do let ok ←isTrue c env (eval c env);pure (ForInStep.yield ok) else pure (ForInStep.yield r)) (fun ok s₃=>
      if ok=true then wpAny (model prog w) A (eval elt env) (fun x s₄=>
       wpAny (model prog w) A (call (.builtin "list.append") [acc,x]) (fun _ s₅=>∃m,m < n∧I m s₅) (fun _ _=>False) s₄) (fun _ _=>False) s₃
      else ∃m,m < n∧I m s₃) (fun _ _=>False) s₂) (fun _ _=>False) s₁') (fun _ _=>False) s₁) (fun _ _=>False) s)
  (n:Nat) (h:I n s) :
  codeAny (model prog w) A (.compLoop (.ListComp elt [⟨target,iter,ifs,0⟩] scope pos) 0 it acc env) R s:=by
 refine codeAny_loop rfl I (fun n s hI=>?_) n h
 show wpAny _ A ((compTurn (.ListComp elt [⟨target,iter,ifs,0⟩] scope pos) 0 it acc env).onRaise (fun x=>do noteFrame x env;theTreesLotGoes x)) _ _ s
 refine wpAny_noted ?_
 rw [compTurn_list]
 refine wpAny_bind (wpAny_standAt (wpAny_bind (wpAny_mono (turn n s hI) (fun r s₁ h₁=>?_) fun _ _ h'=>h'.elim)))
 cases r with
 | none=>exact wpAny_pure h₁
 | some v=>
  refine wpAny_bind (wpAny_mono h₁ (fun _ s₁' h₁'=>?_) fun _ _ h'=>h'.elim)
  refine wpAny_bind (wpAny_mono h₁' (fun _ s₂ h₂=>wpAny_bind (wpAny_mono h₂ (fun ok s₃ h₃=>?_) fun _ _ h'=>h'.elim)) fun _ _ h'=>h'.elim)
  cases ok with
  | false=>exact wpAny_pure ⟨rfl,h₃⟩
  | true=>
   exact wpAny_bind (wpAny_bind (wpAny_mono h₃ (fun x s₄ h₄=>wpAny_bind (wpAny_mono h₄ (fun _ s₅ h₅=>wpAny_pure (wpAny_pure ⟨rfl,h₅⟩)) fun _ _ h'=>h'.elim)) fun _ _ h'=>h'.elim))
end
def Fgt (σ σ2:St):Prop:=σ.length=σ2.length∧∀(i:Nat) v,σ[i]? = some (some v)→σ2[i]? = some (some v)
theorem Fgt.refl (σ:St):Fgt σ σ:=⟨rfl,fun _ _ h=>h⟩
theorem Fgt.set {σ σ2:St} {i:Nat} {x:V} (h:Fgt σ σ2) (hn:σ[i]? = some none):Fgt σ (σ2.set i (some x)):=by
 refine ⟨by rw [List.length_set];exact h.1,fun j v e=>?_⟩
 by_cases hj:i=j
 ·subst hj;rw [hn] at e;cases e
 ·rw [List.getElem?_set_ne hj];exact h.2 j v e
def cpW (J:It) (σ':St) (g:TG) (tt:TT) (te:TE) (D:Addr) (H1:Hp) (Q:VK):Prop:=
  ∃W:Nat→Nat→List V→Hp→Prop,(∃m,W 0 m [] (upd H1 D (.lst [])))∧∀i m ys H,W i m ys H→
   ((J.stop i H∧Q (.ref D) H)∨(J.go i H∧∀x H',J.yld i H x H'→g x σ' H' fun σ2 H2=>Fgt σ' σ2∧tt σ2 H2 fun b H3=>
       if b=true then te σ2 H3 fun y H4=>H4 D=some (.lst ys)∧ys.length < sizeLine∧∃m',m' < m∧W (i + 1) m' (ys ++ [y]) (upd H4 D (.lst (ys ++ [y]))) else ∃m',m' < m∧W (i + 1) m' ys H3))
def tComp (n:Nat) (cap:List Nat) (wi:TI) (g:TG) (tt:TT) (te:TE):TE:=fun σ H Q=>wi σ H fun J H1=>∀D,H1 D=none→cpW J (cpSt n cap σ) g tt te D H1 Q
section
variable {X:Cx} {scope esc:Scope} {EN N:List Str} {n:Nat} {cap:List Nat} {pins:List (Addr×Obj)} {σ:St} {s:Shared} {elt tg iter:Expr} {ifs:List Expr} {pos:Pos} {g:TG} {tt:TT} {te:TE}
theorem comp_run {E:Value→Shared→Prop} {H:Hp} {J:It} {fp:List Addr} {it:Addr} {tn:Nat→Heap→Prop} {Q:VK} {RR:Value→Addr→Result→Shared→Prop} (S:CpScope esc scope EN N n cap) (he:X.env.scope=esc) (hN:X.N=EN) (hc:X.calm=true)
  (hg:∀C fp s H,PG (cxComp X scope N C fp s H) tg g) (ht:∀C fp s H,PIfs (cxComp X scope N C fp s H) ifs tt) (hel:∀C fp s H,PE (cxComp X scope N C fp s H) elt te)
  (I:Inv X pins σ H s) (T:Turn X.prog X.w X.K tg J fp it tn) (st:tn 0 s.heap) (hf:∀b∈fp,FpOk X pins H b) (hq:∀D,H D=none→cpW J (cpSt n cap σ) g tt te D H Q)
  (hRR:∀D C H' s' m,Inv X pins σ H' s'→FpOk X pins H' C→s'.heap.Ns C m→Q (.ref D) H'→RR (.ref D) C (.ok .next) s') :
  wpAny (model X.prog X.w) X.A (newList []) (fun acc s₃=>wpAny (model X.prog X.w) X.A (newFunctionEnv scope X.env.globals (clOf scope X.env) [] X.env.qual none .none (some X.env)) (fun cenv s₄=>
   codeAny (model X.prog X.w) X.A (.compStart (.ListComp elt [⟨tg,iter,ifs,0⟩] scope pos) 0 (.ref it) acc { cenv with scope:=relabel scope X.env }) (RR acc cenv.locals) s₄) E s₃) E s:=by
 refine wpAny_newObj_type (wpAny_newFunctionEnv S.cell (by intro y hy;simp at hy) (fun h₁ hns₁ hsb₁=>?_) S.kind)
 have I3:=I.lnew (t':=s.toks) (ys:=[]) (its:=[]) .nil (Nat.zero_le _)
 have hD:H s.heap.objs.size=none:=I.fresh
 obtain ⟨W,⟨m0,w0⟩,turn⟩:=hq _ hD
 generalize hs3:({ s with heap:=s.heap.push { cls:=.type "list",data:=.seq ([]:List Value).toArray },toks:=s.toks }:Shared)=s3 at I3
 have k3:∀b o,s.heap.get? b=some o→s3.heap.get? b=some o:=fun b o e=>by rw [←hs3];exact Heap.get?_push_of_some _ e
 have hs3':({ s with heap:=s.heap.push { cls:=.type "list",data:=.seq ([]:List Value).toArray } }:Shared)=s3:=hs3
 have hh:s.heap.push { cls:=.type "list",data:=.seq ([]:List Value).toArray }=s3.heap:=by rw [←hs3]
 dsimp only at hns₁ hsb₁ ⊢
 try rw [hh] at hns₁
 try rw [hh] at hsb₁
 have hf3:∀b∈fp,FpOk X pins (upd H s.heap.objs.size (.lst [])) b:=fun b hb=>by
  refine ⟨?_,(hf b hb).2⟩
  obtain ⟨o,e,_⟩:=T.obj _ _ st b hb
  rw [upd_ne (Nat.ne_of_lt (Heap.lt_size e))]
  exact (hf b hb).1
 have k4:∀b o,s3.heap.get? b=some o→h₁.get? b=some o:=fun b o e=>hsb₁.extBut b o (Nat.ne_of_lt (Heap.lt_size e)) (Heap.get?_push_of_some _ e)
 have ob:∀b∈fp,∃o,s3.heap.get? b=some o:=fun b hb=>by
  obtain ⟨o,e,_⟩:=T.obj _ _ st b hb
  exact ⟨o,k3 b o e⟩
 have I4:=inv_comp (tk:=s3.toks) S he hN I3 hf3 ob hns₁ k4
 have st4:tn 0 h₁:=T.keep _ _ _ st fun b _ o e=>k4 b o (k3 b o e)
 have hC3:s3.heap.objs.size≤s3.heap.objs.size:=Nat.le_refl _
 have loop:∀s₃:Shared,s₃.heap=h₁→Inv (cxComp X scope N s3.heap.objs.size fp s3 (upd H s.heap.objs.size (.lst []))) [] (cpSt n cap σ) (upd H s.heap.objs.size (.lst [])) s₃→
   codeAny (model X.prog X.w) X.A (.compLoop (.ListComp elt [⟨tg,iter,ifs,0⟩] scope pos) 0 (.ref it) (.ref s.heap.objs.size) (compEnvC scope (clOf scope X.env) s3.heap.objs.size X.env)) (RR (.ref s.heap.objs.size) s3.heap.objs.size) s₃:=by
  intro s₃ e₃ I₃
  have stat:∀{H':Hp},(∀b∈fp,H' b=none)→∀b∈fp,FpOk (cxComp X scope N s3.heap.objs.size fp s3 (upd H s.heap.objs.size (.lst []))) [] H' b:=fun {H'} hn b hb=>
   ⟨hn b hb,(I₃.ok.exf b hb).1,I₃.ok.exfs b hb,.inl hb,(I₃.ok.exf b hb).2,fun p hp=>absurd (show p∈([]:List (Addr×Obj)) from hp) (by simp)⟩
  refine codeAny_compLoop_gen (fun k s'=>∃i ys H',Inv (cxComp X scope N s3.heap.objs.size fp s3 (upd H s.heap.objs.size (.lst []))) [] (cpSt n cap σ) H' s'∧tn i s'.heap∧(∀b∈fp,H' b=none)∧W i k ys H') ?_ m0
   ⟨0,[],_,I₃,by rw [e₃];exact st4,fun b hb=>(hf3 b hb).1,w0⟩
  rintro k s5 ⟨i,ys,H5,I5,st5,fr5,w5⟩
  rcases turn i k ys H5 w5 with ⟨stop,q⟩ | ⟨go,step⟩
  ·refine thn (T.done (cxComp X scope N s3.heap.objs.size fp s3 (upd H s.heap.objs.size (.lst []))) rfl rfl rfl hc i [] s5 _ H5 _ I5 (stat fr5) st5 stop) fun r s6 ⟨hr,I6⟩=>?_
   subst hr
   obtain ⟨m,hn,_⟩:=I6.loc
   exact hRR _ _ H5 s6 m (inv_back I3 hf3 I6) (I3.fpOk hC3 I6.free) hn q
  ·refine thn (T.item (cxComp X scope N s3.heap.objs.size fp s3 (upd H s.heap.objs.size (.lst []))) rfl rfl rfl hc i [] s5 _ H5 (fun _ _=>False) I5 (stat fr5) st5 go) fun r s6 ⟨u,hr,h6⟩=>?_
   subst hr
   refine thn h6 fun _ s7 ⟨x,H7,I7,r7,y7,st7,fr7⟩=>?_
   have I7':=I7.pinned (stat fr7) (T.obj _ _ st7)
   refine thn (hg _ _ _ _ _ s7 _ H7 x u _ I7' r7 (step x H7 y7)) fun _ s8 ⟨σ8,H8,I8,fg,q8⟩=>?_
   refine thn (ht _ _ _ _ _ s8 σ8 H8 _ I8 q8) fun b s9 ⟨H9,I9,q9⟩=>?_
   have back:∀{H':Hp} {s':Shared},Inv (cxComp X scope N s3.heap.objs.size fp s3 (upd H s.heap.objs.size (.lst []))) ([] ++ pinsAt fp s7.heap) σ8 H' s'→
     Inv (cxComp X scope N s3.heap.objs.size fp s3 (upd H s.heap.objs.size (.lst []))) [] (cpSt n cap σ) H' s'∧tn (i + 1) s'.heap∧∀b∈fp,H' b=none:=fun {H' s'} I'=>by
    refine ⟨I'.unpinned.weak fg.1 fg.2,T.keep _ _ _ st7 fun b hb o e=>(I'.pin (b,o) (List.mem_append_right _ (List.mem_append_right _ (mem_pinsAt hb e)))).1,fun b hb=>?_⟩
    obtain ⟨o,e,d⟩:=T.obj _ _ st7 b hb
    exact (I'.pin (b,o) (List.mem_append_right _ (List.mem_append_right _ (mem_pinsAt hb e)))).2.1
   cases b with
   | false=>
    obtain ⟨m',hm,w'⟩:=q9
    obtain ⟨b1,b2,b3⟩:=back I9
    exact ⟨m',hm,i + 1,ys,H9,b1,b2,b3,w'⟩
   | true=>
    refine thn (hel _ _ _ _ _ s9 σ8 H9 _ I9 q9) fun v s10 ⟨y,H10,I10,r10,hD10,hz,m',hm,w'⟩=>?_
    refine thn (mt_append _ s10 σ8 H10 (.ref s.heap.objs.size) [y] (.ref s.heap.objs.size) [v] (fun z H'=>z = .non∧H'=upd H10 s.heap.objs.size (.lst (ys ++ [y]))) I10 rfl (.cons r10 .nil) ⟨_,ys,y,rfl,rfl,hD10,hz,rfl,rfl⟩) fun z s11 ⟨y',H11,I11,_,_,e11⟩=>?_
    subst e11
    obtain ⟨b1,b2,b3⟩:=back I11
    exact ⟨m',hm,i + 1,ys ++ [y],_,b1,b2,b3,w'⟩
 have I4':Inv (cxComp X scope N s3.heap.objs.size fp s3 (upd H s.heap.objs.size (.lst []))) [] (cpSt n cap σ) (upd H s.heap.objs.size (.lst [])) { heap:=h₁,gens:=s3.gens,drawn:=s3.drawn,toks:=s3.toks + ([]:List (Str×Value)).length,os:=s3.os }:=I4
 exact codeAny_compStart_list (loop _ rfl I4') (T.self _ 0 _ _ _ st4 (loop _ rfl I4'))
theorem pe_comp (S:CpScope esc scope EN N n cap) {wi:TI} (hi:PI X tg iter wi) (hg:∀C fp s H,PG (cxComp X scope N C fp s H) tg g) (ht:∀C fp s H,PIfs (cxComp X scope N C fp s H) ifs tt) (hel:∀C fp s H,PE (cxComp X scope N C fp s H) elt te)
  (he:X.env.scope=esc:=by rfl) (hN:X.N=EN:=by rfl) (hc:X.calm=true:=by rfl) (hs:∀x,foldedSetIterable iter X.env x=pure x:=by intro _;rfl):PE X (.ListComp elt [⟨tg,iter,ifs,0⟩] scope pos) (tComp n cap wi g tt te):=by
 intro pins s σ H Q I h
 rw [eval_ListComp]
 have hclos:closureFor scope X.env=pure (clOf scope X.env):=closureFor_cl fun y hy hk=>I.ok.has y.1 (by
  show X.env.scope.names.lookup y.1=_∨X.env.scope.names.lookup y.1=_
  rw [he];exact S.free y hy hk)
 refine wpAny_comprehension_free (use:=none) rfl hs hclos S.kind S.loc (thn (hi pins s σ H _ I h) fun v s1 h1=>thn h1 fun itv s2 h2=>?_)
 obtain ⟨it,fp,tn,J,H2,e,I2,T,st2,f2,hq⟩:=h2
 subst e
 refine comp_run S he hN hc hg ht hel I2 T st2 f2 hq fun D C H' s' m I' fC hn q=>?_
 exact ⟨m,hn,fun h' hs'=>⟨.ref D,H',I'.turned (t':=s'.toks) (fun b o hb e=>hs'.extBut b o hb e) fC.1 fC.2.1 fC.2.2.2.1 fC.2.2.2.2.1 fC.2.2.2.2.2,rfl,q⟩⟩
theorem ps_comp {i:Nat} {y:Str} {py spos:Pos} (S:CpScope esc scope EN N n cap) {wi:TI} (hNd:X.N.Nodup) (hi':X.N[i]? = some y) (hy:X.env.scope.names.lookup y=some .local) (hi:PI X tg iter wi) (hg:∀C fp s H,PG (cxComp X scope N C fp s H) tg g) (ht:∀C fp s H,PIfs (cxComp X scope N C fp s H) ifs tt) (hel:∀C fp s H,PE (cxComp X scope N C fp s H) elt te)
  (he:X.env.scope=esc:=by rfl) (hN:X.N=EN:=by rfl) (hc:X.calm=true:=by rfl) (hs:∀x,foldedSetIterable iter X.env x=pure x:=by intro _;rfl)
  (hsw:swapsWith (.ListComp elt [⟨tg,iter,ifs,0⟩] scope pos) (some (.Name y py)) spos.line X.env=pure true:=by rfl) :
  PS X (.Assign [.Name y py] (.ListComp elt [⟨tg,iter,ifs,0⟩] scope pos) spos) (tAsg (tComp n cap wi g tt te) (gName i)):=by
 intro pins s σ H D I h
 have hclos:closureFor scope X.env=pure (clOf scope X.env):=closureFor_cl fun y hy hk=>I.ok.has y.1 (by
  show X.env.scope.names.lookup y.1=_∨X.env.scope.names.lookup y.1=_
  rw [he];exact S.free y hy hk)
 rw [exec_Assign_Name_used _ _ _ _ hsw]
 refine wpAny_bind (wpAny_standAt (wpAny_bind ?_))
 show wpAny _ X.A (do let _ ←comprehension (.ListComp elt [⟨tg,iter,ifs,0⟩] scope pos) scope X.env _ (newList []) false (eval iter X.env) (some (assign (.Name y py) X.env))) _ _ s
 refine wpAny_bind (wpAny_mono (wpAny_comprehension_free (use:=some (assign (.Name y py) X.env)) (Q:=fun _ s'=>SP X pins D .next s') rfl hs hclos S.kind S.loc
  (thn (hi pins s σ H _ I h) fun v s1 h1=>thn h1 fun itv s2 h2=>?_)) (fun _ s' hq=>wpAny_pure (wpAny_pure hq)) fun _ _ e=>e)
 obtain ⟨it,fp,tn,J,H2,e,I2,T,st2,f2,hq⟩:=h2
 subst e
 refine comp_run S he hN hc hg ht hel I2 T st2 f2 hq fun D' C H' s' m I' fC hn q=>?_
 show wpAny _ X.A (assign (.Name y py) X.env (.ref D')) _ _ _
 refine wpAny_assign_Name (store_ok2 (v:=.ref D') I' hNd hi' (.inl hy) rfl (fun s'' I'' ch=>?_) (.inr hy))
 obtain ⟨a,hsb,ha⟩:=ch
 have hCa:C≠a:=by
  rcases ha with z | z
  ·rw [z];exact fC.2.1
  ·exact fun w=>fC.2.2.2.2.1 y a z w.symm
 refine ⟨m,hn.sameBut hsb hCa,fun h' hs'=>?_⟩
 exact ⟨_,H',I''.turned (t':=s''.toks) (fun b o hb e=>hs'.extBut b o hb e) fC.1 fC.2.1 fC.2.2.2.1 fC.2.2.2.2.1 fC.2.2.2.2.2,q⟩
end
end L2
namespace L2
open PySem PySem.Spec PyProof.Rows
structure Has (P:Program) (w:World) (K:PySem.W.Frag) (mg:Str→Option Value) (base:Heap) (x:Str) (ps:List Str) (k:Nat) (sp:Sp):Prop where
 ex:∃f fd,FnOk P w K mg base CX0 k f fd ps sp∧Binds K fd ps []∧PySem.W.keepIn K (.ref f)=true∧mg x=some (.ref f)
structure Df (K:PySem.W.Frag) (mg:Str→Option Value) (x:Str) (st:Stmt) (ps:List Str):Prop where
 ex:∃f fd,Fun K x x st f fd∧Binds K fd ps []∧mg x=some (.ref f)
section
variable {P:Program} {w:World} {K:PySem.W.Frag} {mg:Str→Option Value} {base:Heap} {x:Str} {st:Stmt} {ps N:List Str} {k:Nat} {sp:Sp}
theorem Has.mono {j:Nat} (h:Has P w K mg base x ps k sp) (hj:k≤j):Has P w K mg base x ps j sp:=by
 obtain ⟨f,fd,a,b⟩:=h.ex
 exact ⟨f,fd,a.mono hj,b⟩
end
section
variable {X:Cx} {x:Str} {ps:List Str} {k:Nat} {sp:Sp} {p pos:Pos} {e:Expr} {es:List Expr} {t:TA}
def tFn (sp:Sp) (t:TA):TE:=fun σ H Q=>t σ H fun vs H1=>sp vs H1 Q E0
theorem pe_fn (h:Has X.prog X.w X.K X.mg X.base x ps k sp) (hr:Room k X.A) (hg:Gl X x) (ha:PA X (e :: es) t) (hdb:(x == ("__debug__":Str))=false:=by decide)
  (he:starEach (e :: es) X.env=(false,eval e X.env) :: starEach es X.env:=by rfl) (hpl:(backTo pos (starEach es X.env)).any (·.1)=false:=by rfl):PE X (.Call (.Name x p) (e :: es) [] pos) (tFn sp t):=by
 obtain ⟨f,fd,F,b,kp,m⟩:=h.ex
 intro pins s σ H Q I hq
 refine pe_call (dvs:=[]) (ds:=[]) F hr hg m kp b .nil pass0 ha hdb he hpl pins s σ H Q I ?_
 have hq':t σ H fun vs H1=>sp vs H1 Q E0:=hq
 show t σ H fun vs H1=>sp (vs ++ []) H1 Q E0
 simpa only [List.append_nil] using hq'
end
structure Bl (mg:Str→Option Value):Prop where
 len:mg "len"=none
 range:mg "range"=none
 isinstance:mg "isinstance"=none
 max:mg "max"=none
 any:mg "any"=none
 all:mg "all"=none
 int':mg "int"=none
 bool':mg "bool"=none
 list':mg "list"=none
 tuple':mg "tuple"=none
 str':mg "str"=none
structure Kit (K:PySem.W.Frag):Prop where
 ans:∀t∈["NoneType","bool","int","str","list","tuple"],∀c∈["int","bool","tuple","list","str"],PySem.W.kitOne K (.type t) (.type c)=some (t == c || (t == "bool" && c == "int"))
inductive TyW (K:PySem.W.Frag) (H:Hp):V→String→Prop where
 | non:TyW K H .non "NoneType"
 | bl (x:Bool):TyW K H (.bl x) "bool"
 | int (i:Int):TyW K H (.int i) "int"
 | str (x:Str):TyW K H (.str x) "str"
 | lst {a:Addr} {xs:List V} (e:SqL K H a xs):TyW K H (.ref a) "list"
 | tup {a:Addr} {xs:List V} (e:SqT K H a xs):TyW K H (.ref a) "tuple"
abbrev tyNs:List String:=["NoneType","bool","int","str","list","tuple"]
theorem TyW.mem {K:PySem.W.Frag} {H:Hp} {x:V} {t:String} (h:TyW K H x t):t∈tyNs:=by
 cases h <;> decide
section
variable {X:Cx}
def isiB (t n:String):Bool:=t == n || (t == "bool" && n == "int")
def rIsi (K:PySem.W.Frag):List V→Hp→VK→Prop:=fun xs H Q=>∃x n t,xs=[x,.ty n]∧TyW K H x t∧n∈["int","bool","tuple","list","str"]∧Q (.bl (isiB t n)) H
theorem call_isi (kt:Kit X.K):CallR X (.builtin "isinstance") (rIsi X.K):=by
 intro pins s σ H xs us Q I rv h
 obtain ⟨x,n,t,rfl,ty,hn,q⟩:=h
 obtain ⟨u,w',rfl,r1,r2⟩:=vals2 rv
 cases (show w'=Value.type n from r2)
 have e:=kt.ans t ty.mem n hn
 have fin:∀tk,EP X pins σ Q (.bool (isiB t n)) { s with toks:=tk }:=fun tk=>⟨.bl _,H,I.tok tk,rfl,q⟩
 cases ty with
 | non=>cases (show u=Value.none from r1);exact PySem.W.kia_one PySem.W.kitx_none I.kIn True.intro e (fun z=>nomatch z) fin
 | bl y=>cases (show u=Value.bool y from r1);exact PySem.W.kia_one PySem.W.kitx_bool I.kIn True.intro e (fun z=>nomatch z) fin
 | int i=>obtain ⟨t,q⟩:=(show ∃t,u=Value.int i t from r1);cases q;exact PySem.W.kia_one PySem.W.kitx_int I.kIn True.intro e (fun z=>nomatch z) fin
 | str y=>obtain ⟨t,q⟩:=(show ∃t,u=Value.str y t from r1);cases q;exact PySem.W.kia_one PySem.W.kitx_str I.kIn True.intro e (fun z=>nomatch z) fin
 | @lst a xs ea=>
  cases (show u=Value.ref a from r1)
  obtain ⟨its,_,⟨o,n',h1,h2,_⟩,_⟩:=I.list ea
  exact PySem.W.kia_one PySem.W.kitx_list I.kIn ⟨o,h1,h2⟩ e (fun z=>nomatch z) fin
 | @tup a xs ea=>
  cases (show u=Value.ref a from r1)
  obtain ⟨its,_,⟨o,h1,h2,_⟩,_⟩:=I.tuple ea
  exact PySem.W.kia_one PySem.W.kitx_tuple I.kIn ⟨o,h1,h2⟩ e (fun z=>nomatch z) fin
end
mutual
def Rep (K:PySem.W.Frag) (H:Hp):PyData→V→Prop
 | .none,v=>v = .non
 | .bool b,v=>v = .bl b
 | .int i,v=>v = .int i
 | .str x,v=>v = .str x
 | .list ds,v=>∃a xs,v = .ref a∧SqL K H a xs∧RepAll K H ds xs
 | .tuple ds,v=>∃a xs,v = .ref a∧SqT K H a xs∧RepAll K H ds xs
 | .dict _,_=>False
def RepAll (K:PySem.W.Frag) (H:Hp):List PyData→List V→Prop
 | [],xs=>xs=[]
 | d :: ds,xs=>∃x r,xs=x :: r∧Rep K H d x∧RepAll K H ds r
end
theorem Same.seqT [TabP] {K:PySem.W.Frag} {H H':Hp} {a:Addr} {xs:List V} (e:Same H H') (h:SqT K H a xs):SqT K H' a xs:=by
 rcases h with (h | ⟨o,h⟩) | h
 ·exact .inl (.inl (e.at' _ _ h))
 ·exact .inl (.inr ⟨o,e.at' _ _ h⟩)
 ·exact .inr h
section
variable {X:Cx} {pins:List (Addr×Obj)} {σ:St} {H:Hp} {s:Shared}
mutual
theorem Rep.reads (I:Inv X pins σ H s):∀{d:PyData} {v:V} {u:Value},Rep X.K H d v→RelV v u→∃as,Reads s.heap u d as
 | .none,_,_,h,r=>by cases h;cases r;exact ⟨_,.none⟩
 | .bool _,_,_,h,r=>by cases h;cases r;exact ⟨_,.bool _⟩
 | .int _,_,_,h,r=>by cases h;obtain ⟨t,rfl⟩:=r;exact ⟨_,.int _ _⟩
 | .str _,_,_,h,r=>by cases h;obtain ⟨t,rfl⟩:=r;exact ⟨_,.str _ _⟩
 | .list _,_,_,h,r=>by
  obtain ⟨a,xs,rfl,l,q⟩:=h
  cases r
  obtain ⟨its,rv,⟨o,n,e,c,_,d⟩,_⟩:=I.list l
  obtain ⟨as,z⟩:=RepAll.reads I q rv
  exact ⟨_,.list e c d (by simpa using z)⟩
 | .tuple _,_,_,h,r=>by
  obtain ⟨a,xs,rfl,l,q⟩:=h
  cases r
  obtain ⟨its,rv,⟨o,e,c,n,d⟩,_⟩:=I.tuple l
  obtain ⟨as,z⟩:=RepAll.reads I q rv
  exact ⟨_,.tuple e c d (by simpa using z)⟩
 | .dict _,_,_,h,_=>h.elim
theorem RepAll.reads (I:Inv X pins σ H s):∀{ds:List PyData} {xs:List V} {us:List Value},RepAll X.K H ds xs→Vals xs us→∃as,ReadsAll s.heap us ds as
 | [],_,_,h,r=>by cases h;cases r;exact ⟨_,.nil⟩
 | _ :: _,_,_,h,r=>by
  obtain ⟨x,t,rfl,a,b⟩:=h
  cases r with
  | cons r1 r2=>
   obtain ⟨as,z1⟩:=Rep.reads I a r1
   obtain ⟨bs,z2⟩:=RepAll.reads I b r2
   exact ⟨_,.cons z1 z2⟩
end
end
section
variable {X:Cx}
def rEqD (K:PySem.W.Frag) (neg:Bool):R2:=fun x y H Q=>∃d e,Rep K H d x∧Rep K H e y∧SeqAt.shaped d=true∧SeqAt.shaped e=true∧Q (.bl (if neg then !PyData.eqv d e else PyData.eqv d e)) H
theorem op_eqD (hu:X.A.units + 64 < cLine):OpR X (compareOp .Eq) (rEqD X.K false):=by
 intro pins s σ H x y v u Q I rx ry h
 obtain ⟨d,e,a,b,sa,sb,q⟩:=h
 obtain ⟨as,ra⟩:=a.reads I rx
 obtain ⟨bs,rb⟩:=b.reads I ry
 exact eq_dataH ra rb sa sb hu ⟨.bl _,H,I,rfl,q⟩
theorem op_neD (hu:X.A.units + 64 < cLine):OpR X (compareOp .NotEq) (rEqD X.K true):=by
 intro pins s σ H x y v u Q I rx ry h
 obtain ⟨d,e,a,b,sa,sb,q⟩:=h
 obtain ⟨as,ra⟩:=a.reads I rx
 obtain ⟨bs,rb⟩:=b.reads I ry
 exact ne_dataH ra rb sa sb hu ⟨.bl _,H,I,rfl,q⟩
end
theorem repAll_ints {K:PySem.W.Frag} {H:Hp}:∀ns:List Int,RepAll K H (ns.map PyData.int) (ns.map V.int)
 | []=>rfl
 | n :: r=>⟨.int n,r.map V.int,rfl,rfl,repAll_ints r⟩
end L2
namespace L2
open PySem PySem.Spec PyProof.Rows
theorem bt_len:bootBuiltins "len"=some (.builtin "len"):=by decide +kernel
theorem bt_isinstance:bootBuiltins "isinstance"=some (.builtin "isinstance"):=by decide +kernel
theorem bt_max:bootBuiltins "max"=some (.builtin "max"):=by decide +kernel
theorem bt_int:bootBuiltins "int"=some (.type "int"):=by decide +kernel
theorem bt_bool:bootBuiltins "bool"=some (.type "bool"):=by decide +kernel
theorem bt_list:bootBuiltins "list"=some (.type "list"):=by decide +kernel
theorem bt_tuple:bootBuiltins "tuple"=some (.type "tuple"):=by decide +kernel
theorem bt_str:bootBuiltins "str"=some (.type "str"):=by decide +kernel
variable [TabP]
def ItOk (J:It) (H1:Hp) (xs:List V):Prop:=∀H,Same H1 H→∀i,(i < xs.length→J.go i H∧∀x H',J.yld i H x H'→H'=H∧xs[i]? = some x)∧(xs.length≤i→J.stop i H)
theorem itl_ok {K:PySem.W.Frag} {H:Hp} {a:Addr} {xs:List V} (h:SqL K H a xs):ItOk (Itl K a) H xs:=fun H' s i=>
 ⟨fun hi=>⟨⟨xs,xs[i],s.seq h,by simp [hi]⟩,fun x H'' y=>⟨y.1,y.2 xs (s.seq h)⟩⟩,fun hi=>⟨xs,s.seq h,hi⟩⟩
theorem itt_ok {K:PySem.W.Frag} {H:Hp} {a:Addr} {xs:List V} (h:SqT K H a xs):ItOk (Itt K a) H xs:=fun H' s i=>
 ⟨fun hi=>⟨⟨xs,xs[i],s.seqT h,by simp [hi]⟩,fun x H'' y=>⟨y.1,y.2 xs (s.seqT h)⟩⟩,fun hi=>⟨xs,s.seqT h,hi⟩⟩
def rngV (lo:Int) (n:Nat):List V:=(List.range n).map fun i=>V.int (lo + (i:Nat))
theorem itr_ok {H:Hp} (lo:Int) (n:Nat):ItOk (Itr lo n) H (rngV lo n):=fun H' s i=>by
 have hl:(rngV lo n).length=n:=by unfold rngV;rw [List.length_map,List.length_range]
 refine ⟨fun hi=>⟨by rw [hl] at hi;exact hi,fun x H'' y=>⟨y.1,?_⟩⟩,fun hi=>by rw [hl] at hi;exact hi⟩
 rw [hl] at hi
 rw [y.2]
 unfold rngV
 rw [List.getElem?_map,List.getElem?_range hi]
 rfl
end L2
namespace L2
open PySem PySem.Spec PyProof.Rows
theorem Df.none {P:Program} {w:World} {K:PySem.W.Frag} {mg:Str→Option Value} {base:Heap} {x:Str} {st:Stmt} {ps:List Str} {k:Nat} {sp:Sp} (D:Df K mg x st ps) (no:∀vs H Q E,¬sp vs H Q E):Has P w K mg base x ps k sp:=by
 obtain ⟨f,fd,F,b,m⟩:=D.ex
 exact ⟨f,fd,⟨fun vs H Q E h=>absurd h (no vs H Q E),fun A outer s H args us vs Q E _ _ _ _ h=>absurd h (no vs H Q E)⟩,b,F.kp,m⟩
end L2
namespace L2
open PySem PySem.Spec PyProof.Rows
theorem kit_all (K:PySem.W.Frag):Kit K:=⟨by
 intro t ht c hc
 simp only [List.mem_cons,List.mem_nil_iff,or_false] at ht hc
 rcases ht with rfl | rfl | rfl | rfl | rfl | rfl <;> rcases hc with rfl | rfl | rfl | rfl | rfl <;> kernel_rfl⟩
end L2
set_option maxHeartbeats 1000000
namespace L3
open PySem PySem.Spec L2
variable [L2.TabP]
inductive D where
 | non | bl (b:Bool) | int (i:Int) | str (x:Str) | tup (xs:List D) | lst (xs:List D) | dic (ks:List Key) (vs:List D) | fn (f:Str) | ty (n:String)
abbrev Pl:=Int×Int×Int
inductive Tr where
 | lf (d:D) | ls (ts:List Tr) | dc (ks:List Key) (ts:List Tr) | ob (c:Str) (ns:List Str) (ts:List Tr) | any | tp (ts:List Tr) | dt (kvs:List (List Key×D))
inductive TM where
 | own | par | view
 deriving DecidableEq
inductive Slot where
 | emp | val (d:D) | ow (p:Bool) (xs:List D) | vw (xs:List D) | dct (kvs:List (Key×D)) | vd (kvs:List (Key×D)) | pd (kvs:List (Pl×D)) | vp (kvs:List (Pl×D)) | tr (m:TM) (t:Tr)
abbrev En:=List Slot
structure Ob where
 cls:Str
 fs:List (Str×Slot)
abbrev Store:=List Ob
inductive Out (α:Type) where
 | ok (a:α) (S:Store) | exc (c:Str) (S:Store) | bad
structure M (α:Type):Type where
 run:Store→Out α
def M.bnd {α β:Type} (m:M α) (f:α→M β):M β:=⟨fun S=>match m.run S with
 | .ok a S'=>(f a).run S'
 | .exc c S'=>.exc c S'
 | .bad=>.bad⟩
instance:Monad M where
 pure a:=⟨fun S=>.ok a S⟩
 bind:=M.bnd
omit [L2.TabP] in
theorem M.ext {α:Type} {x y:M α} (h:∀S,x.run S=y.run S):x=y:=by
 cases x;cases y;congr;funext S;exact h S
omit [L2.TabP] in
theorem M.bind_def {α β:Type} (m:M α) (f:α→M β):(m >>= f)=M.bnd m f:=rfl
instance:LawfulMonad M:=LawfulMonad.mk'
 (id_map:=fun x=>M.ext fun S=>by show (M.bnd x (fun a=>pure (id a))).run S=x.run S;unfold M.bnd;dsimp only;cases x.run S <;> rfl)
 (pure_bind:=fun x f=>rfl)
 (bind_assoc:=fun x f g=>M.ext fun S=>by show (M.bnd (M.bnd x f) g).run S=(M.bnd x (fun a=>M.bnd (f a) g)).run S;unfold M.bnd;dsimp only;cases x.run S <;> rfl)
 (bind_pure_comp:=fun f x=>rfl)
def bad {α:Type}:M α:=⟨fun _=>.bad⟩
omit [L2.TabP] in
theorem M.inv {α β:Type} {m:M α} {f:α→M β} {S S':Store} {b:β} (h:(m >>= f).run S = .ok b S'):∃a S1,m.run S = .ok a S1∧(f a).run S1 = .ok b S':=by
 rw [M.bind_def] at h
 unfold M.bnd at h
 dsimp only at h
 cases e:m.run S with
 | ok a S1=>rw [e] at h;exact ⟨a,S1,rfl,h⟩
 | exc c S1=>rw [e] at h;cases h
 | bad=>rw [e] at h;cases h
def chk (p:Prop) [Decidable p]:M Unit:=if p then pure () else bad
omit [L2.TabP] in
theorem chk_inv {p:Prop} [Decidable p] {S S':Store} {u:Unit} (h:(chk p).run S = .ok u S'):p∧S=S':=by
 unfold chk at h
 by_cases hp:p
 ·rw [if_pos hp] at h;cases h;exact ⟨hp,rfl⟩
 ·rw [if_neg hp] at h;cases h
inductive R where
 | v (d:D) | fr (xs:List D) | vw (xs:List D) | mv (xs:List D) | dv (kvs:List (Key×D))
abbrev ME:=En→M R
inductive Own where
 | free | out | tmp | loc (i:Nat) | tr (i:Nat) (p:List Nat)
 deriving DecidableEq
def Own.at:Own→List Nat→Own
 | .loc i,p=>.tr i p
 | w,_=>w
def TM.ow:TM→Own→Own
 | .view,_=>.out
 | _,w=>w
abbrev Ow:=Addr→Own
def KLst (K:PySem.W.Frag) (a:Addr) (xs:List V):Prop:=
 ∃(o:Obj) (its:Array Value) (n:Nat),K.lookup a=some o∧o.cls = .type "list"∧o.dict=none∧o.data = .seq its n∧its.size≤sizeLine∧Vals xs its.toList
def LsF (_:PySem.W.Frag) (O:Ow) (H:Hp) (a:Addr) (ys:List V):Prop:=H a=some (.lst ys)∧O a = .free
mutual
def Rep (K:PySem.W.Frag) (mg:Str→Option Value) (O:Ow) (H:Hp):D→V→Prop
 | .non,v=>v = .non
 | .bl b,v=>v = .bl b
 | .int i,v=>v = .int i
 | .str x,v=>v = .str x
 | .tup xs,v=>∃a ys,v = .ref a∧SqT K H a ys∧RepAll K mg O H xs ys
 | .lst xs,v=>∃a ys,v = .ref a∧LsF K O H a ys∧RepAll K mg O H xs ys
 | .dic _ _,_=>False
 | .fn f,v=>∃a,v = .ref a∧mg f=some (.ref a)
 | .ty n,v=>v = .ty n
def RepAll (K:PySem.W.Frag) (mg:Str→Option Value) (O:Ow) (H:Hp):List D→List V→Prop
 | [],ys=>ys=[]
 | x :: xs,ys=>∃y r,ys=y :: r∧Rep K mg O H x y∧RepAll K mg O H xs r
end
structure Go (O O':Ow) (H H':Hp):Prop where
 same:Same H H'
 own:∀b,H b≠none→O' b=O b
theorem Go.refl (O:Ow) (H:Hp):Go O O H H:=⟨Same.refl _,fun _ _=>rfl⟩
theorem Go.trans {O O1 O2:Ow} {H H1 H2:Hp} (a:Go O O1 H H1) (b:Go O1 O2 H1 H2):Go O O2 H H2:=
 ⟨a.same.trans b.same,fun c h=>(b.own c (a.same.some h)).trans (a.own c h)⟩
theorem Rd.same {H H':Hp} (s:Same H H') {a:Addr} {u:HO} (h:Rd H a u) (n:nT u:=by exact trivial):Rd H' a u:=by
 rcases h with h | ⟨o,h⟩
 ·exact .inl (s.at' _ _ h n)
 ·exact .inr ⟨o,s.at' _ _ h⟩
omit [L2.TabP] in
theorem Rd.some {H:Hp} {a:Addr} {u:HO} (h:Rd H a u):H a≠none:=by
 rcases h with h | ⟨o,h⟩ <;> rw [h] <;> intro z <;> cases z
theorem LsF.sq {K:PySem.W.Frag} {O:Ow} {H:Hp} {a:Addr} {ys:List V} (h:LsF K O H a ys):SqL K H a ys:=SqL.of h.1
def LsV (K:PySem.W.Frag) (O:Ow) (H:Hp) (a:Addr) (ys:List V):Prop:=(Rd H a (.lst ys)∧(O a = .free∨O a = .out))∨KLst K a ys
theorem LsV.sq {K:PySem.W.Frag} {O:Ow} {H:Hp} {a:Addr} {ys:List V} (h:LsV K O H a ys):SqL K H a ys:=h.elim (fun z=>.inl z.1) .inr
theorem LsV.go {K:PySem.W.Frag} {O O':Ow} {H H':Hp} (g:Go O O' H H') {a:Addr} {ys:List V} (h:LsV K O H a ys):LsV K O' H' a ys:=by
 rcases h with ⟨l,f⟩ | l
 ·exact .inl ⟨Rd.same g.same l,by rw [g.own a (Rd.some l)];exact f⟩
 ·exact .inr l
theorem LsF.go {K:PySem.W.Frag} {O O':Ow} {H H':Hp} (g:Go O O' H H') {a:Addr} {ys:List V} (h:LsF K O H a ys):LsF K O' H' a ys:=by
 exact ⟨g.same.at' _ _ h.1,(g.own a (by rw [h.1];intro z;cases z)).trans h.2⟩
section
variable {K:PySem.W.Frag} {mg:Str→Option Value} {O O':Ow} {H H':Hp}
mutual
theorem Rep.go (g:Go O O' H H'):∀{d:D} {v:V},Rep K mg O H d v→Rep K mg O' H' d v
 | .non,_,h=>h
 | .bl _,_,h=>h
 | .int _,_,h=>h
 | .str _,_,h=>h
 | .tup _,_,h=>by obtain ⟨a,ys,q,l,r⟩:=h;exact ⟨a,ys,q,g.same.seqT l,RepAll.go g r⟩
 | .lst _,_,h=>by obtain ⟨a,ys,q,l,r⟩:=h;exact ⟨a,ys,q,l.go g,RepAll.go g r⟩
 | .dic _ _,_,h=>h
 | .fn _,_,h=>h
 | .ty _,_,h=>h
theorem RepAll.go (g:Go O O' H H'):∀{ds:List D} {ys:List V},RepAll K mg O H ds ys→RepAll K mg O' H' ds ys
 | [],_,h=>h
 | _ :: _,_,h=>by obtain ⟨x,r,q,a,b⟩:=h;exact ⟨x,r,q,Rep.go g a,RepAll.go g b⟩
end
structure Fre (O O':Ow):Prop where
 fr:∀a,O a = .free→O' a = .free
mutual
theorem Rep.fre (g:Fre O O'):∀{d:D} {v:V},Rep K mg O H d v→Rep K mg O' H d v
 | .non,_,h=>h
 | .bl _,_,h=>h
 | .int _,_,h=>h
 | .str _,_,h=>h
 | .tup _,_,h=>by obtain ⟨a,ys,q,l,r⟩:=h;exact ⟨a,ys,q,l,RepAll.fre g r⟩
 | .lst _,_,h=>by obtain ⟨a,ys,q,l,r⟩:=h;exact ⟨a,ys,q,⟨l.1,g.fr _ l.2⟩,RepAll.fre g r⟩
 | .dic _ _,_,h=>h
 | .fn _,_,h=>h
 | .ty _,_,h=>h
theorem RepAll.fre (g:Fre O O'):∀{ds:List D} {ys:List V},RepAll K mg O H ds ys→RepAll K mg O' H ds ys
 | [],_,h=>h
 | _ :: _,_,h=>by obtain ⟨x,r,q,a,b⟩:=h;exact ⟨x,r,q,Rep.fre g a,RepAll.fre g b⟩
end
theorem RepAll.len:∀{ds:List D} {xs:List V},RepAll K mg O H ds xs→xs.length=ds.length
 | [],_,h=>by cases h;rfl
 | _ :: _,_,h=>by obtain ⟨x,r,rfl,_,b⟩:=h;rw [List.length_cons,List.length_cons,RepAll.len b]
theorem RepAll.get:∀{ds:List D} {xs:List V} {i:Nat} {d:D},RepAll K mg O H ds xs→ds[i]? = some d→∃x,xs[i]? = some x∧Rep K mg O H d x
 | [],_,_,_,_,e=>by simp at e
 | _ :: _,_,0,d,h,e=>by obtain ⟨x,r,rfl,a,_⟩:=h;cases (show some _=some d from e);exact ⟨x,rfl,a⟩
 | _ :: ds,_,i + 1,d,h,e=>by
  obtain ⟨x,r,rfl,_,b⟩:=h
  obtain ⟨y,e1,e2⟩:=RepAll.get (i:=i) b (by simpa using e)
  exact ⟨y,by simpa using e1,e2⟩
theorem RepAll.getV:∀{ds:List D} {xs:List V} {i:Nat} {x:V},RepAll K mg O H ds xs→xs[i]? = some x→∃d,ds[i]? = some d∧Rep K mg O H d x
 | [],_,_,_,h,e=>by cases h;simp at e
 | _ :: _,_,0,x,h,e=>by obtain ⟨y,r,rfl,a,_⟩:=h;cases (show some _=some x from e);exact ⟨_,rfl,a⟩
 | _ :: ds,_,i + 1,d,h,e=>by
  obtain ⟨x,r,rfl,_,b⟩:=h
  obtain ⟨y,e1,e2⟩:=RepAll.getV (i:=i) b (by simpa using e)
  exact ⟨y,by simpa using e1,e2⟩
theorem RepAll.append:∀{ds es:List D} {xs ys:List V},RepAll K mg O H ds xs→RepAll K mg O H es ys→RepAll K mg O H (ds ++ es) (xs ++ ys)
 | [],_,_,_,h,q=>by cases h;exact q
 | _ :: _,_,_,_,h,q=>by obtain ⟨x,r,rfl,a,b⟩:=h;exact ⟨x,_,rfl,a,RepAll.append b q⟩
theorem RepAll.one {d:D} {x:V} (h:Rep K mg O H d x):RepAll K mg O H [d] [x]:=⟨x,[],rfl,h,rfl⟩
theorem RepAll.take:∀{ds:List D} {xs:List V} (n:Nat),RepAll K mg O H ds xs→RepAll K mg O H (ds.take n) (xs.take n)
 | [],_,_,h=>by cases h;rw [List.take_nil,List.take_nil];rfl
 | _ :: _,_,0,_=>by rw [List.take_zero,List.take_zero];rfl
 | _ :: _,_,n + 1,h=>by obtain ⟨x,r,rfl,a,b⟩:=h;exact ⟨x,_,rfl,a,RepAll.take n b⟩
theorem RepAll.drop:∀{ds:List D} {xs:List V} (n:Nat),RepAll K mg O H ds xs→RepAll K mg O H (ds.drop n) (xs.drop n)
 | [],_,_,h=>by cases h;rw [List.drop_nil,List.drop_nil];rfl
 | _ :: _,_,0,h=>h
 | _ :: _,_,n + 1,h=>by obtain ⟨x,r,rfl,a,b⟩:=h;exact RepAll.drop n b
theorem repAll_ints (ns:List Int):RepAll K mg O H (ns.map D.int) (ns.map V.int):=by
 induction ns with
 | nil=>rfl
 | cons n r ih=>exact ⟨.int n,_,rfl,rfl,ih⟩
def RepKV (K:PySem.W.Frag) (mg:Str→Option Value) (O:Ow) (H:Hp) (kvs:List (Key×D)) (kvv:List (Key×V)):Prop:=kvs.map (·.1)=kvv.map (·.1)∧RepAll K mg O H (kvs.map (·.2)) (kvv.map (·.2))
theorem RepKV.go (g:Go O O' H H') {kvs:List (Key×D)} {kvv:List (Key×V)} (h:RepKV K mg O H kvs kvv):RepKV K mg O' H' kvs kvv:=⟨h.1,h.2.go g⟩
theorem RepKV.fre (g:Fre O O') {kvs:List (Key×D)} {kvv:List (Key×V)} (h:RepKV K mg O H kvs kvv):RepKV K mg O' H kvs kvv:=⟨h.1,h.2.fre g⟩
def plD (p:Pl):D:=.tup [.int p.1,.tup [.int p.2.1,.int p.2.2]]
def plH (p:Pl):Int:=reduceHash (Builtin.Tuple.tupleHashOf [hashInt p.1,reduceHash (Builtin.Tuple.tupleHashOf [hashInt p.2.1,hashInt p.2.2])])
def plE (x:Pl×Addr×Value):DictEntry:=⟨plH x.1,.ref x.2.1,x.2.2⟩
abbrev PD (a:Addr) (xs:List (Pl×Addr×Value)):HO:=.ext fun h=>∃o es ep,h.get? a=some o∧o.ExactDict∧o.data = .dict es ep∧es.toList=xs.map plE
def PdOk (a:Addr) (xs:List (Pl×Addr×Value)):Prop:=(a == sysModules)=false∧(xs.map (·.1)).Nodup
def RepPD (K:PySem.W.Frag) (mg:Str→Option Value) (O:Ow) (H:Hp):List (Pl×D)→List (Pl×Addr×Value)→Prop
 | [],xs=>xs=[]
 | p :: kvs,xs=>∃x r,xs=x :: r∧p.1=x.1∧Rep K mg O H (plD p.1) (.ref x.2.1)∧(∃v,Rep K mg O H p.2 v∧RelV v x.2.2)∧RepPD K mg O H kvs r
theorem RepPD.all {O':Ow} {H':Hp} (f:∀d v,Rep K mg O H d v→Rep K mg O' H' d v):∀{kvs:List (Pl×D)} {xs:List (Pl×Addr×Value)},RepPD K mg O H kvs xs→RepPD K mg O' H' kvs xs
 | [],_,h=>h
 | _ :: _,_,h=>by
  obtain ⟨x,r,e,e1,h1,⟨v,h2,h3⟩,h4⟩:=h
  exact ⟨x,r,e,e1,f _ _ h1,⟨v,f _ _ h2,h3⟩,RepPD.all f h4⟩
theorem RepPD.go (g:Go O O' H H') {kvs:List (Pl×D)} {xs:List (Pl×Addr×Value)} (h:RepPD K mg O H kvs xs):RepPD K mg O' H' kvs xs:=h.all fun _ _ z=>Rep.go g z
theorem RepPD.fre (g:Fre O O') {kvs:List (Pl×D)} {xs:List (Pl×Addr×Value)} (h:RepPD K mg O H kvs xs):RepPD K mg O' H kvs xs:=h.all fun _ _ z=>Rep.fre g z
def RepR (K:PySem.W.Frag) (mg:Str→Option Value) (O:Ow) (H:Hp):R→V→Prop
 | .v d,v=>Rep K mg O H d v
 | .fr xs,v=>∃a ys,v = .ref a∧H a=some (.lst ys)∧O a = .tmp∧RepAll K mg O H xs ys
 | .vw xs,v=>∃a ys,v = .ref a∧LsV K O H a ys∧RepAll K mg O H xs ys
 | .mv xs,v=>∃a ys,v = .ref a∧H a=some (.lst ys)∧RepAll K mg O H xs ys
 | .dv kvs,v=>∃a kvv,v = .ref a∧Rd H a (.dK kvv)∧RepKV K mg O H kvs kvv
theorem RepR.go (g:Go O O' H H'):∀{r:R} {v:V},RepR K mg O H r v→RepR K mg O' H' r v
 | .v _,_,h=>Rep.go g h
 | .fr _,_,h=>by obtain ⟨a,ys,q,l,o,r⟩:=h;exact ⟨a,ys,q,g.same.at' _ _ l,(g.own a (by rw [l];intro z;cases z)).trans o,r.go g⟩
 | .vw _,_,h=>by obtain ⟨a,ys,q,l,r⟩:=h;exact ⟨a,ys,q,l.go g,r.go g⟩
 | .mv _,_,h=>by obtain ⟨a,ys,q,l,r⟩:=h;exact ⟨a,ys,q,g.same.at' _ _ l,r.go g⟩
 | .dv _,_,h=>by obtain ⟨a,ys,q,l,r⟩:=h;exact ⟨a,ys,q,Rd.same g.same l,r.go g⟩
theorem RepAll.imp {O':Ow} {H':Hp} (f:∀d v,Rep K mg O H d v→Rep K mg O' H' d v):∀{ds:List D} {ys:List V},RepAll K mg O H ds ys→RepAll K mg O' H' ds ys
 | [],_,h=>h
 | _ :: _,_,h=>by obtain ⟨x,r,q,a,b⟩:=h;exact ⟨x,r,q,f _ _ a,RepAll.imp f b⟩
def ClsIs (K:PySem.W.Frag) (mg:Str→Option Value) (c:Str) (C:Addr):Prop:=mg c=some (.ref C)∧Cls K C
mutual
def TreeR (K:PySem.W.Frag) (mg:Str→Option Value) (O:Ow) (H:Hp) (w:Own):List Nat→Tr→V→Prop
 | _,.lf d,v=>Rep K mg O H d v
 | p,.ls ts,v=>∃a ys,v = .ref a∧O a=w.at p∧H a=some (.lst ys)∧TreeAll K mg O H w p 0 ts ys
 | p,.dc ks ts,v=>∃a ys,v = .ref a∧O a=w.at p∧H a=some (.dK (ks.zip ys))∧(ks.length=ys.length∧ks.Nodup)∧TreeAll K mg O H w p 0 ts ys
 | p,.ob c ns ts,v=>∃a C dx ys,v = .ref a∧O a=w.at p∧H a=some (.ins C dx (ns.zip ys))∧(ns.length=ys.length∧ns.Nodup∧ClsIs K mg c C)∧TreeAll K mg O H w p 0 ts ys
 | _,.any,_=>True
 | p,.tp ts,v=>∃a ys,v = .ref a∧O a=w.at p∧H a=some (.tup ys)∧TreeAll K mg O H w p 0 ts ys
 | p,.dt kvs,v=>∃a xs,v = .ref a∧O a=w.at p∧H a=some (.dT xs)∧kvs.map (·.1)=xs.map (·.1)∧RepAll K mg O H (kvs.map (·.2)) (xs.map (·.2))
def TreeAll (K:PySem.W.Frag) (mg:Str→Option Value) (O:Ow) (H:Hp) (w:Own):List Nat→Nat→List Tr→List V→Prop
 | _,_,[],ys=>ys=[]
 | p,n,t :: ts,ys=>∃y r,ys=y :: r∧TreeR K mg O H w (p ++ [n]) t y∧TreeAll K mg O H w p (n + 1) ts r
end
mutual
theorem TreeR.all {O':Ow} {H':Hp} {w:Own} (f:∀d v,Rep K mg O H d v→Rep K mg O' H' d v) (g:∀(a:Addr) (u:HO) (p:List Nat),O a=w.at p→H a=some u→nT u→O' a=w.at p∧H' a=some u):∀(t:Tr) {p:List Nat} {v:V},TreeR K mg O H w p t v→TreeR K mg O' H' w p t v
 | .lf _,_,_,h=>f _ _ h
 | .ls ts,_,_,h=>by
  obtain ⟨a,ys,e,o,l,r⟩:=h
  obtain ⟨o',l'⟩:=g _ _ _ o l trivial
  exact ⟨a,ys,e,o',l',TreeAll.all f g ts r⟩
 | .dc _ ts,_,_,h=>by
  obtain ⟨a,ys,e,o,l,q,r⟩:=h
  obtain ⟨o',l'⟩:=g _ _ _ o l trivial
  exact ⟨a,ys,e,o',l',q,TreeAll.all f g ts r⟩
 | .ob _ _ ts,_,_,h=>by
  obtain ⟨a,C,dx,ys,e,o,l,q,r⟩:=h
  obtain ⟨o',l'⟩:=g _ _ _ o l trivial
  exact ⟨a,C,dx,ys,e,o',l',q,TreeAll.all f g ts r⟩
 | .any,_,_,_=>trivial
 | .tp ts,_,_,h=>by
  obtain ⟨a,ys,e,o,l,r⟩:=h
  obtain ⟨o',l'⟩:=g _ _ _ o l trivial
  exact ⟨a,ys,e,o',l',TreeAll.all f g ts r⟩
 | .dt _,_,_,h=>by
  obtain ⟨a,ys,e,o,l,q,r⟩:=h
  obtain ⟨o',l'⟩:=g _ _ _ o l trivial
  exact ⟨a,ys,e,o',l',q,r.imp f⟩
theorem TreeAll.all {O':Ow} {H':Hp} {w:Own} (f:∀d v,Rep K mg O H d v→Rep K mg O' H' d v) (g:∀(a:Addr) (u:HO) (p:List Nat),O a=w.at p→H a=some u→nT u→O' a=w.at p∧H' a=some u):∀(ts:List Tr) {p:List Nat} {n:Nat} {ys:List V},TreeAll K mg O H w p n ts ys→TreeAll K mg O' H' w p n ts ys
 | [],_,_,_,h=>h
 | t :: ts,_,_,_,h=>by
  obtain ⟨y,r,e,a,b⟩:=h
  exact ⟨y,r,e,TreeR.all f g t a,TreeAll.all f g ts b⟩
end
theorem TreeR.go {w:Own} (g:Go O O' H H') {t:Tr} {p:List Nat} {v:V} (h:TreeR K mg O H w p t v):TreeR K mg O' H' w p t v:=
 h.all (fun _ _ z=>Rep.go g z) fun a u _ o l n=>⟨(g.own a (by rw [l];intro z;cases z)).trans o,g.same.at' _ _ l n⟩
def SlotR (K:PySem.W.Frag) (mg:Str→Option Value) (O:Ow) (H:Hp) (w:Own):Slot→Option V→Prop
 | .emp,_=>True
 | .val d,u=>∃v,u=some v∧Rep K mg O H d v
 | .ow _ xs,u=>∃a ys,u=some (.ref a)∧O a=w∧H a=some (.lst ys)∧RepAll K mg O H xs ys
 | .vw xs,u=>∃a ys,u=some (.ref a)∧LsV K O H a ys∧RepAll K mg O H xs ys
 | .dct kvs,u=>∃a kvv,u=some (.ref a)∧O a=w∧H a=some (.dK kvv)∧RepKV K mg O H kvs kvv
 | .vd kvs,u=>∃a kvv,u=some (.ref a)∧(Rd H a (.dK kvv)∧(O a = .free∨O a = .out))∧RepKV K mg O H kvs kvv
 | .pd kvs,u=>∃a xs,u=some (.ref a)∧O a=w∧H a=some (PD a xs)∧PdOk a xs∧RepPD K mg O H kvs xs
 | .vp kvs,u=>∃a xs,u=some (.ref a)∧(Rd H a (PD a xs)∧(O a = .free∨O a = .out))∧PdOk a xs∧RepPD K mg O H kvs xs
 | .tr m t,u=>∃v,u=some v∧TreeR K mg O H (m.ow w) [] t v
theorem SlotR.go {w:Own} (g:Go O O' H H'):∀{s:Slot} {u:Option V},SlotR K mg O H w s u→SlotR K mg O' H' w s u
 | .emp,_,_=>trivial
 | .val _,_,h=>by obtain ⟨v,q,r⟩:=h;exact ⟨v,q,r.go g⟩
 | .ow _ _,_,h=>by obtain ⟨a,ys,q,o,l,r⟩:=h;exact ⟨a,ys,q,(g.own a (by rw [l];intro z;cases z)).trans o,g.same.at' _ _ l,r.go g⟩
 | .vw _,_,h=>by
  obtain ⟨a,ys,q,l,r⟩:=h
  exact ⟨a,ys,q,l.go g,r.go g⟩
 | .dct _,_,h=>by obtain ⟨a,ys,q,o,l,r⟩:=h;exact ⟨a,ys,q,(g.own a (by rw [l];intro z;cases z)).trans o,g.same.at' _ _ l,r.go g⟩
 | .vd _,_,h=>by obtain ⟨a,ys,q,l,r⟩:=h;exact ⟨a,ys,q,⟨Rd.same g.same l.1,by rw [g.own a (Rd.some l.1)];exact l.2⟩,r.go g⟩
 | .pd _,_,h=>by obtain ⟨a,ys,q,o,l,r⟩:=h;exact ⟨a,ys,q,(g.own a (by rw [l];intro z;cases z)).trans o,g.same.at' _ _ l,r.1,r.2.go g⟩
 | .vp _,_,h=>by obtain ⟨a,ys,q,l,r⟩:=h;exact ⟨a,ys,q,⟨Rd.same g.same l.1,by rw [g.own a (Rd.some l.1)];exact l.2⟩,r.1,r.2.go g⟩
 | .tr _ _,_,h=>by obtain ⟨v,q,r⟩:=h;exact ⟨v,q,r.go g⟩
end
theorem TM.ne {m:TM} {w:Own} {o:Own} (ho:o≠.out) (ht:∀p,o≠w.at p):∀p,o≠(m.ow w).at p:=fun p=>by
 cases m with
 | view=>exact ho
 | own=>exact ht p
 | par=>exact ht p
structure Dom (O:Ow) (H:Hp):Prop where
 has:∀a,O a≠.free→H a≠none
 tabs:TabsOk H
structure S3 (K:PySem.W.Frag) (mg:Str→Option Value) (O:Ow) (σ:En) (S:Store) (σV:St) (H:Hp):Prop where
 dom:Dom O H
 len:σ.length=σV.length
 loc:∀i s,σ[i]? = some s→SlotR K mg O H (.loc i) s (σV[i]?.join)
 emp:S=[]
theorem S3.go {K:PySem.W.Frag} {mg:Str→Option Value} {O O':Ow} {σ:En} {S:Store} {σV:St} {H H':Hp} (h:S3 K mg O σ S σV H) (g:Go O O' H H') (d:Dom O' H'):S3 K mg O' σ S σV H':=
 ⟨d,h.len,fun i s e=>(h.loc i s e).go g,h.emp⟩
def updO (O:Ow) (a:Addr) (o:Own):Ow:=fun b=>if b=a then o else O b
omit [L2.TabP] in
theorem updO_same {O:Ow} {a:Addr} {o:Own}:updO O a o a=o:=if_pos rfl
omit [L2.TabP] in
theorem updO_ne {O:Ow} {a b:Addr} {o:Own} (h:b≠a):updO O a o b=O b:=if_neg h
section
variable {K:PySem.W.Frag} {mg:Str→Option Value} {O:Ow} {σ:En} {S:Store} {σV:St} {H:Hp} {p:Addr} {u:HO} {o:Own}
theorem Go.new (hp:H p=none):Go O (updO O p o) H (upd H p u):=
 ⟨same_new hp u,fun b hb=>updO_ne (by rintro rfl;exact hb hp)⟩
theorem Go.new0 (hp:H p=none):Go O O H (upd H p u):=⟨same_new hp u,fun _ _=>rfl⟩
theorem Dom.new (d:Dom O H) (hp:H p=none):Dom (updO O p o) (upd H p u):=⟨fun a ha=>by
 by_cases e:a=p
 ·subst e;rw [upd_same];intro z;cases z
 ·rw [upd_ne e];rw [updO_ne e] at ha;exact d.has a ha,d.tabs.new hp u⟩
theorem Dom.same {H':Hp} (d:Dom O H) (s:Same H H'):Dom O H':=⟨fun a ha=>s.some (d.has a ha),s.gd d.tabs⟩
theorem S3.new (h:S3 K mg O σ S σV H) (hp:H p=none):S3 K mg (updO O p o) σ S σV (upd H p u):=h.go (Go.new hp) (h.dom.new hp)
theorem S3.new0 (h:S3 K mg O σ S σV H) (hp:H p=none):S3 K mg O σ S σV (upd H p u):=h.go (Go.new0 hp) (h.dom.same (same_new hp u))
end
def NewR (H:Hp):R→V→Prop
 | .fr _,v=>∀a,v = .ref a→H a=none
 | _,_=>True
theorem NewR.back {H H1:Hp} (s:Same H H1):∀{r:R} {v:V},NewR H1 r v→NewR H r v
 | .v _,_,_=>trivial
 | .vw _,_,_=>trivial
 | .mv _,_,_=>trivial
 | .dv _,_,_=>trivial
 | .fr _,_,h=>fun a e=>s.free (h a e)
def NewRs (H:Hp):List R→List V→Prop
 | r :: rs,v :: vs=>NewR H r v∧NewRs H rs vs
 | _,_=>True
theorem NewRs.back {H H1:Hp} (s:Same H H1):∀{rs:List R} {vs:List V},NewRs H1 rs vs→NewRs H rs vs
 | [],_,_=>trivial
 | _ :: _,[],_=>trivial
 | _ :: _,_ :: _,h=>⟨h.1.back s,NewRs.back s h.2⟩
def PoE (K:PySem.W.Frag) (mg:Str→Option Value) (O:Ow) (σ:En) (S':Store) (σV:St) (H:Hp) (r:R) (Q:VK):Prop:=
 ∀O' v H',Go O O' H H'→S3 K mg O' σ S' σV H'→RepR K mg O' H' r v→NewR H r v→Q v H'
inductive Ru {α:Type} (K:PySem.W.Frag) (mg:Str→Option Value) (m:En→M α) (σV:St) (H:Hp) (P:Ow→En→Store→α→Prop):Prop
 | mk (O:Ow) (σ:En) (S:Store) (x:α) (S':Store) (st:S3 K mg O σ S σV H) (h:(m σ).run S = .ok x S') (q:P O σ S' x):Ru K mg m σV H P
inductive RuP {α β:Type} (K:PySem.W.Frag) (mg:Str→Option Value) (m:En→M (α×β)) (σV:St) (H:Hp) (P:Ow→En→Store→α→β→Prop):Prop
 | mk (O:Ow) (σ:En) (S:Store) (x:α) (y:β) (S':Store) (st:S3 K mg O σ S σV H) (h:(m σ).run S = .ok (x,y) S') (q:P O σ S' x y):RuP K mg m σV H P
def teOf (K:PySem.W.Frag) (mg:Str→Option Value) (m:ME):TE:=fun σV H Q=>Ru K mg m σV H fun O σ S' r=>PoE K mg O σ S' σV H r Q
def ttOf (K:PySem.W.Frag) (mg:Str→Option Value) (m:En→M Bool):TT:=fun σV H Q=>Ru K mg m σV H fun O σ S' b=>∀O' H',Go O O' H H'→S3 K mg O' σ S' σV H'→Q b H'
abbrev CE (X:Cx) (e:Expr) (m:ME):Prop:=PE X e (teOf X.K X.mg m)
abbrev CT (X:Cx) (e:Expr) (m:En→M Bool):Prop:=PT X e (ttOf X.K X.mg m)
abbrev CW (X:Cx) (e:Expr) (m:En→M Bool):Prop:=PW X e (ttOf X.K X.mg m)
def RepRs (K:PySem.W.Frag) (mg:Str→Option Value) (O:Ow) (H:Hp):List R→List V→Prop
 | [],ys=>ys=[]
 | x :: xs,ys=>∃y r,ys=y :: r∧RepR K mg O H x y∧RepRs K mg O H xs r
abbrev MA:=En→M (List R)
def taOf (K:PySem.W.Frag) (mg:Str→Option Value) (m:MA):TA:=fun σV H Q=>Ru K mg m σV H fun O σ S' rs=>∀O' vs H',Go O O' H H'→S3 K mg O' σ S' σV H'→RepRs K mg O' H' rs vs→NewRs H rs vs→Q vs H'
abbrev CA (X:Cx) (es:List Expr) (m:MA):Prop:=PA X es (taOf X.K X.mg m)
theorem pe_imp {X:Cx} {e:Expr} {t t':TE} (h:PE X e t) (i:∀σ H Q,t' σ H Q→t σ H Q):PE X e t':=fun pins s σ H Q I q=>h pins s σ H Q I (i _ _ _ q)
theorem pt_imp {X:Cx} {e:Expr} {t t':TT} (h:PT X e t) (i:∀σ H Q,t' σ H Q→t σ H Q):PT X e t':=fun pins s σ H Q I q=>h pins s σ H Q I (i _ _ _ q)
theorem pw_imp {X:Cx} {e:Expr} {t t':TT} (h:PW X e t) (i:∀σ H Q,t' σ H Q→t σ H Q):PW X e t':=fun wh pins s σ H Q I q=>h wh pins s σ H Q I (i _ _ _ q)
theorem pa_imp {X:Cx} {es:List Expr} {t t':TA} (h:PA X es t) (i:∀σ H Q,t' σ H Q→t σ H Q):PA X es t':=fun pos pins s σ H Q I q=>h pos pins s σ H Q I (i _ _ _ q)
def cVar (i:Nat):ME:=fun σ=>match σ[i]? with
 | some (.val d)=>pure (.v d)
 | some (.ow _ xs)=>pure (.mv xs)
 | some (.vw xs)=>pure (.vw xs)
 | some (.dct kvs)=>pure (.dv kvs)
 | some (.vd kvs)=>pure (.dv kvs)
 | _=>bad
def cK (d:D):ME:=fun _=>pure (.v d)
section
variable {X:Cx} {a b c e:Expr} {ma mb mc m:ME} {ta tb:En→M Bool} {pos:Pos}
theorem ce_var (i:Nat) {x:Str} {pos:Pos} (hN:X.N[i]? = some x:=by rfl) (hv:Vis X.env.scope x:=by first | exact Or.inl rfl | exact Or.inr (Or.inl rfl) | exact Or.inr (Or.inr rfl)) (hd:(x == ("__debug__":Str))=false:=by decide)
  (hcd:(x == ("__classdict__":Str))=false:=by decide):CE X (.Name x pos) (cVar i):=pe_imp (pe_var hN hv hd hcd) fun σV H Q zz0=>by
 obtain ⟨O,σ,S,r,S',st,h,q⟩:=zz0
 unfold cVar at h
 cases e:σ[i]? with
 | none=>rw [e] at h;cases h
 | some s=>
  rw [e] at h
  have l:=st.loc i s e
  have get:∀{v:V},σV[i]?.join=some v→σV[i]? = some (some v):=fun {v} z=>by
   cases w:σV[i]? with
   | none=>rw [w] at z;cases z
   | some y=>rw [w] at z;exact congrArg some z
  cases s with
  | val d=>
   obtain ⟨v,e1,e2⟩:=l
   cases h
   exact ⟨v,get e1,q O v H (Go.refl _ _) st e2 trivial⟩
  | ow p xs=>
   obtain ⟨a,ys,e1,e2,e3,e4⟩:=l
   cases h
   exact ⟨_,get e1,q O _ H (Go.refl _ _) st ⟨a,ys,rfl,e3,e4⟩ trivial⟩
  | vw xs=>
   obtain ⟨a,ys,e1,e2,e4⟩:=l
   cases h
   exact ⟨_,get e1,q O _ H (Go.refl _ _) st ⟨a,ys,rfl,e2,e4⟩ trivial⟩
  | emp=>cases h
  | pd k=>cases h
  | vp k=>cases h
  | tr _ _=>cases h
  | dct k=>
   obtain ⟨a,ys,e1,e2,e3,e4⟩:=l
   cases h
   exact ⟨_,get e1,q O _ H (Go.refl _ _) st ⟨a,ys,rfl,.inl e3,e4⟩ trivial⟩
  | vd k=>
   obtain ⟨a,ys,e1,e2,e4⟩:=l
   cases h
   exact ⟨_,get e1,q O _ H (Go.refl _ _) st ⟨a,ys,rfl,e2.1,e4⟩ trivial⟩
theorem ce_k {d:D} {v:V} (h:PE X e (tC v)) (r:∀O H,Rep X.K X.mg O H d v):CE X e (cK d):=pe_imp h fun σV H Q zz0=>by
 obtain ⟨O,σ,S,r',S',st,h,q⟩:=zz0
 cases h
 exact q O v H (Go.refl _ _) st (r O H) trivial
theorem ce_int {i j pos}:CE X (.Constant (.int i) j pos) (cK (.int i)):=ce_k pe_int fun _ _=>rfl
theorem ce_bl {b j pos}:CE X (.Constant (.bool b) j pos) (cK (.bl b)):=ce_k pe_bl fun _ _=>rfl
theorem ce_non {j pos}:CE X (.Constant .none j pos) (cK .non):=ce_k pe_non fun _ _=>rfl
theorem ce_str {x j pos}:CE X (.Constant (.str x) j pos) (cK (.str x)):=ce_k pe_str fun _ _=>rfl
def c2 (f:R→R→M R) (a b:ME):ME:=fun σ=>do
 let x ←a σ
 let y ←b σ
 f x y
def Bin (K:PySem.W.Frag) (mg:Str→Option Value) (r:R2) (f:R→R→M R):Prop:=
 ∀O σ S σV H x y rx ry r' S' (Q:VK),S3 K mg O σ S σV H→RepR K mg O H rx x→RepR K mg O H ry y→(f rx ry).run S = .ok r' S'→PoE K mg O σ S' σV H r' Q→r x y H Q
theorem c2_read {K:PySem.W.Frag} {mg:Str→Option Value} {r:R2} {f:R→R→M R} (hf:Bin K mg r f):∀σV H Q,teOf K mg (c2 f ma mb) σV H Q→tOp r (teOf K mg ma) (teOf K mg mb) σV H Q:=by
 rintro σV H Q ⟨O,σ,S,r',S',st,h,q⟩
 obtain ⟨x,S1,h1,h⟩:=M.inv h
 obtain ⟨y,S2,h2,h⟩:=M.inv h
 refine ⟨O,σ,S,x,S1,st,h1,fun O1 vx H1 g1 st1 rx nx=>?_⟩
 refine ⟨O1,σ,S1,y,S2,st1,h2,fun O2 vy H2 g2 st2 ry ny=>?_⟩
 exact hf O2 σ S2 σV H2 vx vy x y r' S' Q st2 (rx.go g2) ry h fun O' v H' g st' rr nn=>q O' v H' ((g1.trans g2).trans g) st' rr (nn.back (g1.trans g2).same)
theorem ce_op {op:Operator} {r:R2} {f:R→R→M R} (ho:OpR X (binaryOp op) r) (hf:Bin X.K X.mg r f) (ha:CE X a ma) (hb:CE X b mb):CE X (.BinOp a op b pos) (c2 f ma mb):=pe_imp (pe_op ho ha hb) (c2_read hf)
theorem ce_cmp {op:CmpOp} {r:R2} {f:R→R→M R} (ho:OpR X (compareOp op) r) (hf:Bin X.K X.mg r f) (ha:CE X a ma) (hb:CE X b mb) (hm:behindInMarks op b=false):CE X (.Compare a [op] [b] pos) (c2 f ma mb):=pe_imp (pe_cmpR ho ha hb hm) (c2_read hf)
theorem ce_ix {r:R2} {f:R→R→M R} (ho:IxR X r) (hf:Bin X.K X.mg r f) (ha:CE X a ma) (hb:CE X b mb) (hs:PlainIx b):CE X (.Subscript a b pos) (c2 f ma mb):=pe_imp (pe_ix ho ha hb hs) (c2_read hf)
def R.tru:R→M Bool
 | .v (.bl b)=>pure b
 | _=>bad
def cT (m:ME):En→M Bool:=fun σ=>do
 let x ←m σ
 x.tru
omit [L2.TabP] in
theorem tru_inv {r:R} {b:Bool} {S S':Store} (h:r.tru.run S = .ok b S'):r = .v (.bl b)∧S=S':=by
 cases r with
 | v d=>cases d <;> cases h <;> exact ⟨rfl,rfl⟩
 | fr _=>cases h
 | vw _=>cases h
 | mv _=>cases h
 | dv _=>cases h
theorem test_read {K:PySem.W.Frag} {mg:Str→Option Value}:∀σV H Q,ttOf K mg (cT m) σV H Q→tTest (teOf K mg m) σV H Q:=by
 rintro σV H Q ⟨O,σ,S,t,S',st,h,q⟩
 obtain ⟨x,S1,h1,h⟩:=M.inv h
 obtain ⟨rfl,rfl⟩:=tru_inv h
 exact ⟨O,σ,S,_,_,st,h1,fun O' v H' g st' rr _=>⟨t,rr,q O' H' g st'⟩⟩
theorem tTest_imp {t t':TE} (i:∀σ H Q,t' σ H Q→t σ H Q):∀σ H Q,tTest t' σ H Q→tTest t σ H Q:=fun σ H Q q=>i _ _ _ q
theorem ct_cmp {op:CmpOp} {r:R2} {f:R→R→M R} (ho:OpR X (compareOp op) r) (hf:Bin X.K X.mg r f) (ha:CE X a ma) (hb:CE X b mb) (hm:behindInMarks op b=false):CT X (.Compare a [op] [b] pos) (cT (c2 f ma mb)):=
 pt_imp (pt_cmpR ho ha hb hm) fun σV H Q h=>tTest_imp (c2_read hf) σV H Q (test_read σV H Q h)
def c3 (f g:R→R→M R) (a b c:ME):ME:=fun σ=>do
 let x ←a σ
 let y ←b σ
 let z ←f x y
 let t ←z.tru
 if t=true then do
  let w ←c σ
  g y w
 else pure (.v (.bl false))
def cAnd (a b:ME):ME:=fun σ=>do
 let x ←a σ
 let t ←x.tru
 if t=true then b σ else pure (.v (.bl false))
def cOr (a b:ME):ME:=fun σ=>do
 let x ←a σ
 let t ←x.tru
 if t=true then pure (.v (.bl true)) else b σ
def cNot (a:ME):ME:=fun σ=>do
 let x ←a σ
 let t ←x.tru
 pure (.v (.bl (!t)))
def tAndM (a b:En→M Bool):En→M Bool:=fun σ=>do
 let t ←a σ
 if t=true then b σ else pure false
def tOrM (a b:En→M Bool):En→M Bool:=fun σ=>do
 let t ←a σ
 if t=true then pure true else b σ
def tNotM (a:En→M Bool):En→M Bool:=fun σ=>do
 let t ←a σ
 pure (!t)
def cIf (t:En→M Bool) (a b:ME):ME:=fun σ=>do
 let t ←t σ
 if t=true then a σ else b σ
variable {rest:List Expr}
theorem ce_one {op} (h:CE X a ma):CE X (.BoolOp op [a] pos) ma:=pe_one h
theorem ce_and (ha:CE X a ma) (hb:CE X (.BoolOp .And (b :: rest) pos) mb):CE X (.BoolOp .And (a :: b :: rest) pos) (cAnd ma mb):=pe_imp (pe_and ha hb) fun σV H Q zz0=>by
 obtain ⟨O,σ,S,r,S',st,h,q⟩:=zz0
 obtain ⟨x,S1,h1,h⟩:=M.inv h
 obtain ⟨t,S2,h2,h⟩:=M.inv h
 obtain ⟨rfl,rfl⟩:=tru_inv h2
 refine ⟨O,σ,S,_,_,st,h1,fun O1 vx H1 g1 st1 rx nx=>⟨t,rx,?_⟩⟩
 cases t with
 | false=>
  rw [if_neg Bool.false_ne_true] at h
  cases h
  exact iteF (q O1 _ H1 g1 st1 rfl trivial)
 | true=>
  rw [if_pos rfl] at h
  exact iteT ⟨O1,σ,_,r,S',st1,h,fun O' v H' g st' rr nn=>q O' v H' (g1.trans g) st' rr (nn.back g1.same)⟩
theorem ce_or (ha:CE X a ma) (hb:CE X (.BoolOp .Or (b :: rest) pos) mb):CE X (.BoolOp .Or (a :: b :: rest) pos) (cOr ma mb):=pe_imp (pe_or ha hb) fun σV H Q zz0=>by
 obtain ⟨O,σ,S,r,S',st,h,q⟩:=zz0
 obtain ⟨x,S1,h1,h⟩:=M.inv h
 obtain ⟨t,S2,h2,h⟩:=M.inv h
 obtain ⟨rfl,rfl⟩:=tru_inv h2
 refine ⟨O,σ,S,_,_,st,h1,fun O1 vx H1 g1 st1 rx nx=>⟨t,rx,?_⟩⟩
 cases t with
 | true=>
  rw [if_pos rfl] at h
  cases h
  exact iteT (q O1 _ H1 g1 st1 rfl trivial)
 | false=>
  rw [if_neg Bool.false_ne_true] at h
  exact iteF ⟨O1,σ,_,r,S',st1,h,fun O' v H' g st' rr nn=>q O' v H' (g1.trans g) st' rr (nn.back g1.same)⟩
theorem ce_not (ha:CE X a ma):CE X (.UnaryOp .Not a pos) (cNot ma):=pe_imp (pe_not ha) fun σV H Q zz0=>by
 obtain ⟨O,σ,S,r,S',st,h,q⟩:=zz0
 obtain ⟨x,S1,h1,h⟩:=M.inv h
 obtain ⟨t,S2,h2,h⟩:=M.inv h
 obtain ⟨rfl,rfl⟩:=tru_inv h2
 cases h
 exact ⟨O,σ,S,_,_,st,h1,fun O1 vx H1 g1 st1 rx nx=>⟨t,rx,q O1 _ H1 g1 st1 rfl trivial⟩⟩
theorem ct_val (ha:CE X a ma) (he:∀whole,isTrue a X.env whole=(do let v ←whole;standAt a.pos;holding [v] (truthy v)):=by intro _;rfl):CT X a (cT ma):=pt_imp (pt_val ha he) fun σV H Q h=>test_read σV H Q h
theorem cw_and1 (ha:CT X a ta):CW X (.BoolOp .And [a] pos) ta:=pw_and1 ha
theorem cw_or1 (ha:CT X a ta):CW X (.BoolOp .Or [a] pos) ta:=pw_or1 ha
theorem cw_and (ha:CT X a ta) (hb:CW X (.BoolOp .And (b :: rest) pos) tb):CW X (.BoolOp .And (a :: b :: rest) pos) (tAndM ta tb):=pw_imp (pw_and ha hb) fun σV H Q zz0=>by
 obtain ⟨O,σ,S,r,S',st,h,q⟩:=zz0
 obtain ⟨t,S1,h1,h⟩:=M.inv h
 refine ⟨O,σ,S,t,S1,st,h1,fun O1 H1 g1 st1=>?_⟩
 cases t with
 | false=>
  rw [if_neg Bool.false_ne_true] at h
  cases h
  exact iteF (q O1 H1 g1 st1)
 | true=>
  rw [if_pos rfl] at h
  exact iteT ⟨O1,σ,S1,r,S',st1,h,fun O' H' g st'=>q O' H' (g1.trans g) st'⟩
theorem cw_or (ha:CT X a ta) (hb:CW X (.BoolOp .Or (b :: rest) pos) tb):CW X (.BoolOp .Or (a :: b :: rest) pos) (tOrM ta tb):=pw_imp (pw_or ha hb) fun σV H Q zz0=>by
 obtain ⟨O,σ,S,r,S',st,h,q⟩:=zz0
 obtain ⟨t,S1,h1,h⟩:=M.inv h
 refine ⟨O,σ,S,t,S1,st,h1,fun O1 H1 g1 st1=>?_⟩
 cases t with
 | true=>
  rw [if_pos rfl] at h
  cases h
  exact iteT (q O1 H1 g1 st1)
 | false=>
  rw [if_neg Bool.false_ne_true] at h
  exact iteF ⟨O1,σ,S1,r,S',st1,h,fun O' H' g st'=>q O' H' (g1.trans g) st'⟩
theorem CW.ct (h:CW X a ta):CT X a ta:=h.pt
theorem ct_not (ha:CT X a ta):CT X (.UnaryOp .Not a pos) (tNotM ta):=pt_imp (pt_not ha) fun σV H Q zz0=>by
 obtain ⟨O,σ,S,r,S',st,h,q⟩:=zz0
 obtain ⟨t,S1,h1,h⟩:=M.inv h
 cases h
 exact ⟨O,σ,S,t,_,st,h1,fun O1 H1 g1 st1=>q O1 H1 g1 st1⟩
end
end L3
namespace L3
open PySem PySem.Spec L2
variable [L2.TabP]
def oI0 (g:Int→Int→Int):R→R→M R
 | .v (.int i),.v (.int j)=>pure (.v (.int (g i j)))
 | _,_=>bad
def oI (C:Int→Int→Prop) [∀i j,Decidable (C i j)] (g:Int→Int→Int):R→R→M R
 | .v (.int i),.v (.int j)=>if C i j then pure (.v (.int (g i j))) else bad
 | _,_=>bad
def oB (g:Int→Int→Bool):R→R→M R
 | .v (.int i),.v (.int j)=>pure (.v (.bl (g i j)))
 | _,_=>bad
section
variable {K:PySem.W.Frag} {mg:Str→Option Value}
theorem bin_I0 {g:Int→Int→Int}:Bin K mg (rI0 fun i j=>.int (g i j)) (oI0 g):=fun O σ S σV H x y rx ry r' S' Q st hx hy h q=>by
 unfold oI0 at h
 split at h
 ·rename_i i j
  cases h
  exact ⟨i,j,hx,hy,q O _ H (Go.refl _ _) st rfl trivial⟩
 ·cases h
theorem bin_I {C:Int→Int→Prop} {C':Int→Int→Prop} [∀i j,Decidable (C' i j)] {g:Int→Int→Int} (hC:∀i j,C' i j→C i j):Bin K mg (rI C fun i j=>.int (g i j)) (oI C' g):=fun O σ S σV H x y rx ry r' S' Q st hx hy h q=>by
 unfold oI at h
 split at h
 ·rename_i i j
  by_cases c:C' i j
  ·rw [if_pos c] at h
   cases h
   exact ⟨i,j,hx,hy,hC i j c,q O _ H (Go.refl _ _) st rfl trivial⟩
  ·rw [if_neg c] at h;cases h
 ·cases h
theorem bin_B {g:Int→Int→Bool}:Bin K mg (rI0 fun i j=>.bl (g i j)) (oB g):=fun O σ S σV H x y rx ry r' S' Q st hx hy h q=>by
 unfold oB at h
 split at h
 ·rename_i i j
  cases h
  exact ⟨i,j,hx,hy,q O _ H (Go.refl _ _) st rfl trivial⟩
 ·cases h
end
abbrev oAdd:=oI0 (· + ·)
abbrev oSub:=oI0 (· - ·)
abbrev oMod:=oI (fun _ j=>0 < j) (· % ·)
abbrev oPow:=oI (fun i j=>0≤j∧j≤1000000∧i.natAbs < 2 ^ 64) (fun i j=>i ^ j.toNat)
abbrev oLt:=oB fun i j=>decide (i < j)
abbrev oLe:=oB fun i j=>decide (i≤j)
abbrev oGt:=oB fun i j=>decide (j < i)
abbrev oGe:=oB fun i j=>decide (j≤i)
section
variable {X:Cx}
theorem bAdd:Bin X.K X.mg (rI0 fun i j=>.int (i + j)) oAdd:=bin_I0
theorem bSub:Bin X.K X.mg (rI0 fun i j=>.int (i - j)) oSub:=bin_I0
theorem bMod:Bin X.K X.mg (rI (fun _ j=>0 < j) fun i j=>.int (i % j)) oMod:=bin_I fun _ _ h=>h
theorem bPow:Bin X.K X.mg (rI CPow fun i j=>.int (i ^ j.toNat)) oPow:=bin_I fun _ _ h=>h
theorem bLt:Bin X.K X.mg (rI0 fun i j=>.bl (decide (i < j))) oLt:=bin_B
theorem bLe:Bin X.K X.mg (rI0 fun i j=>.bl (decide (i≤j))) oLe:=bin_B
theorem bGt:Bin X.K X.mg (rI0 fun i j=>.bl (decide (j < i))) oGt:=bin_B
theorem bGe:Bin X.K X.mg (rI0 fun i j=>.bl (decide (j≤i))) oGe:=bin_B
end
def c1 (f:R→M R) (a:ME):ME:=fun σ=>do
 let x ←a σ
 f x
def oNeg:R→M R
 | .v (.int i)=>pure (.v (.int (-i)))
 | _=>bad
theorem ce_neg {X:Cx} {a:Expr} {ma:ME} {pos:Pos} (ha:CE X a ma):CE X (.UnaryOp .USub a pos) (c1 oNeg ma):=pe_imp (pe_un un_neg ha) fun σV H Q zz0=>by
 obtain ⟨O,σ,S,r,S',st,h,q⟩:=zz0
 obtain ⟨x,S1,h1,h⟩:=M.inv h
 unfold oNeg at h
 split at h
 ·rename_i i
  cases h
  exact ⟨O,σ,S,_,_,st,h1,fun O1 vx H1 g1 st1 rx nx=>⟨i,rx,q O1 _ H1 g1 st1 rfl trivial⟩⟩
 ·cases h
def R.lis:R→Option (List D)
 | .v (.lst xs)=>some xs
 | .fr xs=>some xs
 | .vw xs=>some xs
 | .mv xs=>some xs
 | _=>none
def R.tpl:R→Option (List D)
 | .v (.tup xs)=>some xs
 | _=>none
def R.seq (r:R):Option (List D):=r.lis <|> r.tpl
theorem R.lis_rep {K:PySem.W.Frag} {mg:Str→Option Value} {O:Ow} {H:Hp} {r:R} {v:V} {xs:List D} (h:RepR K mg O H r v) (e:r.lis=some xs):∃a ys,v = .ref a∧SqL K H a ys∧RepAll K mg O H xs ys:=by
 unfold R.lis at e
 split at e
 ·cases e;obtain ⟨a,ys,q,l,r⟩:=h;exact ⟨a,ys,q,l.sq,r⟩
 ·cases e;obtain ⟨a,ys,q,l,_,r⟩:=h;exact ⟨a,ys,q,SqL.of l,r⟩
 ·cases e;obtain ⟨a,ys,q,l,r⟩:=h;exact ⟨a,ys,q,l.sq,r⟩
 ·cases e;obtain ⟨a,ys,q,l,r⟩:=h;exact ⟨a,ys,q,SqL.of l,r⟩
 ·cases e
theorem R.tpl_rep {K:PySem.W.Frag} {mg:Str→Option Value} {O:Ow} {H:Hp} {r:R} {v:V} {xs:List D} (h:RepR K mg O H r v) (e:r.tpl=some xs):∃a ys,v = .ref a∧SqT K H a ys∧RepAll K mg O H xs ys:=by
 unfold R.tpl at e
 split at e
 ·cases e;exact h
 ·cases e
theorem R.seq_rep {K:PySem.W.Frag} {mg:Str→Option Value} {O:Ow} {H:Hp} {r:R} {v:V} {xs:List D} (h:RepR K mg O H r v) (e:r.seq=some xs):∃a ys,v = .ref a∧(SqL K H a ys∨SqT K H a ys)∧RepAll K mg O H xs ys:=by
 unfold R.seq at e
 cases e1:r.lis with
 | some zs=>rw [e1] at e;cases e;obtain ⟨a,ys,q,l,r⟩:=R.lis_rep h e1;exact ⟨a,ys,q,.inl l,r⟩
 | none=>rw [e1] at e;obtain ⟨a,ys,q,l,r⟩:=R.tpl_rep h e;exact ⟨a,ys,q,.inr l,r⟩
theorem RepAll.atI {K:PySem.W.Frag} {mg:Str→Option Value} {O:Ow} {H:Hp} {ds:List D} {xs:List V} {i:Int} {d:D} (h:RepAll K mg O H ds xs) (e:atI ds i=some d):∃x,L2.atI xs i=some x∧Rep K mg O H d x:=by
 unfold L2.atI at e ⊢
 rw [h.len]
 cases q:ixN ds.length i with
 | none=>rw [q] at e;cases e
 | some j=>rw [q] at e;exact h.get e
def oIx:R→R→M R
 | .v (.str z),.v (.int i)=>match atI z.cps.toList i with
  | some c=>if z.length≤sizeLine then pure (.v (.str ⟨#[c]⟩)) else bad
  | none=>bad
 | x,.v (.int i)=>match x.seq with
  | some xs=>match atI xs i with
   | some d=>pure (.v d)
   | none=>bad
  | none=>bad
 | _,_=>bad
theorem bIx {K:PySem.W.Frag} {mg:Str→Option Value}:Bin K mg (rIx K) oIx:=fun O σ S σV H x y rx ry r' S' Q st hx hy h q=>by
 unfold oIx at h
 split at h
 ·rename_i z i
  split at h
  ·rename_i c e2
   by_cases hz:z.length≤sizeLine
   ·rw [if_pos hz] at h
    cases h
    exact .inr (.inr ⟨z,i,c,hx,hy,hz,e2,q O _ H (Go.refl _ _) st rfl trivial⟩)
   ·rw [if_neg hz] at h;cases h
  ·cases h
 ·rename_i i _
  split at h
  ·rename_i xs e
   split at h
   ·rename_i d e2
    cases h
    obtain ⟨a,ys,rfl,l,ra⟩:=R.seq_rep hx e
    obtain ⟨z,e3,rz⟩:=RepAll.atI ra e2
    have hQ:=q O z H (Go.refl _ _) st rz trivial
    rcases l with l | l
    ·exact .inl ⟨a,ys,i,z,rfl,hy,l,e3,hQ⟩
    ·exact .inr (.inl ⟨a,ys,i,z,rfl,hy,l,e3,hQ⟩)
   ·cases h
  ·cases h
 ·cases h
def cNil:MA:=fun _=>pure []
def cCons (m:ME) (ms:MA):MA:=fun σ=>do
 let x ←m σ
 let xs ←ms σ
 pure (x :: xs)
section
variable {X:Cx} {e:Expr} {es:List Expr} {m:ME} {ms:MA} {pos:Pos}
theorem ca_nil:CA X [] cNil:=pa_imp pa_nil fun σV H Q zz0=>by
 obtain ⟨O,σ,S,r,S',st,h,q⟩:=zz0
 cases h
 exact q O [] H (Go.refl _ _) st rfl trivial
theorem ca_cons (ha:CE X e m) (hr:CA X es ms) (hs:starEach (e :: es) X.env=(false,eval e X.env) :: starEach es X.env:=by rfl):CA X (e :: es) (cCons m ms):=pa_imp (pa_cons ha hr hs) fun σV H Q zz0=>by
 obtain ⟨O,σ,S,r,S',st,h,q⟩:=zz0
 obtain ⟨x,S1,h1,h⟩:=M.inv h
 obtain ⟨xs,S2,h2,h⟩:=M.inv h
 cases h
 refine ⟨O,σ,S,x,S1,st,h1,fun O1 vx H1 g1 st1 rx nx=>?_⟩
 refine ⟨O1,σ,S1,xs,_,st1,h2,fun O2 vs H2 g2 st2 rs ns=>?_⟩
 exact q O2 (vx :: vs) H2 (g1.trans g2) st2 ⟨vx,vs,rfl,rx.go g2,rs⟩ ⟨nx,ns.back g1.same⟩
end
def R.dat:R→M D
 | .v d=>pure d
 | .fr xs=>pure (.lst xs)
 | _=>bad
def dats:List R→M (List D)
 | []=>pure []
 | r :: rs=>do
  let d ←r.dat
  let ds ←dats rs
  pure (d :: ds)
def frz (H₀:Hp) (O:Ow):Ow:=fun b=>match H₀ b,O b with
 | none,.tmp=>.free
 | _,o=>o
theorem frz_old {H₀:Hp} {O:Ow} {b:Addr} (h:H₀ b≠none):frz H₀ O b=O b:=by
 unfold frz
 cases e:H₀ b with
 | none=>exact absurd e h
 | some o=>cases O b <;> rfl
theorem frz_tmp {H₀:Hp} {O:Ow} {b:Addr} (h:H₀ b=none) (t:O b = .tmp):frz H₀ O b = .free:=by unfold frz;rw [h,t]
theorem frz_not {H₀:Hp} {O:Ow} {b:Addr} (t:O b≠.tmp):frz H₀ O b=O b:=by
 unfold frz
 cases e:H₀ b <;> cases e2:O b <;> first | rfl | exact absurd e2 t
theorem frz_fre (H₀:Hp) (O:Ow):Fre O (frz H₀ O):=⟨fun a h=>by rw [frz_not (by rw [h];intro z;cases z),h]⟩
theorem SlotR.fre {K:PySem.W.Frag} {mg:Str→Option Value} {O O':Ow} {H:Hp} {w:Own} (g:Fre O O') (ho:∀a,O a = .out→O' a = .out) (hw:∀a,O a=w→O' a=w) (ht:∀a p,O a=w.at p→O' a=w.at p):∀{s:Slot} {u:Option V},SlotR K mg O H w s u→SlotR K mg O' H w s u
 | .emp,_,_=>trivial
 | .val _,_,h=>by obtain ⟨v,q,r⟩:=h;exact ⟨v,q,r.fre g⟩
 | .ow _ _,_,h=>by obtain ⟨a,ys,q,o,l,r⟩:=h;exact ⟨a,ys,q,hw a o,l,r.fre g⟩
 | .vw _,_,h=>by
  obtain ⟨a,ys,q,l,r⟩:=h
  refine ⟨a,ys,q,l.imp (fun z=>⟨z.1,z.2.imp (g.fr a) (ho a)⟩) id,r.fre g⟩
 | .dct _,_,h=>by obtain ⟨a,ys,q,o,l,r⟩:=h;exact ⟨a,ys,q,hw a o,l,r.fre g⟩
 | .vd _,_,h=>by obtain ⟨a,ys,q,l,r⟩:=h;exact ⟨a,ys,q,⟨l.1,l.2.imp (g.fr a) (ho a)⟩,r.fre g⟩
 | .pd _,_,h=>by obtain ⟨a,ys,q,o,l,r⟩:=h;exact ⟨a,ys,q,hw a o,l,r.1,r.2.fre g⟩
 | .vp _,_,h=>by obtain ⟨a,ys,q,l,r⟩:=h;exact ⟨a,ys,q,⟨l.1,l.2.imp (g.fr a) (ho a)⟩,r.1,r.2.fre g⟩
 | .tr m _,_,h=>by
  obtain ⟨v,q,r⟩:=h
  refine ⟨v,q,r.all (fun _ _ z=>Rep.fre g z) fun a _ p o l _=>⟨?_,l⟩⟩
  cases m with
  | view=>exact ho a o
  | own=>exact ht a p o
  | par=>exact ht a p o
section
variable {K:PySem.W.Frag} {mg:Str→Option Value} {O:Ow} {σ:En} {S:Store} {σV:St} {H H₀:Hp}
theorem S3.frz (h:S3 K mg O σ S σV H) (H₀:Hp):S3 K mg (frz H₀ O) σ S σV H:=
  ⟨⟨fun a ha=>h.dom.has a fun z=>ha (by rw [frz_not (by rw [z];intro w;cases w),z]),h.dom.tabs⟩,h.len,
   fun i s e=>(h.loc i s e).fre (frz_fre _ _) (fun a z=>by rw [frz_not (by rw [z];intro w;cases w),z]) (fun a z=>by rw [frz_not (by rw [z];intro w;cases w),z]) (fun a p z=>by rw [frz_not (by rw [z];intro w;cases w),z]),h.emp⟩
theorem Go.frz {O₀:Ow} (g:Go O₀ O H₀ H):Go O₀ (frz H₀ O) H₀ H:=⟨g.same,fun b hb=>(frz_old hb).trans (g.own b hb)⟩
theorem dat_rep {r:R} {v:V} {d:D} {S':Store} (hr:RepR K mg O H r v) (hn:NewR H₀ r v) (h:r.dat.run S = .ok d S'):Rep K mg (L3.frz H₀ O) H d v∧S=S':=by
 cases r with
 | v d'=>cases h;exact ⟨Rep.fre (frz_fre _ _) hr,rfl⟩
 | fr xs=>
  cases h
  obtain ⟨a,ys,rfl,l,t,ra⟩:=hr
  exact ⟨⟨a,ys,rfl,⟨l,frz_tmp (hn a rfl) t⟩,RepAll.fre (frz_fre _ _) ra⟩,rfl⟩
 | vw xs=>cases h
 | mv xs=>cases h
 | dv _=>cases h
theorem dats_rep:∀{rs:List R} {vs:List V} {ds:List D} {S S':Store},RepRs K mg O H rs vs→NewRs H₀ rs vs→(dats rs).run S = .ok ds S'→RepAll K mg (L3.frz H₀ O) H ds vs∧S=S'
 | [],vs,ds,S,S',hr,_,h=>by cases h;exact ⟨hr,rfl⟩
 | r :: rs,vs,ds,S,S',hr,hn,h=>by
  obtain ⟨d,S1,h1,h⟩:=M.inv h
  obtain ⟨ds',S2,h2,h⟩:=M.inv h
  cases h
  obtain ⟨v,vr,rfl,r1,r2⟩:=hr
  obtain ⟨q1,rfl⟩:=dat_rep (H₀:=H₀) r1 hn.1 h1
  obtain ⟨q2,rfl⟩:=dats_rep r2 hn.2 h2
  exact ⟨⟨v,vr,rfl,q1,q2⟩,rfl⟩
end
def cTup (ms:MA):ME:=fun σ=>do
 let rs ←ms σ
 let ds ←dats rs
 chk (ds.length≤1000)
 pure (.v (.tup ds))
def cLst (ms:MA):ME:=fun σ=>do
 let rs ←ms σ
 let ds ←dats rs
 chk (ds.length≤1000)
 pure (.fr ds)
section
variable {X:Cx} {e:Expr} {es:List Expr} {m:ME} {ms:MA} {pos:Pos}
theorem ce_tup {x1} (h:CA X es ms):CE X (.Tuple es x1 pos) (cTup ms):=pe_imp (pe_tup h) fun σV H Q zz0=>by
 obtain ⟨O,σ,S,r,S',st,h,q⟩:=zz0
 obtain ⟨rs,S1,h1,h⟩:=M.inv h
 obtain ⟨ds,S2,h2,h⟩:=M.inv h
 obtain ⟨_,S3',h3,h⟩:=M.inv h
 obtain ⟨hl,rfl⟩:=chk_inv h3
 cases h
 refine ⟨O,σ,S,rs,S1,st,h1,fun O1 vs H1 g1 st1 rr nn=>?_⟩
 obtain ⟨ra,rfl⟩:=dats_rep (H₀:=H) rr nn h2
 refine ⟨Nat.le_of_lt (small1000 (by rw [ra.len];exact hl)),fun p hp=>?_⟩
 exact q (frz H O1) _ _ (g1.frz.trans (Go.new0 hp)) ((st1.frz H).new0 hp) ⟨p,vs,rfl,SqT.of upd_same,ra.go (Go.new0 hp)⟩ trivial
theorem ce_lst (h:CA X es ms):CE X (.List es pos) (cLst ms):=pe_imp (pe_lst h) fun σV H Q zz0=>by
 obtain ⟨O,σ,S,r,S',st,h,q⟩:=zz0
 obtain ⟨rs,S1,h1,h⟩:=M.inv h
 obtain ⟨ds,S2,h2,h⟩:=M.inv h
 obtain ⟨_,S3',h3,h⟩:=M.inv h
 obtain ⟨hl,rfl⟩:=chk_inv h3
 cases h
 refine ⟨O,σ,S,rs,S1,st,h1,fun O1 vs H1 g1 st1 rr nn=>?_⟩
 obtain ⟨ra,rfl⟩:=dats_rep (H₀:=H) rr nn h2
 refine ⟨Nat.le_of_lt (small1000 (by rw [ra.len];exact hl)),fun p hp=>?_⟩
 refine q (updO (frz H O1) p .tmp) _ _ (g1.frz.trans (Go.new hp)) ((st1.frz H).new hp) ⟨p,vs,rfl,upd_same,updO_same,ra.go (Go.new hp)⟩ fun a ea=>?_
 cases ea
 exact g1.same.free hp
end
def cB (f:List R→M R) (ms:MA):ME:=fun σ=>do
 let rs ←ms σ
 f rs
def BinC (K:PySem.W.Frag) (mg:Str→Option Value) (r:List V→Hp→VK→Prop) (f:List R→M R):Prop:=
 ∀O σ S σV H xs rs r' S' (Q:VK),S3 K mg O σ S σV H→RepRs K mg O H rs xs→(f rs).run S = .ok r' S'→PoE K mg O σ S' σV H r' Q→r xs H Q
section
variable {X:Cx} {e:Expr} {es:List Expr} {ms:MA} {pos p:Pos} {x:Str} {id T:String} {r:List V→Hp→VK→Prop} {f:List R→M R}
theorem cB_read {K:PySem.W.Frag} {mg:Str→Option Value} (hf:BinC K mg r f):∀σV H Q,teOf K mg (cB f ms) σV H Q→tCB r (taOf K mg ms) σV H Q:=by
 rintro σV H Q ⟨O,σ,S,r',S',st,h,q⟩
 obtain ⟨rs,S1,h1,h⟩:=M.inv h
 refine ⟨O,σ,S,rs,S1,st,h1,fun O1 vs H1 g1 st1 rr nn=>?_⟩
 exact hf O1 σ S1 σV H1 vs rs r' S' Q st1 rr h fun O' v H' g st' rr' nn'=>q O' v H' (g1.trans g) st' rr' (nn'.back g1.same)
theorem ce_callB (hc:CallR X (.builtin id) r) (hf:BinC X.K X.mg r f) (hg:Gl X x) (hm:X.mg x=none) (hv:bootBuiltins x=some (.builtin id)) (ha:CA X (e :: es) ms) (hn:x≠"__name__":=by decide) (hdb:(x == ("__debug__":Str))=false:=by decide)
  (he:starEach (e :: es) X.env=(false,eval e X.env) :: starEach es X.env:=by rfl) (hpl:(backTo pos (starEach es X.env)).any (·.1)=false:=by rfl):CE X (.Call (.Name x p) (e :: es) [] pos) (cB f ms):=
 pe_imp (pe_callB hc hg hm hv ha hn hdb he hpl) (cB_read hf)
theorem ce_callTy (hc:CallR X (.type T) r) (hf:BinC X.K X.mg r f) (hg:Gl X x) (hm:X.mg x=none) (hv:bootBuiltins x=some (.type T)) (ha:CA X (e :: es) ms) (hn:x≠"__name__":=by decide) (hdb:(x == ("__debug__":Str))=false:=by decide)
  (he:starEach (e :: es) X.env=(false,eval e X.env) :: starEach es X.env:=by rfl) (hpl:(backTo pos (starEach es X.env)).any (·.1)=false:=by rfl):CE X (.Call (.Name x p) (e :: es) [] pos) (cB f ms):=
 pe_imp (pe_callTy hc hg hm hv ha hn hdb he hpl) (cB_read hf)
end
def fLen:List R→M R
 | [x]=>match x.seq with
  | some xs=>pure (.v (.int (xs.length:Nat)))
  | none=>bad
 | _=>bad
def fLenS:List R→M R
 | [.v (.str z)]=>if z.length≤sizeLine then pure (.v (.int (z.length:Nat))) else bad
 | _=>bad
def R.kind:R→Option String
 | .v .non=>some "NoneType"
 | .v (.bl _)=>some "bool"
 | .v (.int _)=>some "int"
 | .v (.str _)=>some "str"
 | .v (.tup _)=>some "tuple"
 | .v (.lst _)=>some "list"
 | .fr _=>some "list"
 | .vw _=>some "list"
 | .mv _=>some "list"
 | _=>none
def fIsi:List R→M R
 | [x,.v (.ty n)]=>match x.kind with
  | some t=>if n∈["int","bool","tuple","list","str"] then pure (.v (.bl (isiB t n))) else bad
  | none=>bad
 | _=>bad
def f2I (g:Int→Int→Int):List R→M R
 | [.v (.int i),.v (.int j)]=>pure (.v (.int (g i j)))
 | _=>bad
abbrev fMax2:=f2I fun i j=>if j > i then j else i
abbrev fMin2:=f2I fun i j=>if j < i then j else i
def fAbs:List R→M R
 | [.v (.int i)]=>pure (.v (.int (if i < 0 then -i else i)))
 | _=>bad
def bls:List D→Option (List Bool)
 | []=>some []
 | .bl b :: r=>(bls r).map (b :: ·)
 | _=>none
def fAny:List R→M R
 | [x]=>match x.lis.bind bls with
  | some bs=>pure (.v (.bl (bs.any id)))
  | none=>bad
 | _=>bad
def fAll:List R→M R
 | [x]=>match x.lis.bind bls with
  | some bs=>pure (.v (.bl (bs.all id)))
  | none=>bad
 | _=>bad
def fInt:List R→M R
 | [.v (.int i)]=>pure (.v (.int i))
 | [.v (.bl b)]=>pure (.v (.int (if b then 1 else 0)))
 | _=>bad
def fList:List R→M R
 | [x]=>match x.seq with
  | some xs=>pure (.fr xs)
  | none=>bad
 | _=>bad
def fTuple:List R→M R
 | [x]=>match x.seq with
  | some xs=>pure (.v (.tup xs))
  | none=>bad
 | _=>bad
section
variable {K:PySem.W.Frag} {mg:Str→Option Value}
theorem reps1 {O:Ow} {H:Hp} {r:R} {vs:List V} (h:RepRs K mg O H [r] vs):∃v,vs=[v]∧RepR K mg O H r v:=by
 obtain ⟨v,r',rfl,a,b⟩:=h;cases b;exact ⟨v,rfl,a⟩
theorem reps2 {O:Ow} {H:Hp} {r s:R} {vs:List V} (h:RepRs K mg O H [r,s] vs):∃v u,vs=[v,u]∧RepR K mg O H r v∧RepR K mg O H s u:=by
 obtain ⟨v,r',rfl,a,b⟩:=h
 obtain ⟨u,r'',rfl,c,d⟩:=b
 cases d;exact ⟨v,u,rfl,a,c⟩
theorem kLen:BinC K mg (fun xs H Q=>∃p ys,xs=[.ref p]∧(SqL K H p ys∨SqT K H p ys)∧Q (.int ys.length) H) fLen:=fun O σ S σV H vs rs r' S' Q st hr h q=>by
 unfold fLen at h
 split at h
 ·rename_i x
  obtain ⟨v,rfl,hx⟩:=reps1 hr
  split at h
  ·rename_i xs e
   cases h
   obtain ⟨a,ys,rfl,l,ra⟩:=R.seq_rep hx e
   exact ⟨a,ys,rfl,l,by rw [ra.len];exact q O _ H (Go.refl _ _) st rfl trivial⟩
  ·cases h
 ·cases h
theorem kLenS:BinC K mg (fun xs H Q=>∃z,xs=[.str z]∧z.length≤sizeLine∧Q (.int z.length) H) fLenS:=fun O σ S σV H vs rs r' S' Q st hr h q=>by
 unfold fLenS at h
 split at h
 ·rename_i z
  obtain ⟨v,rfl,hx⟩:=reps1 hr
  cases (show v = .str z from hx)
  by_cases hz:z.length≤sizeLine
  ·rw [if_pos hz] at h
   cases h
   exact ⟨z,rfl,hz,q O _ H (Go.refl _ _) st rfl trivial⟩
  ·rw [if_neg hz] at h;cases h
 ·cases h
theorem R.kind_rep {O:Ow} {H:Hp} {r:R} {v:V} {t:String} (h:RepR K mg O H r v) (e:r.kind=some t):TyW K H v t:=by
 unfold R.kind at e
 split at e
 ·cases e;cases h;exact .non
 ·cases e;cases h;exact .bl _
 ·cases e;cases h;exact .int _
 ·cases e;cases h;exact .str _
 ·cases e;obtain ⟨a,ys,rfl,l,_⟩:=h;exact .tup l
 ·cases e;obtain ⟨a,ys,rfl,l,_⟩:=h;exact .lst l.sq
 ·cases e;obtain ⟨a,ys,rfl,l,_⟩:=h;exact .lst (SqL.of l)
 ·cases e;obtain ⟨a,ys,rfl,l,_⟩:=h;exact .lst l.sq
 ·cases e;obtain ⟨a,ys,rfl,l,_⟩:=h;exact .lst (SqL.of l)
 ·cases e
theorem kIsi:BinC K mg (rIsi K) fIsi:=fun O σ S σV H vs rs r' S' Q st hr h q=>by
 unfold fIsi at h
 split at h
 ·rename_i x n
  obtain ⟨v,u,rfl,hx,hy⟩:=reps2 hr
  cases (show u = .ty n from hy)
  split at h
  ·rename_i t e
   by_cases hn:n∈["int","bool","tuple","list","str"]
   ·rw [if_pos hn] at h
    cases h
    exact ⟨v,n,t,rfl,R.kind_rep hx e,hn,q O _ H (Go.refl _ _) st rfl trivial⟩
   ·rw [if_neg hn] at h;cases h
  ·cases h
 ·cases h
theorem k2I {g:Int→Int→Int}:BinC K mg (fun xs H Q=>∃i j,xs=[.int i,.int j]∧Q (.int (g i j)) H) (f2I g):=fun O σ S σV H vs rs r' S' Q st hr h q=>by
 unfold f2I at h
 split at h
 ·rename_i i j
  obtain ⟨v,u,rfl,hx,hy⟩:=reps2 hr
  cases (show v = .int i from hx)
  cases (show u = .int j from hy)
  cases h
  exact ⟨i,j,rfl,q O _ H (Go.refl _ _) st rfl trivial⟩
 ·cases h
theorem kInt:BinC K mg (fun xs H Q=>(∃i,xs=[.int i]∧Q (.int i) H)∨∃k,xs=[.bl k]∧Q (.int (if k then 1 else 0)) H) fInt:=fun O σ S σV H vs rs r' S' Q st hr h q=>by
 unfold fInt at h
 split at h
 ·rename_i i
  obtain ⟨v,rfl,hx⟩:=reps1 hr
  cases (show v = .int i from hx)
  cases h
  exact .inl ⟨i,rfl,q O _ H (Go.refl _ _) st rfl trivial⟩
 ·rename_i b
  obtain ⟨v,rfl,hx⟩:=reps1 hr
  cases (show v = .bl b from hx)
  cases h
  exact .inr ⟨b,rfl,q O _ H (Go.refl _ _) st rfl trivial⟩
 ·cases h
theorem kList:BinC K mg (fun xs H Q=>∃p ys,xs=[.ref p]∧(SqL K H p ys∨SqT K H p ys)∧∀l,H l=none→Q (.ref l) (upd H l (.lst ys))) fList:=fun O σ S σV H vs rs r' S' Q st hr h q=>by
 unfold fList at h
 split at h
 ·rename_i x
  obtain ⟨v,rfl,hx⟩:=reps1 hr
  split at h
  ·rename_i xs e
   cases h
   obtain ⟨a,ys,rfl,l,ra⟩:=R.seq_rep hx e
   refine ⟨a,ys,rfl,l,fun p hp=>q (updO O p .tmp) _ _ (Go.new hp) (st.new hp) ⟨p,ys,rfl,upd_same,updO_same,ra.go (Go.new hp)⟩ fun b eb=>?_⟩
   cases eb
   exact hp
  ·cases h
 ·cases h
theorem kTuple:BinC K mg (fun xs H Q=>∃p ys,xs=[.ref p]∧((SqL K H p ys∧∀l,H l=none→Q (.ref l) (upd H l (.tup ys)))∨(SqT K H p ys∧Q (.ref p) H))) fTuple:=fun O σ S σV H vs rs r' S' Q st hr h q=>by
 unfold fTuple at h
 split at h
 ·rename_i x
  obtain ⟨v,rfl,hx⟩:=reps1 hr
  split at h
  ·rename_i xs e
   cases h
   obtain ⟨a,ys,rfl,l,ra⟩:=R.seq_rep hx e
   refine ⟨a,ys,rfl,?_⟩
   rcases l with l | l
   ·exact .inl ⟨l,fun p hp=>q O _ _ (Go.new0 hp) (st.new0 hp) ⟨p,ys,rfl,SqT.of upd_same,ra.go (Go.new0 hp)⟩ trivial⟩
   ·exact .inr ⟨l,q O _ _ (Go.refl _ _) st ⟨a,ys,rfl,l,ra⟩ trivial⟩
  ·cases h
 ·cases h
end
end L3
namespace L3
open PySem PySem.Spec L2
variable [L2.TabP]
def cutD {α:Type} (xs:List α) (lo hi:Option Int):List α:=(xs.drop (HT.sIx xs.length 0 lo)).take (HT.sIx xs.length xs.length hi - HT.sIx xs.length 0 lo)
theorem RepAll.cut {K:PySem.W.Frag} {mg:Str→Option Value} {O:Ow} {H:Hp} {ds:List D} {xs:List V} (h:RepAll K mg O H ds xs) (lo hi:Option Int):RepAll K mg O H (cutD ds lo hi) (cutV xs lo hi):=by
 unfold cutD cutV
 rw [h.len]
 exact (h.drop _).take _
abbrev MO:=En→M (Option Int)
def toOf (K:PySem.W.Frag) (mg:Str→Option Value) (m:MO):TO:=fun σV H Q=>Ru K mg m σV H fun O σ S' b=>∀O' H',Go O O' H H'→S3 K mg O' σ S' σV H'→Q b H'
abbrev CO (X:Cx) (e:Option Expr) (m:MO):Prop:=PO X e (toOf X.K X.mg m)
def cNoPart:MO:=fun _=>pure none
def cPart (m:ME):MO:=fun σ=>do
 let r ←m σ
 match r with
 | .v (.int i)=>pure (some i)
 | _=>bad
def oSl (x:R) (lo hi:Option Int):M R:=
 match x with
 | .v (.tup xs)=>if HT.sIx xs.length 0 lo=0∧HT.sIx xs.length xs.length hi=xs.length then bad else pure (.v (.tup (cutD xs lo hi)))
 | _=>match x.lis with
  | some xs=>pure (.fr (cutD xs lo hi))
  | none=>bad
def cSl (a:ME) (lo hi:MO):ME:=fun σ=>do
 let x ←a σ
 let l ←lo σ
 let h ←hi σ
 oSl x l h
section
variable {X:Cx} {e:Expr} {m:ME} {lo hi:Option Expr} {ml mh:MO} {pos p2:Pos}
theorem co_none:CO X none cNoPart:=fun pins s σV H Q I zz0=>by
 obtain ⟨O,σ,S,r,S',st,h,q⟩:=zz0
 cases h
 exact po_none pins s σV H Q I (q O H (Go.refl _ _) st)
theorem co_some (he:CE X e m):CO X (some e) (cPart m):=fun pins s σV H Q I zz0=>by
 obtain ⟨O,σ,S,r,S',st,h,q⟩:=zz0
 obtain ⟨x,S1,h1,h⟩:=M.inv h
 split at h
 ·rename_i i
  cases h
  exact po_some he pins s σV H Q I ⟨O,σ,S,_,_,st,h1,fun O1 v H1 g1 st1 rr _=>⟨i,rr,q O1 H1 g1 st1⟩⟩
 ·cases h
theorem ce_slice (he:CE X e m) (hl:CO X lo ml) (hu:CO X hi mh):CE X (.Subscript e (.Slice lo hi none p2) pos) (cSl m ml mh):=pe_imp (pe_slice (sl_list.or sl_tup) he hl hu) fun σV H Q zz0=>by
 obtain ⟨O,σ,S,r,S',st,h,q⟩:=zz0
 obtain ⟨x,S1,h1,ha⟩:=M.inv h
 clear h
 obtain ⟨l,S2,h2,hb⟩:=M.inv ha
 clear ha
 obtain ⟨u,S3',h3,h⟩:=M.inv hb
 clear hb
 refine ⟨O,σ,S,x,S1,st,h1,fun O1 vx H1 g1 st1 rx nx=>?_⟩
 refine ⟨O1,σ,S1,l,S2,st1,h2,fun O2 H2 g2 st2=>?_⟩
 refine ⟨O2,σ,S2,u,S3',st2,h3,fun O3 H3 g3 st3=>?_⟩
 have g:=(g1.trans g2).trans g3
 have rx3:=rx.go (g2.trans g3)
 unfold oSl at h
 split at h
 ·rename_i xs
  by_cases c:HT.sIx xs.length 0 l=0∧HT.sIx xs.length xs.length u=xs.length
  ·rw [if_pos c] at h;cases h
  ·rw [if_neg c] at h
   cases h
   obtain ⟨a,ys,rfl,l1,ra⟩:=rx3
   exact .inr ⟨a,ys,rfl,l1,by rw [ra.len];exact c,fun p hp=>q O3 _ _ (g.trans (Go.new0 hp)) (st3.new0 hp) ⟨p,_,rfl,SqT.of upd_same,(ra.cut l u).go (Go.new0 hp)⟩ trivial⟩
 ·split at h
  ·rename_i xs e1
   cases h
   obtain ⟨a,ys,rfl,l1,ra⟩:=R.lis_rep rx3 e1
   refine .inl ⟨a,ys,rfl,l1,fun p hp=>q (updO O3 p .tmp) _ _ (g.trans (Go.new hp)) (st3.new hp) ⟨p,_,rfl,upd_same,updO_same,(ra.cut l u).go (Go.new hp)⟩ fun b eb=>?_⟩
   cases eb
   exact g.same.free hp
  ·cases h
end
def R.own:R→Option (List D)
 | .v (.lst xs)=>some xs
 | .fr xs=>some xs
 | .mv xs=>some xs
 | _=>none
def oCatL (x y:R):M R:=match x.own,y.own with
 | some xs,some ys=>if xs.length + ys.length≤sizeLine then pure (.fr (xs ++ ys)) else bad
 | _,_=>bad
def oCatT:R→R→M R
 | .v (.tup xs),.v (.tup ys)=>if xs.length + ys.length≤sizeLine then pure (.v (.tup (xs ++ ys))) else bad
 | _,_=>bad
def oCatS:R→R→M R
 | .v (.str x),.v (.str y)=>if x.length + y.length≤sizeLine then pure (.v (.str (x ++ y))) else bad
 | _,_=>bad
section
variable {K:PySem.W.Frag} {mg:Str→Option Value}
theorem bCatS:Bin K mg (fun x y H Q=>∃i j,x = .str i∧y = .str j∧i.length + j.length≤sizeLine∧Q (.str (i ++ j)) H) oCatS:=fun O σ S σV H x y rx ry r' S' Q st hx hy h q=>by
 unfold oCatS at h
 split at h
 ·rename_i i j
  by_cases hl:i.length + j.length≤sizeLine
  ·rw [if_pos hl] at h
   cases h
   exact ⟨i,j,hx,hy,hl,q O _ H (Go.refl _ _) st rfl trivial⟩
  ·rw [if_neg hl] at h;cases h
 ·cases h
end
def D.py:D→PyData
 | .non=>.none
 | .bl b=>.bool b
 | .int i=>.int i
 | .str x=>.str x
 | .tup xs=>.tuple (pys xs)
 | .lst xs=>.list (pys xs)
 | .dic _ _=>.none
 | .fn _=>.none
 | .ty _=>.none
where pys:List D→List PyData
 | []=>[]
 | x :: xs=>x.py :: pys xs
mutual
def D.gd:D→Nat→Bool
 | .non,_=>true
 | .bl _,_=>true
 | .int _,_=>true
 | .str x,_=>PySem.PyData.strOk x
 | .tup xs,n=>match n with
  | 0=>false
  | k + 1=>gdAll xs k
 | .lst xs,n=>match n with
  | 0=>false
  | k + 1=>gdAll xs k
 | .dic _ _,_=>false
 | .fn _,_=>false
 | .ty _,_=>false
def gdAll:List D→Nat→Bool
 | [],_=>true
 | x :: xs,n=>x.gd n && gdAll xs n
end
mutual
def peq:D→D→Bool
 | .non,b=>match b with | .non=>true | _=>false
 | .bl a,b=>match b with | .bl c=>a == c | .int j=>(if a then 1 else 0) == j | _=>false
 | .int i,b=>match b with | .bl c=>i == (if c then 1 else 0) | .int j=>i == j | _=>false
 | .str x,b=>match b with | .str y=>x == y | _=>false
 | .tup xs,b=>match b with | .tup ys=>peqAll xs ys | _=>false
 | .lst xs,b=>match b with | .lst ys=>peqAll xs ys | _=>false
 | .dic _ _,_=>false
 | .fn _,_=>false
 | .ty _,_=>false
def peqAll:List D→List D→Bool
 | [],ys=>match ys with | []=>true | _=>false
 | x :: xs,ys=>match ys with | []=>false | y :: r=>peq x y && peqAll xs r
end
mutual
theorem eqv_py:∀(a b:D) (n m:Nat),a.gd n=true→b.gd m=true→PyData.eqv a.py b.py=peq a b
 | .non,b,n,m,ha,hb=>by cases b <;> first | rfl | (simp [D.gd] at hb)
 | .bl _,b,n,m,ha,hb=>by cases b <;> first | rfl | (simp [D.gd] at hb)
 | .int _,b,n,m,ha,hb=>by cases b <;> first | rfl | (simp [D.gd] at hb)
 | .str _,b,n,m,ha,hb=>by cases b <;> first | rfl | (simp [D.gd] at hb)
 | .tup xs,b,n,m,ha,hb=>by
  cases b with
  | tup ys=>
   cases n with
   | zero=>simp [D.gd] at ha
   | succ k=>
    cases m with
    | zero=>simp [D.gd] at hb
    | succ j=>exact eqv_pys xs ys k j ha hb
  | dic _ _=>simp [D.gd] at hb
  | fn _=>simp [D.gd] at hb
  | ty _=>simp [D.gd] at hb
  | _=>rfl
 | .lst xs,b,n,m,ha,hb=>by
  cases b with
  | lst ys=>
   cases n with
   | zero=>simp [D.gd] at ha
   | succ k=>
    cases m with
    | zero=>simp [D.gd] at hb
    | succ j=>exact eqv_pys xs ys k j ha hb
  | dic _ _=>simp [D.gd] at hb
  | fn _=>simp [D.gd] at hb
  | ty _=>simp [D.gd] at hb
  | _=>rfl
 | .dic _ _,b,n,m,ha,hb=>by simp [D.gd] at ha
 | .fn _,b,n,m,ha,hb=>by simp [D.gd] at ha
 | .ty _,b,n,m,ha,hb=>by simp [D.gd] at ha
theorem eqv_pys:∀(xs ys:List D) (n m:Nat),gdAll xs n=true→gdAll ys m=true→PyData.eqvAll (D.py.pys xs) (D.py.pys ys)=peqAll xs ys
 | [],ys,n,m,ha,hb=>by cases ys <;> rfl
 | x :: xs,ys,n,m,ha,hb=>by
  cases ys with
  | nil=>rfl
  | cons y r=>
   rw [gdAll,Bool.and_eq_true] at ha hb
   show (PyData.eqv x.py y.py && PyData.eqvAll (D.py.pys xs) (D.py.pys r))=(peq x y && peqAll xs r)
   rw [eqv_py x y n m ha.1 hb.1,eqv_pys xs r n m ha.2 hb.2]
end
mutual
theorem gd_lay:∀(a:D) (n:Nat),a.gd n=true→a.py.canLay0=true∧a.py.depth≤n
 | .non,n,h=>⟨rfl,Nat.zero_le _⟩
 | .bl _,n,h=>⟨rfl,Nat.zero_le _⟩
 | .int _,n,h=>⟨rfl,Nat.zero_le _⟩
 | .str _,n,h=>⟨h,Nat.zero_le _⟩
 | .tup xs,n,h=>by
  cases n with
  | zero=>simp [D.gd] at h
  | succ k=>obtain ⟨q1,q2⟩:=gd_lays xs k h;exact ⟨q1,Nat.succ_le_succ q2⟩
 | .lst xs,n,h=>by
  cases n with
  | zero=>simp [D.gd] at h
  | succ k=>obtain ⟨q1,q2⟩:=gd_lays xs k h;exact ⟨q1,Nat.succ_le_succ q2⟩
 | .dic _ _,n,h=>by simp [D.gd] at h
 | .fn _,n,h=>by simp [D.gd] at h
 | .ty _,n,h=>by simp [D.gd] at h
theorem gd_lays:∀(xs:List D) (n:Nat),gdAll xs n=true→PyData.canLayAll0 (D.py.pys xs)=true∧PyData.depthAll (D.py.pys xs)≤n
 | [],n,h=>⟨rfl,Nat.zero_le _⟩
 | x :: xs,n,h=>by
  rw [gdAll,Bool.and_eq_true] at h
  obtain ⟨a1,a2⟩:=gd_lay x n h.1
  obtain ⟨b1,b2⟩:=gd_lays xs n h.2
  exact ⟨by show (x.py.canLay0 && PyData.canLayAll0 (D.py.pys xs))=true;rw [a1,b1];rfl,by show max x.py.depth (PyData.depthAll (D.py.pys xs))≤n;omega⟩
end
theorem gd_shaped {a:D} (h:a.gd 64=true):SeqAt.shaped a.py=true:=by
 obtain ⟨h1,h2⟩:=gd_lay a 64 h
 show (a.py.canLay0 && decide (a.py.depth≤64))=true
 rw [h1,decide_eq_true h2];rfl
mutual
theorem Rep.py {K:PySem.W.Frag} {mg:Str→Option Value} {O:Ow} {H:Hp}:∀{d:D} {v:V} {n:Nat},d.gd n=true→Rep K mg O H d v→L2.Rep K H d.py v
 | .non,_,_,_,h=>h
 | .bl _,_,_,_,h=>h
 | .int _,_,_,_,h=>h
 | .str _,_,_,_,h=>h
 | .tup _,_,n,g,h=>by
  cases n with
  | zero=>simp [D.gd] at g
  | succ k=>obtain ⟨a,ys,q,l,r⟩:=h;exact ⟨a,ys,q,l,RepAll.py (n:=k) g r⟩
 | .lst _,_,n,g,h=>by
  cases n with
  | zero=>simp [D.gd] at g
  | succ k=>obtain ⟨a,ys,q,l,r⟩:=h;exact ⟨a,ys,q,l.sq,RepAll.py (n:=k) g r⟩
 | .dic _ _,_,_,g,h=>by simp [D.gd] at g
 | .fn _,_,_,g,h=>by simp [D.gd] at g
 | .ty _,_,_,g,h=>by simp [D.gd] at g
theorem RepAll.py {K:PySem.W.Frag} {mg:Str→Option Value} {O:Ow} {H:Hp}:∀{ds:List D} {ys:List V} {n:Nat},gdAll ds n=true→RepAll K mg O H ds ys→L2.RepAll K H (D.py.pys ds) ys
 | [],_,_,_,h=>h
 | _ :: _,_,n,g,h=>by
  rw [gdAll,Bool.and_eq_true] at g
  obtain ⟨x,r,q,a,b⟩:=h
  exact ⟨x,r,q,Rep.py g.1 a,RepAll.py g.2 b⟩
end
def R.arg:R→D
 | .v d=>d
 | .fr xs=>.lst xs
 | .vw xs=>.lst xs
 | .mv xs=>.lst xs
 | .dv kvs=>.dic (kvs.map (·.1)) (kvs.map (·.2))
theorem R.arg_py {K:PySem.W.Frag} {mg:Str→Option Value} {O:Ow} {H:Hp} {r:R} {v:V} {n:Nat} (g:r.arg.gd n=true) (h:RepR K mg O H r v):L2.Rep K H r.arg.py v:=by
 have lis:∀xs,r.lis=some xs→(D.lst xs).gd n=true→L2.Rep K H (D.lst xs).py v:=fun xs e g=>by
  obtain ⟨a,ys,q,l,ra⟩:=R.lis_rep h e
  cases n with
  | zero=>simp [D.gd] at g
  | succ k=>exact ⟨a,ys,q,l,RepAll.py (n:=k) g ra⟩
 cases r with
 | v d=>exact Rep.py g h
 | fr xs=>exact lis xs rfl g
 | vw xs=>exact lis xs rfl g
 | mv xs=>exact lis xs rfl g
 | dv kvs=>simp [R.arg,D.gd] at g
def oEq (x y:R):M R:=if x.arg.gd 64=true∧y.arg.gd 64=true then pure (.v (.bl (peq x.arg y.arg))) else bad
def oNe (x y:R):M R:=if x.arg.gd 64=true∧y.arg.gd 64=true then pure (.v (.bl (!peq x.arg y.arg))) else bad
section
variable {K:PySem.W.Frag} {mg:Str→Option Value}
theorem bEq:Bin K mg (rEqD K false) oEq:=fun O σ S σV H x y rx ry r' S' Q st hx hy h q=>by
 unfold oEq at h
 by_cases c:rx.arg.gd 64=true∧ry.arg.gd 64=true
 ·rw [if_pos c] at h
  cases h
  refine ⟨_,_,R.arg_py c.1 hx,R.arg_py c.2 hy,gd_shaped c.1,gd_shaped c.2,?_⟩
  rw [if_neg Bool.false_ne_true,eqv_py _ _ _ _ c.1 c.2]
  exact q O _ H (Go.refl _ _) st rfl trivial
 ·rw [if_neg c] at h;cases h
theorem bNe:Bin K mg (rEqD K true) oNe:=fun O σ S σV H x y rx ry r' S' Q st hx hy h q=>by
 unfold oNe at h
 by_cases c:rx.arg.gd 64=true∧ry.arg.gd 64=true
 ·rw [if_pos c] at h
  cases h
  refine ⟨_,_,R.arg_py c.1 hx,R.arg_py c.2 hy,gd_shaped c.1,gd_shaped c.2,?_⟩
  rw [if_pos rfl,eqv_py _ _ _ _ c.1 c.2]
  exact q O _ H (Go.refl _ _) st rfl trivial
 ·rw [if_neg c] at h;cases h
end
def R.isN:R→Bool
 | .v .non=>true
 | _=>false
def oIsN (x:R):R→M R
 | .v .non=>pure (.v (.bl x.isN))
 | _=>bad
def oNotN (x:R):R→M R
 | .v .non=>pure (.v (.bl (!x.isN)))
 | _=>bad
def oIsB:R→R→M R
 | .v (.bl a),.v (.bl b)=>pure (.v (.bl (decide (a=b))))
 | _,_=>bad
def oNotB:R→R→M R
 | .v (.bl a),.v (.bl b)=>pure (.v (.bl (!decide (a=b))))
 | _,_=>bad
section
variable {K:PySem.W.Frag} {mg:Str→Option Value}
theorem isN_rep {O:Ow} {H:Hp} {r:R} {v:V} (h:RepR K mg O H r v):decide (v = .non)=r.isN:=by
 have no:∀{a:Addr},v = .ref a→decide (v = .non)=false:=fun {a} e=>by rw [e];exact decide_eq_false (by intro z;cases z)
 cases r with
 | v d=>
  cases d with
  | non=>exact decide_eq_true h
  | bl _=>rw [show v=_ from h];rfl
  | int _=>rw [show v=_ from h];rfl
  | str _=>rw [show v=_ from h];rfl
  | ty _=>rw [show v=_ from h];rfl
  | tup _=>obtain ⟨a,_,e,_⟩:=h;exact no e
  | lst _=>obtain ⟨a,_,e,_⟩:=h;exact no e
  | dic _ _=>exact False.elim h
  | fn _=>obtain ⟨a,e,_⟩:=h;exact no e
 | fr _=>obtain ⟨a,_,e,_⟩:=h;exact no e
 | vw _=>obtain ⟨a,_,e,_⟩:=h;exact no e
 | mv _=>obtain ⟨a,_,e,_⟩:=h;exact no e
 | dv _=>obtain ⟨a,_,e,_⟩:=h;exact no e
theorem bIsN:Bin K mg (fun x y H Q=>y = .non∧Q (.bl (decide (x = .non))) H) oIsN:=fun O σ S σV H x y rx ry r' S' Q st hx hy h q=>by
 unfold oIsN at h
 split at h
 ·cases h;exact ⟨hy,by rw [isN_rep hx];exact q O _ H (Go.refl _ _) st rfl trivial⟩
 ·cases h
theorem bNotN:Bin K mg (fun x y H Q=>y = .non∧Q (.bl (!decide (x = .non))) H) oNotN:=fun O σ S σV H x y rx ry r' S' Q st hx hy h q=>by
 unfold oNotN at h
 split at h
 ·cases h;exact ⟨hy,by rw [isN_rep hx];exact q O _ H (Go.refl _ _) st rfl trivial⟩
 ·cases h
end
def D.flat:D→Bool
 | .non=>true
 | .bl _=>true
 | .int _=>true
 | .str _=>true
 | _=>false
def inD (x:D) (xs:List D):Bool:=xs.any fun y=>peq y x
def oIn (neg:Bool) (x y:R):M R:=match x,y.seq with
 | .v d,some xs=>if d.flat=true∧xs.all D.flat=true then pure (.v (.bl (if neg then !inD d xs else inD d xs))) else bad
 | _,_=>bad
section
variable {K:PySem.W.Frag} {mg:Str→Option Value}
theorem flat_rep {O:Ow} {H:Hp} {d:D} {v:V} (h:Rep K mg O H d v) (f:d.flat=true):flatV v=true:=by
 cases d with
 | non=>rw [show v=_ from h];rfl
 | bl _=>rw [show v=_ from h];rfl
 | int _=>rw [show v=_ from h];rfl
 | str _=>rw [show v=_ from h];rfl
 | _=>exact absurd (show false=true from f) Bool.false_ne_true
theorem eqV_rep {O:Ow} {H:Hp} {d e:D} {v u:V} (h:Rep K mg O H d v) (h':Rep K mg O H e u) (f:d.flat=true) (f':e.flat=true):eqV v u=peq d e:=by
 cases d with
 | non=>
  rw [show v=_ from h]
  cases e with
  | non=>rw [show u=_ from h'];rfl
  | bl _=>rw [show u=_ from h'];rfl
  | int _=>rw [show u=_ from h'];rfl
  | str _=>rw [show u=_ from h'];rfl
  | _=>exact absurd (show false=true from f') Bool.false_ne_true
 | bl _=>
  rw [show v=_ from h]
  cases e with
  | non=>rw [show u=_ from h'];rfl
  | bl _=>rw [show u=_ from h'];rfl
  | int _=>rw [show u=_ from h'];rfl
  | str _=>rw [show u=_ from h'];rfl
  | _=>exact absurd (show false=true from f') Bool.false_ne_true
 | int _=>
  rw [show v=_ from h]
  cases e with
  | non=>rw [show u=_ from h'];rfl
  | bl _=>rw [show u=_ from h'];rfl
  | int _=>rw [show u=_ from h'];rfl
  | str _=>rw [show u=_ from h'];rfl
  | _=>exact absurd (show false=true from f') Bool.false_ne_true
 | str _=>
  rw [show v=_ from h]
  cases e with
  | non=>rw [show u=_ from h'];rfl
  | bl _=>rw [show u=_ from h'];rfl
  | int _=>rw [show u=_ from h'];rfl
  | str _=>rw [show u=_ from h'];rfl
  | _=>exact absurd (show false=true from f') Bool.false_ne_true
 | _=>exact absurd (show false=true from f) Bool.false_ne_true
theorem inV_rep {O:Ow} {H:Hp} {d:D} {v:V} (h:Rep K mg O H d v) (f:d.flat=true):∀{ds:List D} {ys:List V},RepAll K mg O H ds ys→ds.all D.flat=true→ys.all flatV=true∧inV v ys=inD d ds
 | [],ys,r,_=>by cases r;exact ⟨rfl,rfl⟩
 | e :: ds,ys,r,g=>by
  obtain ⟨y,t,rfl,r1,r2⟩:=r
  rw [List.all_cons,Bool.and_eq_true] at g
  obtain ⟨q1,q2⟩:=inV_rep h f r2 g.2
  refine ⟨by rw [List.all_cons,flat_rep r1 g.1,q1];rfl,?_⟩
  show (y :: t).any (fun z=>eqV z v)=(e :: ds).any fun z=>peq z d
  rw [List.any_cons,List.any_cons,eqV_rep r1 h g.1 f]
  exact congrArg _ q2
theorem bIn (neg:Bool):Bin K mg (rIn K neg) (oIn neg):=fun O σ S σV H x y rx ry r' S' Q st hx hy h q=>by
 unfold oIn at h
 split at h
 ·rename_i d xs e
  by_cases c:d.flat=true∧xs.all D.flat=true
  ·rw [if_pos c] at h
   cases h
   obtain ⟨a,ys,rfl,l,ra⟩:=R.seq_rep hy e
   obtain ⟨f1,f2⟩:=inV_rep hx c.1 ra c.2
   exact ⟨a,ys,rfl,l,flat_rep hx c.1,f1,by rw [f2];exact q O _ H (Go.refl _ _) st rfl trivial⟩
  ·rw [if_neg c] at h;cases h
 ·cases h
end
end L3
namespace L3
open PySem PySem.Spec L2
variable [L2.TabP]
inductive Fl where
 | nx (σ:En) | rt (r:R) | bk (σ:En) | ct (σ:En)
abbrev MS:=En→M Fl
def Fix (o:HO):Prop:=(∃xs,o = .tup xs)∨∃ob u,o = .frz ob u
structure Gs (O O':Ow) (H H':Hp):Prop where
 cells:∀b o,H b=some o→(O b = .free∨O b = .out∨Fix o)→(h:nT o:=by exact trivial)→H' b=some o
 own:∀b,H b≠none→(O b = .free∨O b = .out)→O' b=O b
 has:∀b,H b≠none→H' b≠none
 tb:∀b ps,H b=some (.tbl ps)→∃ps',H' b=some (.tbl ps')
 gd:TabsOk H→TabsOk H'
theorem Go.gs {O O':Ow} {H H':Hp} (g:Go O O' H H'):Gs O O' H H':=⟨fun b o e _ n=>g.same.at' b o e n,fun b h _=>g.own b h,fun _ h=>g.same.some h,g.same.tb,g.same.gd⟩
theorem Gs.refl (O:Ow) (H:Hp):Gs O O H H:=(Go.refl O H).gs
theorem Gs.trans {O O1 O2:Ow} {H H1 H2:Hp} (a:Gs O O1 H H1) (b:Gs O1 O2 H1 H2):Gs O O2 H H2:=by
 have some':∀{b:Addr} {o:HO},H b=some o→H b≠none:=fun e z=>by rw [e] at z;cases z
 refine ⟨fun c o e h n=>?_,fun c h f=>?_,fun c h=>b.has c (a.has c h),fun c ps h=>let ⟨p1,e1⟩:=a.tb c ps h;b.tb c p1 e1,fun g=>b.gd (a.gd g)⟩
 ·have e1:=a.cells c o e h n
  rcases h with h | h | h
  ·exact b.cells c o e1 (.inl ((a.own c (some' e) (.inl h)).trans h)) n
  ·exact b.cells c o e1 (.inr (.inl ((a.own c (some' e) (.inr h)).trans h))) n
  ·exact b.cells c o e1 (.inr (.inr h)) n
 ·have e1:=a.own c h f
  rw [b.own c (a.has c h) (by rw [e1];exact f),e1]
def Kp (σ σ':En) (σV σV':St):Prop:=(∀(i:Nat) (xs:List D),σ'[i]? = some (Slot.vw xs)→σ[i]? = some (Slot.vw xs)∧σV'[i]? = σV[i]?)∧
 (∀(i:Nat) (ys:List D),σ'[i]? = some (Slot.ow true ys)→(∃xs,σ[i]? = some (Slot.ow true xs))∧σV'[i]? = σV[i]?)∧
 ∀(i:Nat) (m:TM) (t:Tr),σ'[i]? = some (Slot.tr m t)→m≠.own→(∃t0,σ[i]? = some (Slot.tr m t0)∧(m = .view→t0=t))∧σV'[i]? = σV[i]?
theorem Kp.refl (σ:En) (σV:St):Kp σ σ σV σV:=⟨fun _ _ h=>⟨h,rfl⟩,fun _ _ h=>⟨⟨_,h⟩,rfl⟩,fun _ _ _ h _=>⟨⟨_,h,fun _=>rfl⟩,rfl⟩⟩
theorem Kp.trans {σ σ1 σ2:En} {v v1 v2:St} (a:Kp σ σ1 v v1) (b:Kp σ1 σ2 v1 v2):Kp σ σ2 v v2:=⟨fun i xs h=>⟨(a.1 i xs (b.1 i xs h).1).1,(b.1 i xs h).2.trans (a.1 i xs (b.1 i xs h).1).2⟩,fun i ys h=>by
 obtain ⟨⟨xs,e⟩,q⟩:=b.2.1 i ys h
 obtain ⟨z,q'⟩:=a.2.1 i xs e
 exact ⟨z,q.trans q'⟩,fun i m t h hm=>by
 obtain ⟨⟨t1,e,f⟩,q⟩:=b.2.2 i m t h hm
 obtain ⟨⟨t0,e',f'⟩,q'⟩:=a.2.2 i m t1 e hm
 exact ⟨⟨t0,e',fun z=>(f' z).trans (f z)⟩,q.trans q'⟩⟩
theorem Kp.put {σ:En} {σV:St} {i:Nat} {s s0:Slot} (h0:σ[i]? = some s0) (hv:∀xs,s≠.vw xs) (ho:∀xs,s = .ow true xs→∃ys,s0 = .ow true ys) (ht:∀m t,s = .tr m t→m≠.own→m≠.view∧∃t0,s0 = .tr m t0):Kp σ (σ.set i s) σV σV:=by
 have hlt:i < σ.length:=(List.getElem?_eq_some_iff.mp h0).1
 have key:∀(j:Nat) (t:Slot),(σ.set i s)[j]? = some t→(i=j∧t=s)∨(i≠j∧σ[j]? = some t):=fun j t h=>by
  by_cases hj:i=j
  ·subst hj
   rw [List.getElem?_set_self hlt] at h
   exact .inl ⟨rfl,(Option.some.inj h).symm⟩
  ·rw [List.getElem?_set_ne hj] at h
   exact .inr ⟨hj,h⟩
 refine ⟨fun j xs h=>?_,fun j ys h=>?_,fun j m t h hm=>?_⟩
 ·rcases key j _ h with ⟨_,e⟩ | ⟨_,e⟩
  ·exact absurd e.symm (hv xs)
  ·exact ⟨e,rfl⟩
 ·rcases key j _ h with ⟨rfl,e⟩ | ⟨_,e⟩
  ·obtain ⟨zs,e'⟩:=ho ys e.symm
   exact ⟨⟨zs,e' ▸ h0⟩,rfl⟩
  ·exact ⟨⟨_,e⟩,rfl⟩
 ·rcases key j _ h with ⟨rfl,e⟩ | ⟨_,e⟩
  ·obtain ⟨nv,t0,e'⟩:=ht m t e.symm hm
   exact ⟨⟨t0,e' ▸ h0,fun z=>absurd z nv⟩,rfl⟩
  ·exact ⟨⟨_,e,fun _=>rfl⟩,rfl⟩
def RetR (K:PySem.W.Frag) (mg:Str→Option Value) (O:Ow) (H:Hp):R→V→Prop
 | .v d,v=>Rep K mg O H d v
 | .fr xs,v=>∃a ys,v = .ref a∧H a=some (.lst ys)∧(O a = .tmp∨∃i,O a = .loc i)∧RepAll K mg O H xs ys
 | _,_=>False
def PoN (K:PySem.W.Frag) (mg:Str→Option Value) (O:Ow) (σ:En) (S':Store) (σV:St) (H:Hp) (σ':En) (N:St→Hp→Prop):Prop:=
 ∀O' σV' H',Gs O O' H H'→S3 K mg O' σ' S' σV' H'→Kp σ σ' σV σV'→N σV' H'
def PoS (K:PySem.W.Frag) (mg:Str→Option Value) (O:Ow) (σ:En) (S':Store) (σV:St) (H:Hp) (fl:Fl) (Dn:Ends):Prop:=match fl with
 | .nx σ'=>PoN K mg O σ S' σV H σ' Dn.nx
 | .bk σ'=>PoN K mg O σ S' σV H σ' Dn.bk
 | .ct σ'=>PoN K mg O σ S' σV H σ' Dn.ct
 | .rt r=>∀O' v H',Gs O O' H H'→Dom O' H'→S'=[]→RetR K mg O' H' r v→Dn.rt v H'
theorem PoN.gs {K:PySem.W.Frag} {mg:Str→Option Value} {O O1:Ow} {σ σ1 σ':En} {S':Store} {σV σV1:St} {H H1:Hp} {N:St→Hp→Prop} (h:PoN K mg O σ S' σV H σ' N) (g:Gs O O1 H H1) (k:Kp σ σ1 σV σV1):PoN K mg O1 σ1 S' σV1 H1 σ' N:=
 fun O' σV' H' g' st k'=>h O' σV' H' (g.trans g') st (k.trans k')
theorem PoS.gs {K:PySem.W.Frag} {mg:Str→Option Value} {O O1:Ow} {σ σ1:En} {S':Store} {σV σV1:St} {H H1:Hp} {fl:Fl} {Dn:Ends} (h:PoS K mg O σ S' σV H fl Dn) (g:Gs O O1 H H1) (k:Kp σ σ1 σV σV1):PoS K mg O1 σ1 S' σV1 H1 fl Dn:=by
 cases fl with
 | nx σ'=>exact PoN.gs h g k
 | bk σ'=>exact PoN.gs h g k
 | ct σ'=>exact PoN.gs h g k
 | rt r=>exact fun O' v H' g' d e r=>h O' v H' (g.trans g') d e r
def tsOf (K:PySem.W.Frag) (mg:Str→Option Value) (m:MS):TS:=fun Dn σV H=>Ru K mg m σV H fun O σ S' fl=>PoS K mg O σ S' σV H fl Dn
abbrev CS (X:Cx) (st:Stmt) (m:MS):Prop:=PS X st (tsOf X.K X.mg m)
abbrev CSs (X:Cx) (sts:List Stmt) (m:MS):Prop:=PSs X sts (tsOf X.K X.mg m)
theorem ps_imp {X:Cx} {s:Stmt} {t t':TS} (h:PS X s t) (i:∀D σ H,t' D σ H→t D σ H):PS X s t':=fun pins s σ H D I q=>h pins s σ H D I (i _ _ _ q)
theorem pss_imp {X:Cx} {s:List Stmt} {t t':TS} (h:PSs X s t) (i:∀D σ H,t' D σ H→t D σ H):PSs X s t':=fun pins s σ H D I q=>h pins s σ H D I (i _ _ _ q)
def cPass:MS:=fun σ=>pure (.nx σ)
def cBrk:MS:=fun σ=>pure (.bk σ)
def cCnt:MS:=fun σ=>pure (.ct σ)
def cRetN:MS:=fun _=>pure (.rt (.v .non))
def cSeq (a b:MS):MS:=fun σ=>do
 let fl ←a σ
 match fl with
 | .nx σ'=>b σ'
 | fl=>pure fl
def cRet (m:ME):MS:=fun σ=>do
 let r ←m σ
 match r with
 | .v d=>pure (.rt (.v d))
 | .fr xs=>pure (.rt (.fr xs))
 | _=>bad
def cRetO (i:Nat):MS:=fun σ=>match σ[i]? with
 | some (.ow false xs)=>pure (.rt (.fr xs))
 | _=>bad
def cIfS (t:En→M Bool) (a b:MS):MS:=fun σ=>do
 let t ←t σ
 if t=true then a σ else b σ
def cDrop (m:ME):MS:=fun σ=>do
 let _ ←m σ
 pure (.nx σ)
def cSet (i:Nat) (m:ME):MS:=fun σ=>do
 let r ←m σ
 let d ←r.dat
 pure (.nx (σ.set i (.val d)))
def cOwn (i:Nat) (m:ME):MS:=fun σ=>do
 let r ←m σ
 match r with
 | .fr xs=>pure (.nx (σ.set i (.ow false xs)))
 | _=>bad
section
variable {X:Cx} {st:Stmt} {rest:List Stmt} {pos:Pos} {a b:MS} {e:Expr} {m:ME}
theorem css_nil:CSs X [] cPass:=pss_imp pss_nil fun D σV H zz0=>by obtain ⟨O,σ,S,fl,S',st,h,q⟩:=zz0;cases h;exact q O σV H (Gs.refl _ _) st (Kp.refl _ _)
theorem css_one (h:CS X st a):CSs X [st] a:=pss_one h
theorem css_cons (h1:CS X st a) (h2:CSs X rest b):CSs X (st :: rest) (cSeq a b):=pss_imp (pss_cons h1 h2) fun D σV H zz0=>by
 obtain ⟨O,σ,S,fl,S',st,h,q⟩:=zz0
 obtain ⟨f1,S1,h1,h⟩:=M.inv h
 refine ⟨O,σ,S,f1,S1,st,h1,?_⟩
 cases f1 with
 | nx σ1=>exact fun O1 σV1 H1 g1 st1 k1=>⟨O1,σ1,S1,fl,S',st1,h,q.gs g1 k1⟩
 | rt r=>cases h;exact q
 | bk σ1=>cases h;exact q
 | ct σ1=>cases h;exact q
theorem ret_of {K:PySem.W.Frag} {mg:Str→Option Value} {O:Ow} {H:Hp} {r:R} {v:V} (h:RepR K mg O H r v) (hr:(∃d,r = .v d)∨∃xs,r = .fr xs):RetR K mg O H r v:=by
 rcases hr with ⟨d,rfl⟩ | ⟨xs,rfl⟩
 ·exact h
 ·obtain ⟨a,ys,q,l,t,ra⟩:=h;exact ⟨a,ys,q,l,.inl t,ra⟩
theorem cs_ret (he:CE X e m):CS X (.Return (some e) pos) (cRet m):=ps_imp (ps_ret he) fun D σV H zz0=>by
 obtain ⟨O,σ,S,fl,S',st,h,q⟩:=zz0
 obtain ⟨r,S1,h1,h⟩:=M.inv h
 refine ⟨O,σ,S,r,S1,st,h1,fun O1 v H1 g1 st1 rr nn=>?_⟩
 cases r with
 | v d=>cases h;exact q O1 v H1 g1.gs st1.dom st1.emp rr
 | fr xs=>cases h;exact q O1 v H1 g1.gs st1.dom st1.emp (ret_of rr (.inr ⟨_,rfl⟩))
 | vw xs=>cases h
 | mv xs=>cases h
 | dv _=>cases h
theorem cs_retO (i:Nat) {x:Str} {p:Pos} (hN:X.N[i]? = some x:=by rfl) (hv:Vis X.env.scope x:=by first | exact Or.inl rfl | exact Or.inr (Or.inl rfl) | exact Or.inr (Or.inr rfl)) (hd:(x == ("__debug__":Str))=false:=by decide)
  (hcd:(x == ("__classdict__":Str))=false:=by decide):CS X (.Return (some (.Name x p)) pos) (cRetO i):=ps_imp (ps_ret (pe_var hN hv hd hcd)) fun D σV H zz0=>by
 obtain ⟨O,σ,S,fl,S',st,h,q⟩:=zz0
 unfold cRetO at h
 cases e:σ[i]? with
 | none=>rw [e] at h;cases h
 | some s=>
  rw [e] at h
  have l:=st.loc i s e
  cases s with
  | ow p xs=>
   obtain ⟨a,ys,e1,e2,e3,e4⟩:=l
   cases p with
   | true=>cases h
   | false=>
   cases h
   refine ⟨.ref a,?_,q O _ H (Gs.refl _ _) st.dom st.emp ⟨a,ys,rfl,e3,.inr ⟨i,e2⟩,e4⟩⟩
   cases w:σV[i]? with
   | none=>rw [w] at e1;cases e1
   | some y=>rw [w] at e1;exact congrArg some e1
  | val d=>cases h
  | vw d=>cases h
  | emp=>cases h
  | dct d=>cases h
  | vd d=>cases h
  | pd d=>cases h
  | vp d=>cases h
  | tr _ _=>cases h
theorem cs_if {c:Expr} {A B:List Stmt} {t:En→M Bool} (hc:CT X c t) (ha:CSs X A a) (hb:CSs X B b):CS X (.If c A B pos) (cIfS t a b):=ps_imp (ps_if hc ha hb) fun D σV H zz0=>by
 obtain ⟨O,σ,S,fl,S',st,h,q⟩:=zz0
 obtain ⟨t,S1,h1,h⟩:=M.inv h
 refine ⟨O,σ,S,t,S1,st,h1,fun O1 H1 g1 st1=>?_⟩
 cases t with
 | false=>
  rw [if_neg Bool.false_ne_true] at h
  exact iteF ⟨O1,σ,S1,fl,S',st1,h,q.gs g1.gs (Kp.refl _ _)⟩
 | true=>
  rw [if_pos rfl] at h
  exact iteT ⟨O1,σ,S1,fl,S',st1,h,q.gs g1.gs (Kp.refl _ _)⟩
theorem S3.set {K:PySem.W.Frag} {mg:Str→Option Value} {O:Ow} {σ:En} {S:Store} {σV:St} {H:Hp} {i:Nat} {s:Slot} {v:V} (st:S3 K mg O σ S σV H) (h:SlotR K mg O H (.loc i) s (some v)):S3 K mg O (σ.set i s) S (σV.set i (some v)) H:=by
 refine ⟨st.dom,by rw [List.length_set,List.length_set];exact st.len,fun j t e=>?_,st.emp⟩
 by_cases hj:i=j
 ·subst hj
  have hl:i < σ.length:=by
   have:=(List.getElem?_eq_some_iff.mp e).1
   rwa [List.length_set] at this
  rw [List.getElem?_set_self hl] at e
  cases e
  rw [List.getElem?_set_self (by rw [←st.len];exact hl)]
  exact h
 ·rw [List.getElem?_set_ne hj] at e
  rw [List.getElem?_set_ne hj]
  exact st.loc j t e
theorem Kp.set {σ:En} {σV:St} {i:Nat} {s:Slot} {v:Option V} (hs:∀xs,s≠.vw xs) (ht:∀xs,s≠.ow true xs:=by intro xs z;cases z) (hu:∀m t,s = .tr m t→m = .own:=by intro m t z;cases z):Kp σ (σ.set i s) σV (σV.set i v):=by
 have key:∀(j:Nat) (t:Slot),(σ.set i s)[j]? = some t→t≠s→σ[j]? = some t∧(σV.set i v)[j]? = σV[j]?:=fun j t h hne=>by
  by_cases hj:i=j
  ·subst hj
   have hl:i < σ.length:=by
    have:=(List.getElem?_eq_some_iff.mp h).1
    rwa [List.length_set] at this
   rw [List.getElem?_set_self hl] at h
   exact absurd (Option.some.inj h).symm hne
  ·rw [List.getElem?_set_ne hj] at h ⊢
   exact ⟨h,rfl⟩
 refine ⟨fun j xs h=>key j _ h (fun z=>hs xs z.symm),fun j ys h=>?_,fun j m t h hm=>?_⟩
 ·obtain ⟨a,b⟩:=key j _ h (fun z=>ht ys z.symm)
  exact ⟨⟨ys,a⟩,b⟩
 ·obtain ⟨a,b⟩:=key j _ h (fun z=>hm (hu m t z.symm))
  exact ⟨⟨t,a,fun _=>rfl⟩,b⟩
theorem S3.own {K:PySem.W.Frag} {mg:Str→Option Value} {O:Ow} {σ:En} {S:Store} {σV:St} {H:Hp} {i:Nat} {a:Addr} {xs:List D} {ys:List V} (st:S3 K mg O σ S σV H) (ht:O a = .tmp) (hl:H a=some (.lst ys)) (hr:RepAll K mg O H xs ys) :
  S3 K mg (updO O a (.loc i)) (σ.set i (.ow false xs)) S (σV.set i (some (.ref a))) H:=by
 have ne:∀{b:Addr} {w:Own},O b=w→w≠.tmp→updO O a (.loc i) b=w:=fun {b w} h hw=>by
  rw [updO_ne];exact h
  rintro rfl;exact hw (h.symm.trans ht)
 have fre:Fre O (updO O a (.loc i)):=⟨fun b h=>ne h (by intro z;cases z)⟩
 have st1:S3 K mg (updO O a (.loc i)) σ S σV H:=by
  refine ⟨⟨fun b hb=>?_,st.dom.tabs⟩,st.len,fun j s e=>(st.loc j s e).fre fre (fun b h=>ne h (by intro z;cases z)) (fun b h=>ne h (by intro z;cases z)) (fun b p h=>ne h (by intro z;cases z)),st.emp⟩
  by_cases e:b=a
  ·rw [e,hl];intro z;cases z
  ·rw [updO_ne e] at hb;exact st.dom.has b hb
 exact st1.set ⟨a,ys,rfl,updO_same,hl,hr.fre fre⟩
theorem Gs.tmp {O:Ow} {H:Hp} {a:Addr} {w:Own} (ht:O a = .tmp):Gs O (updO O a w) H H:=by
 refine ⟨fun b o e _ _=>e,fun b h f=>?_,fun _ h=>h,fun _ ps h=>⟨ps,h⟩,id⟩
 rw [updO_ne]
 rintro rfl
 rw [ht] at f
 rcases f with z | z <;> cases z
theorem set_read {K:PySem.W.Frag} {mg:Str→Option Value} {i:Nat} {te:TE} (hi:∀σ H Q,teOf K mg m σ H Q→te σ H Q):∀D σV H,tsOf K mg (cSet i m) D σV H→tAsg te (gName i) D σV H:=by
 rintro D σV H ⟨O,σ,S,fl,S',st,h,q⟩
 obtain ⟨r,S1,h1,h⟩:=M.inv h
 obtain ⟨d,S2,h2,h⟩:=M.inv h
 cases h
 refine hi σV H _ ⟨O,σ,S,r,S1,st,h1,fun O1 v H1 g1 st1 rr nn=>?_⟩
 obtain ⟨rd,rfl⟩:=dat_rep (H₀:=H) rr nn h2
 exact q (frz H O1) _ H1 g1.frz.gs ((st1.frz H).set ⟨v,rfl,rd⟩) (Kp.set fun xs z=>by cases z)
theorem own_read {K:PySem.W.Frag} {mg:Str→Option Value} {i:Nat} {te:TE} (hi:∀σ H Q,teOf K mg m σ H Q→te σ H Q):∀D σV H,tsOf K mg (cOwn i m) D σV H→tAsg te (gName i) D σV H:=by
 rintro D σV H ⟨O,σ,S,fl,S',st,h,q⟩
 obtain ⟨r,S1,h1,h⟩:=M.inv h
 split at h
 ·rename_i xs
  cases h
  refine hi σV H _ ⟨O,σ,S,_,_,st,h1,fun O1 v H1 g1 st1 rr nn=>?_⟩
  obtain ⟨a,ys,rfl,l,t,ra⟩:=rr
  exact q _ _ H1 (g1.gs.trans (Gs.tmp t)) (st1.own t l ra) (Kp.set fun xs z=>by cases z)
 ·cases h
variable {i:Nat} {x:Str} {pos':Pos}
theorem cs_set (hN:X.N.Nodup) (hi:X.N[i]? = some x) (hx:Loc X.env.scope x) (he:CE X e m) (hs:swapsWith e (some (.Name x pos')) pos.line X.env=pure false:=by rfl) (hf:X.fn x=true∨X.env.scope.names.lookup x=some .local:=by first | exact .inl rfl | exact .inr rfl | assumption) :
  CS X (.Assign [.Name x pos'] e pos) (cSet i m):=ps_imp (ps_set hN hi hx he hs hf) (set_read fun _ _ _ h=>h)
theorem cs_own (hN:X.N.Nodup) (hi:X.N[i]? = some x) (hx:Loc X.env.scope x) (he:CE X e m) (hs:swapsWith e (some (.Name x pos')) pos.line X.env=pure false:=by rfl) (hf:X.fn x=true∨X.env.scope.names.lookup x=some .local:=by first | exact .inl rfl | exact .inr rfl | assumption) :
  CS X (.Assign [.Name x pos'] e pos) (cOwn i m):=ps_imp (ps_set hN hi hx he hs hf) (own_read fun _ _ _ h=>h)
end
def cMut (i:Nat) (f:List D→List R→M (R×List D)) (ms:MA):En→M (R×En):=fun σ=>do
 let rs ←ms σ
 match σ[i]? with
 | some (.ow p xs)=>do
  let (r,ys) ←f xs rs
  pure (r,σ.set i (.ow p ys))
 | _=>bad
def cMutS (i:Nat) (f:List D→List R→M (R×List D)) (ms:MA):MS:=fun σ=>do
 let (_,σ') ←cMut i f ms σ
 pure (.nx σ')
def cMutSet (j i:Nat) (f:List D→List R→M (R×List D)) (ms:MA):MS:=fun σ=>do
 let (r,σ') ←cMut i f ms σ
 let d ←r.dat
 pure (.nx (σ'.set j (.val d)))
def uAppend (xs:List D):List R→M (R×List D)
 | [r]=>do
  let d ←r.dat
  chk (xs.length < sizeLine)
  pure (.v .non,xs ++ [d])
 | _=>bad
def uExtend (xs:List D):List R→M (R×List D)
 | [r]=>match r.own with
  | some ys=>do
   chk (xs.length + ys.length≤sizeLine)
   pure (.v .non,xs ++ ys)
  | none=>bad
 | _=>bad
def uPop (xs:List D):List R→M (R×List D)
 | []=>match xs[xs.length - 1]? with
  | some d=>pure (.v d,xs.dropLast)
  | none=>bad
 | _=>bad
section
variable {K:PySem.W.Frag} {mg:Str→Option Value} {O:Ow} {H:Hp} {l:Addr} {zs ws:List V}
mutual
theorem Rep.updL (ho:O l≠.free) (hl:H l=some (.lst zs)):∀{d:D} {v:V},Rep K mg O H d v→Rep K mg O (upd H l (.lst ws)) d v
 | .non,_,h=>h
 | .bl _,_,h=>h
 | .int _,_,h=>h
 | .str _,_,h=>h
 | .tup _,_,h=>by
  obtain ⟨a,ys,q,t,r⟩:=h
  refine ⟨a,ys,q,?_,RepAll.updL ho hl r⟩
  rcases t with (t | ⟨o,t⟩) | t
  ·exact .inl (.inl (by rw [upd_ne (ne_of t hl (by intro z;cases z))];exact t))
  ·exact .inl (.inr ⟨o,by rw [upd_ne (ne_of t hl (by intro z;cases z))];exact t⟩)
  ·exact .inr t
 | .lst _,_,h=>by
  obtain ⟨a,ys,q,t,r⟩:=h
  exact ⟨a,ys,q,⟨by rw [upd_ne (by rintro rfl;exact ho t.2)];exact t.1,t.2⟩,RepAll.updL ho hl r⟩
 | .dic _ _,_,h=>h
 | .fn _,_,h=>h
 | .ty _,_,h=>h
theorem RepAll.updL (ho:O l≠.free) (hl:H l=some (.lst zs)):∀{ds:List D} {ys:List V},RepAll K mg O H ds ys→RepAll K mg O (upd H l (.lst ws)) ds ys
 | [],_,h=>h
 | _ :: _,_,h=>by obtain ⟨x,r,q,a,b⟩:=h;exact ⟨x,r,q,Rep.updL ho hl a,RepAll.updL ho hl b⟩
end
theorem LsV.updL {a:Addr} {ys:List V} (ho:O l≠.free) (ho':O l≠.out) (h:LsV K O H a ys):LsV K O (upd H l (.lst ws)) a ys:=by
 rcases h with ⟨h,f⟩ | h
 ·have ne:a≠l:=by rintro rfl;exact f.elim ho ho'
  refine .inl ⟨?_,f⟩
  rcases h with h | ⟨o,h⟩
  ·exact .inl (by rw [upd_ne ne];exact h)
  ·exact .inr ⟨o,by rw [upd_ne ne];exact h⟩
 ·exact .inr h
theorem SlotR.updL {w:Own} (ho:O l≠.free) (ho':O l≠.out) (hw:O l≠w) (ht:∀p,O l≠w.at p) (hl:H l=some (.lst zs)):∀{s:Slot} {u:Option V},SlotR K mg O H w s u→SlotR K mg O (upd H l (.lst ws)) w s u
 | .emp,_,_=>trivial
 | .val _,_,h=>by obtain ⟨v,q,r⟩:=h;exact ⟨v,q,r.updL ho hl⟩
 | .ow _ _,_,h=>by obtain ⟨a,ys,q,o,t,r⟩:=h;exact ⟨a,ys,q,o,by rw [upd_ne (by rintro rfl;exact hw o)];exact t,r.updL ho hl⟩
 | .vw _,_,h=>by obtain ⟨a,ys,q,t,r⟩:=h;exact ⟨a,ys,q,t.updL ho ho',r.updL ho hl⟩
 | .dct _,_,h=>by obtain ⟨a,ys,q,o,t,r⟩:=h;exact ⟨a,ys,q,o,by rw [upd_ne (by rintro rfl;rw [hl] at t;cases t)];exact t,r.1,r.2.updL ho hl⟩
 | .vd _,_,h=>by
  obtain ⟨a,ys,q,t,r⟩:=h
  refine ⟨a,ys,q,⟨?_,t.2⟩,r.1,r.2.updL ho hl⟩
  rcases t.1 with t | ⟨o,t⟩
  ·exact .inl (by rw [upd_ne (by rintro rfl;rw [hl] at t;cases t)];exact t)
  ·exact .inr ⟨o,by rw [upd_ne (by rintro rfl;rw [hl] at t;cases t)];exact t⟩
 | .pd _,_,h=>by obtain ⟨a,ys,q,o,t,r⟩:=h;exact ⟨a,ys,q,o,by rw [upd_ne (by rintro rfl;rw [hl] at t;cases t)];exact t,r.1,r.2.all fun _ _ z=>Rep.updL ho hl z⟩
 | .vp _,_,h=>by
  obtain ⟨a,ys,q,t,r⟩:=h
  refine ⟨a,ys,q,⟨?_,t.2⟩,r.1,r.2.all fun _ _ z=>Rep.updL ho hl z⟩
  rcases t.1 with t | ⟨o,t⟩
  ·exact .inl (by rw [upd_ne (by rintro rfl;rw [hl] at t;cases t)];exact t)
  ·exact .inr ⟨o,by rw [upd_ne (by rintro rfl;rw [hl] at t;cases t)];exact t⟩
 | .tr _ _,_,h=>by obtain ⟨v,q,r⟩:=h;exact ⟨v,q,r.all (fun _ _ z=>Rep.updL ho hl z) fun a _ p o t _=>⟨o,by rw [upd_ne (by rintro rfl;exact TM.ne ho' ht p o)];exact t⟩⟩
theorem Dom.updL (d:Dom O H) (hl:H l=some (.lst zs)):Dom O (upd H l (.lst ws)):=⟨fun a ha=>by
 by_cases e:a=l
 ·rw [e,upd_same];intro z;cases z
 ·rw [upd_ne e];exact d.has a ha,d.tabs.lst hl _⟩
theorem Gs.updL (ho:O l≠.free) (ho':O l≠.out) (hl:H l=some (.lst zs)):Gs O O H (upd H l (.lst ws)):=by
 refine ⟨fun b o e h _=>?_,fun _ _ _=>rfl,fun b h=>?_,fun b ps e=>⟨ps,by rw [upd_ne (by rintro rfl;rw [hl] at e;cases e)];exact e⟩,fun g=>g.lst hl _⟩
 ·rw [upd_ne]
  ·exact e
  ·rintro rfl
   rcases h with h | h | ⟨xs,h⟩ | ⟨_,_,h⟩
   ·exact ho h
   ·exact ho' h
   ·subst h;rw [e] at hl;cases hl
   ·subst h;rw [e] at hl;cases hl
 ·by_cases e:b=l
  ·rw [e,upd_same];intro z;cases z
  ·rw [upd_ne e];exact h
theorem S3.updL {σ:En} {S:Store} {σV:St} {i:Nat} {p:Bool} {xs ys:List D} (st:S3 K mg O σ S σV H) (hi:σ[i]? = some (.ow p xs)) (hv:σV[i]?.join=some (.ref l)) (ho:O l = .loc i) (hl:H l=some (.lst zs)) (hr:RepAll K mg O H ys ws) :
  S3 K mg O (σ.set i (.ow p ys)) S σV (upd H l (.lst ws)):=by
 have ne:∀w:Own,w≠.loc i→O l≠w:=fun w hw z=>hw (z.symm.trans ho)
 refine ⟨st.dom.updL hl,by rw [List.length_set];exact st.len,fun j t e=>?_,st.emp⟩
 by_cases hj:i=j
 ·subst hj
  have hlt:i < σ.length:=(List.getElem?_eq_some_iff.mp hi).1
  rw [List.getElem?_set_self hlt] at e
  cases e
  exact ⟨l,ws,hv,ho,upd_same,hr.updL (ne _ (by intro z;cases z)) hl⟩
 ·rw [List.getElem?_set_ne hj] at e
  exact (st.loc j t e).updL (ne _ (by intro z;cases z)) (ne _ (by intro z;cases z)) (ne _ (by intro z;cases z;exact hj rfl)) (fun p=>ne _ (by intro z;cases z)) hl
end
def BinM (K:PySem.W.Frag) (mg:Str→Option Value) (r:V→List V→Hp→VK→Prop) (f:List D→List R→M (R×List D)):Prop:=
 ∀O H H₀ l xs zs rs vs S S' r' ys (Q:VK),H l=some (.lst zs)→RepAll K mg O H xs zs→RepRs K mg O H rs vs→NewRs H₀ rs vs→(f xs rs).run S = .ok (r',ys) S'→
  (∀v ws,S=S'→RepAll K mg (frz H₀ O) H ys ws→(∃d,r' = .v d∧Rep K mg (frz H₀ O) H d v)→Q v (upd H l (.lst ws)))→r (.ref l) vs H Q
section
variable {K:PySem.W.Frag} {mg:Str→Option Value}
theorem mAppend:BinM K mg rAppend uAppend:=fun O H H₀ l xs zs rs vs S S' r' ys Q hl hx hr hn h q=>by
 unfold uAppend at h
 split at h
 ·rename_i r
  obtain ⟨v,rfl,rv⟩:=reps1 hr
  obtain ⟨d,S1,h1,h⟩:=M.inv h
  obtain ⟨_,S2,h2,h⟩:=M.inv h
  obtain ⟨c,rfl⟩:=chk_inv h2
  obtain ⟨rd,rfl⟩:=dat_rep (H₀:=H₀) rv hn.1 h1
  cases h
  exact ⟨l,zs,v,rfl,rfl,hl,by rw [hx.len];exact c,q .non _ rfl ((hx.fre (frz_fre _ _)).append (.one rd)) ⟨.non,rfl,rfl⟩⟩
 ·cases h
variable {f:List D→List R→M (R×List D)} {r:V→List V→Hp→VK→Prop} {ms:MA} {i j:Nat}
theorem mut_read (hf:BinM K mg r f) {O:Ow} {σ σ':En} {S S':Store} {σV:St} {H:Hp} {r':R} {Q:VK} (st:S3 K mg O σ S σV H) (h:(cMut i f ms σ).run S = .ok (r',σ') S')
  (q:∀O' v H',Gs O O' H H'→S3 K mg O' σ' S' σV H'→Kp σ σ' σV σV→(∃d,r' = .v d∧Rep K mg O' H' d v)→Q v H') :
  ∃v,σV[i]? = some (some v)∧tyV K "list" v H∧taOf K mg ms σV H fun vs H2=>r v vs H2 Q:=by
 obtain ⟨rs,S1,h1,h⟩:=M.inv h
 cases e:σ[i]? with
 | none=>rw [e] at h;cases h
 | some s=>
  rw [e] at h
  cases s with
  | emp=>cases h
  | val _=>cases h
  | vw _=>cases h
  | dct _=>cases h
  | vd _=>cases h
  | pd _=>cases h
  | vp _=>cases h
  | tr _ _=>cases h
  | ow p xs=>
   obtain ⟨⟨r2,ys⟩,S2,h2,h⟩:=M.inv h
   cases h
   obtain ⟨a,zs,e1,e2,e3,e4⟩:=st.loc i _ e
   have ev:σV[i]? = some (some (.ref a)):=by
    cases w:σV[i]? with
    | none=>rw [w] at e1;cases e1
    | some y=>rw [w] at e1;exact congrArg some e1
   refine ⟨.ref a,ev,.inl ⟨rfl,_,SqL.of e3⟩,O,σ,S,rs,S1,st,h1,fun O1 vs H1 g1 st1 rr nn=>?_⟩
   have e3':=g1.same.at' _ _ e3
   have hn:H a≠none:=by rw [e3];intro z;cases z
   have e2':O1 a = .loc i:=(g1.own a hn).trans e2
   refine hf O1 H1 H a xs zs rs vs S1 _ _ ys Q e3' (e4.go g1) rr nn h2 fun v ws es ra zz0=>?_
   obtain ⟨d,ed,rd⟩:=zz0
   subst es
   have o2:frz H O1 a = .loc i:=by rw [frz_old hn];exact e2'
   have no:∀w:Own,w≠.loc i→frz H O1 a≠w:=fun w hw z=>hw (z.symm.trans o2)
   refine q (frz H O1) v _ (g1.frz.gs.trans (Gs.updL (no _ (by intro z;cases z)) (no _ (by intro z;cases z)) e3')) ((st1.frz H).updL e (by rw [ev];rfl) o2 e3' ra) ?_ ⟨d,ed,rd.updL (no _ (by intro z;cases z)) e3'⟩
   have hlt:i < σ.length:=(List.getElem?_eq_some_iff.mp e).1
   exact Kp.put e (fun xs z=>by cases z) (fun _ z=>by cases z;exact ⟨xs,rfl⟩) (fun _ _ z=>by cases z)
end
section
variable {X:Cx} {x:Str} {i j:Nat} {p apos cpos pos pos':Pos} {e:Expr} {es:List Expr} {ms:MA} {name y:Str} {id:String} {f:List D→List R→M (R×List D)} {r:V→List V→Hp→VK→Prop}
theorem cs_mut (slot:PySem.Slot "list" name id) (hty:typeOf (.builtin id)=pure (.type "method_descriptor")) (hm:MtM X id r) (hf:BinM X.K X.mg r f) (ha:CA X (e :: es) ms) (hN:X.N[i]? = some x) (hv:Vis X.env.scope x)
  (hd:(x == ("__debug__":Str))=false:=by decide) (hcd:(x == ("__classdict__":Str))=false:=by decide)
  (hbase:attributeBase (.Name x p) name X.env (eval (.Name x p) X.env)=eval (.Name x p) X.env:=by rfl)
  (hfew:((backTo cpos (starEach (e :: es) X.env)).all (fun x=>!x.1) && (backToKw cpos (keywordEach [] X.env)).all (fun x=>x.1.isSome)
   && decide ((e :: es).length + ([]:List Keyword).length + (if ([]:List Keyword).isEmpty then 0 else 1) < 30))=true:=by rfl)
  (hline:(apos.endLine == cpos.line)=true:=by rfl) (hs:starEach (e :: es) X.env=(false,eval e X.env) :: starEach es X.env:=by rfl) (hplain:(backTo cpos (starEach es X.env)).any (·.1)=false:=by rfl)
  (hsw:swapsWith (.Call (.Attribute (.Name x p) name apos) (e :: es) [] cpos) none pos.line X.env=pure false:=by rfl) :
  CS X (.Expr (.Call (.Attribute (.Name x p) name apos) (e :: es) [] cpos) pos) (cMutS i f ms):=
 ps_imp (ps_expr (pe_bm PySem.F.plainAttrs_list slot hty hm (pe_var hN hv hd hcd) ha hbase hfew hline hs hplain) hsw) fun D σV H zz0=>by
  obtain ⟨O,σ,S,fl,S',st,h,q⟩:=zz0
  obtain ⟨⟨r2,σ2⟩,S1,h1,h⟩:=M.inv h
  cases h
  exact mut_read hf st h1 fun O' v H' g st' k _=>q O' σV H' g st' k
end
end L3
namespace L3
open PySem PySem.Spec L2
variable [L2.TabP]
def ItS (J:It) (O:Ow) (H:Hp) (ys:List V):Prop:=∀O2 H2,Gs O O2 H H2→∀i,(i < ys.length→J.go i H2∧∀x H',J.yld i H2 x H'→H'=H2∧ys[i]? = some x)∧(ys.length≤i→J.stop i H2)
abbrev MI:=En→M (List D)
def tcOf (K:PySem.W.Frag) (mg:Str→Option Value) (m:MI):TI:=fun σV H R=>Ru K mg m σV H fun O σ S' xs=>∀O' H' J ys,Go O O' H H'→S3 K mg O' σ S' σV H'→ItOk J H' ys→RepAll K mg O' H' xs ys→R J H'
def tfOf (K:PySem.W.Frag) (mg:Str→Option Value) (m:MI):TI:=fun σV H R=>Ru K mg m σV H fun O σ S' xs=>∀O' H' J ys,Go O O' H H'→S3 K mg O' σ S' σV H'→ItS J O' H' ys→RepAll K mg O' H' xs ys→R J H'
abbrev CIc (X:Cx) (tg iter:Expr) (m:MI):Prop:=PI X tg iter (tcOf X.K X.mg m)
abbrev CIf (X:Cx) (tg iter:Expr) (m:MI):Prop:=PI X tg iter (tfOf X.K X.mg m)
theorem pi_imp {X:Cx} {tg e:Expr} {t t':TI} (h:PI X tg e t) (i:∀σ H Q,t' σ H Q→t σ H Q):PI X tg e t':=fun pins s σ H Q I q=>h pins s σ H Q I (i _ _ _ q)
theorem Gs.sqT {K:PySem.W.Frag} {O O':Ow} {H H':Hp} (g:Gs O O' H H') {a:Addr} {ys:List V} (h:SqT K H a ys):SqT K H' a ys:=by
 rcases h with (h | ⟨o,h⟩) | h
 ·exact .inl (.inl (g.cells _ _ h (.inr (.inr (.inl ⟨_,rfl⟩)))))
 ·exact .inl (.inr ⟨o,g.cells _ _ h (.inr (.inr (.inr ⟨_,_,rfl⟩)))⟩)
 ·exact .inr h
theorem Gs.lsV {K:PySem.W.Frag} {O O':Ow} {H H':Hp} (g:Gs O O' H H') {a:Addr} {ys:List V} (h:LsV K O H a ys):LsV K O' H' a ys:=by
 rcases h with ⟨h,f⟩ | h
 ·refine .inl ⟨?_,by rw [g.own a (Rd.some h) f];exact f⟩
  rcases h with h | ⟨o,h⟩
  ·exact .inl (g.cells _ _ h (f.elim .inl fun z=>.inr (.inl z)))
  ·exact .inr ⟨o,g.cells _ _ h (f.elim .inl fun z=>.inr (.inl z))⟩
 ·exact .inr h
def iT (m:ME):MI:=fun σ=>do
 let r ←m σ
 match r with
 | .v (.tup xs)=>pure xs
 | _=>bad
def iL (m:ME):MI:=fun σ=>do
 let r ←m σ
 match r with
 | .v (.lst xs)=>pure xs
 | .fr xs=>pure xs
 | .vw xs=>pure xs
 | _=>bad
def iLc (m:ME):MI:=fun σ=>do
 let r ←m σ
 match r.lis with
 | some xs=>pure xs
 | none=>bad
def rngD (lo:Int) (n:Nat):List D:=(List.range n).map fun i=>D.int (lo + (i:Nat))
def iR1 (m:MA):MI:=fun σ=>do
 let rs ←m σ
 match rs with
 | [.v (.int j)]=>if -(2 ^ 62)≤j∧j < 2 ^ 62 then pure (rngD 0 j.toNat) else bad
 | _=>bad
def iR2 (m:MA):MI:=fun σ=>do
 let rs ←m σ
 match rs with
 | [.v (.int i),.v (.int j)]=>if -(2 ^ 62)≤i∧i < 2 ^ 62∧-(2 ^ 62)≤j∧j < 2 ^ 62 then pure (rngD i (j - i).toNat) else bad
 | _=>bad
theorem rngD_rep {K:PySem.W.Frag} {mg:Str→Option Value} {O:Ow} {H:Hp} (lo:Int) (n:Nat):RepAll K mg O H (rngD lo n) (rngV lo n):=by
 unfold rngD rngV
 induction (List.range n) with
 | nil=>rfl
 | cons a r ih=>exact ⟨.int (lo + a),_,rfl,rfl,ih⟩
theorem itr_s {O:Ow} {H:Hp} (lo:Int) (n:Nat):ItS (Itr lo n) O H (rngV lo n):=fun O2 H2 _ i=>itr_ok (H:=H2) lo n H2 (Same.refl _) i
section
variable {X:Cx} {tg l:Expr} {m:ME} {e a b:Expr} {ms:MA} {pos p:Pos}
theorem rng1_read {K:PySem.W.Frag} {mg:Str→Option Value}:(∀σV H R,tfOf K mg (iR1 ms) σV H R→iRng1 (taOf K mg ms) σV H R)∧(∀σV H R,tcOf K mg (iR1 ms) σV H R→iRng1 (taOf K mg ms) σV H R):=by
 constructor <;>
 ·rintro σV H R ⟨O,σ,S,xs,S',st,h,q⟩
  obtain ⟨rs,S1,h1,h⟩:=M.inv h
  split at h
  ·rename_i j
   by_cases c:-(2 ^ 62)≤j∧j < 2 ^ 62
   ·rw [if_pos c] at h
    cases h
    refine ⟨O,σ,S,_,_,st,h1,fun O1 vs H1 g1 st1 rr nn=>?_⟩
    obtain ⟨v,rfl,rv⟩:=reps1 rr
    cases (show v = .int j from rv)
    exact ⟨j,rfl,c.1,c.2,q O1 H1 (Itr 0 j.toNat) (rngV 0 j.toNat) g1 st1 (by first | exact itr_s _ _ | exact itr_ok _ _) (rngD_rep _ _)⟩
   ·rw [if_neg c] at h;cases h
  ·cases h
theorem rng2_read {K:PySem.W.Frag} {mg:Str→Option Value}:(∀σV H R,tfOf K mg (iR2 ms) σV H R→iRng2 (taOf K mg ms) σV H R)∧(∀σV H R,tcOf K mg (iR2 ms) σV H R→iRng2 (taOf K mg ms) σV H R):=by
 constructor <;>
 ·rintro σV H R ⟨O,σ,S,xs,S',st,h,q⟩
  obtain ⟨rs,S1,h1,h⟩:=M.inv h
  split at h
  ·rename_i i j
   by_cases c:-(2 ^ 62)≤i∧i < 2 ^ 62∧-(2 ^ 62)≤j∧j < 2 ^ 62
   ·rw [if_pos c] at h
    cases h
    refine ⟨O,σ,S,_,_,st,h1,fun O1 vs H1 g1 st1 rr nn=>?_⟩
    obtain ⟨v,u,rfl,rv,ru⟩:=reps2 rr
    cases (show v = .int i from rv)
    cases (show u = .int j from ru)
    exact ⟨i,j,rfl,c,q O1 H1 (Itr i (j - i).toNat) (rngV i (j - i).toNat) g1 st1 (by first | exact itr_s _ _ | exact itr_ok _ _) (rngD_rep _ _)⟩
   ·rw [if_neg c] at h;cases h
  ·cases h
theorem cf_range1 (hg:Gl X "range") (hm:X.mg "range"=none) (ha:CA X [a] ms) (hs:starEach [a] X.env=[(false,eval a X.env)]:=by rfl):CIf X tg (.Call (.Name "range" p) [a] [] pos) (iR1 ms):=pi_imp (pi_range1 hg hm ha hs) rng1_read.1
theorem cf_range2 (hg:Gl X "range") (hm:X.mg "range"=none) (ha:CA X [a,b] ms) (hs:starEach [a,b] X.env=[(false,eval a X.env),(false,eval b X.env)]:=by rfl) (hs2:starEach [b] X.env=[(false,eval b X.env)]:=by rfl):CIf X tg (.Call (.Name "range" p) [a,b] [] pos) (iR2 ms):=pi_imp (pi_range2 hg hm ha hs hs2) rng2_read.1
theorem cc_list (hl:CE X l m):CIc X tg l (iLc m):=pi_imp (pi_list hl) fun σV H RR zz0=>by
 obtain ⟨O,σ,S,xs,S',st,h,q⟩:=zz0
 obtain ⟨r,S1,h1,h⟩:=M.inv h
 cases e:r.lis with
 | none=>rw [e] at h;cases h
 | some zs=>
  rw [e] at h
  cases h
  refine ⟨O,σ,S,r,_,st,h1,fun O1 v H1 g1 st1 rr nn=>?_⟩
  obtain ⟨a,ys,rfl,ls,ra⟩:=R.lis_rep rr e
  exact ⟨a,rfl,⟨ys,ls⟩,q O1 H1 (Itl X.K a) ys g1 st1 (itl_ok ls) ra⟩
theorem itl_s {K:PySem.W.Frag} {O:Ow} {H:Hp} {a:Addr} {xs:List V} (h:LsV K O H a xs):ItS (Itl K a) O H xs:=fun O2 H2 g i=>itl_ok (g.lsV h).sq H2 (Same.refl _) i
theorem cf_list (hl:CE X l m):CIf X tg l (iL m):=pi_imp (pi_list hl) fun σV H R zz0=>by
 obtain ⟨O,σ,S,xs,S',st,h,q⟩:=zz0
 obtain ⟨r,S1,h1,h⟩:=M.inv h
 refine ⟨O,σ,S,r,S1,st,h1,fun O1 v H1 g1 st1 rr nn=>?_⟩
 split at h
 ·cases h
  obtain ⟨a,ys,rfl,ls,ra⟩:=rr
  exact ⟨a,rfl,⟨ys,ls.sq⟩,q O1 H1 (Itl X.K a) ys g1 st1 (itl_s (.inl ⟨.inl ls.1,.inl ls.2⟩)) ra⟩
 ·cases h
  obtain ⟨a,ys,rfl,ls,t,ra⟩:=rr
  exact ⟨a,rfl,⟨ys,SqL.of ls⟩,q (frz H O1) H1 (Itl X.K a) ys g1.frz (st1.frz H) (itl_s (.inl ⟨.inl ls,.inl (frz_tmp (nn a rfl) t)⟩)) (ra.fre (frz_fre _ _))⟩
 ·cases h
  obtain ⟨a,ys,rfl,ls,ra⟩:=rr
  exact ⟨a,rfl,⟨ys,ls.sq⟩,q O1 H1 (Itl X.K a) ys g1 st1 (itl_s ls) ra⟩
 ·cases h
theorem cc_tup (hl:CE X l m):CIc X tg l (iT m):=pi_imp (pi_tup hl) fun σV H R zz0=>by
 obtain ⟨O,σ,S,xs,S',st,h,q⟩:=zz0
 obtain ⟨r,S1,h1,h⟩:=M.inv h
 split at h
 ·rename_i zs
  cases h
  refine ⟨O,σ,S,_,_,st,h1,fun O1 v H1 g1 st1 rr nn=>?_⟩
  obtain ⟨a,ys,rfl,ls,ra⟩:=rr
  exact ⟨a,rfl,⟨ys,ls⟩,q O1 H1 (Itt X.K a) ys g1 st1 (itt_ok ls) ra⟩
 ·cases h
theorem itt_s {K:PySem.W.Frag} {O:Ow} {H:Hp} {a:Addr} {xs:List V} (h:SqT K H a xs):ItS (Itt K a) O H xs:=fun O2 H2 g i=>itt_ok (g.sqT h) H2 (Same.refl _) i
theorem cf_tup (hl:CE X l m):CIf X tg l (iT m):=pi_imp (pi_tup hl) fun σV H R zz0=>by
 obtain ⟨O,σ,S,xs,S',st,h,q⟩:=zz0
 obtain ⟨r,S1,h1,h⟩:=M.inv h
 split at h
 ·rename_i zs
  cases h
  refine ⟨O,σ,S,_,_,st,h1,fun O1 v H1 g1 st1 rr nn=>?_⟩
  obtain ⟨a,ys,rfl,ls,ra⟩:=rr
  exact ⟨a,rfl,⟨ys,ls⟩,q O1 H1 (Itt X.K a) ys g1 st1 (itt_s ls) ra⟩
 ·cases h
end
def fLoop (b:D→MS):List D→MS
 | []=>fun σ=>pure (.nx σ)
 | d :: ds=>fun σ=>do
  let fl ←b d σ
  match fl with
  | .nx σ'=>fLoop b ds σ'
  | .ct σ'=>fLoop b ds σ'
  | .bk σ'=>pure (.nx σ')
  | .rt r=>pure (.rt r)
def cFor (i:Nat) (it:MI) (b:MS):MS:=fun σ=>do
 let ds ←it σ
 fLoop (fun d σ=>b (σ.set i (.val d))) ds σ
def wLoop (c:En→M Bool) (b:MS):Nat→MS
 | 0=>fun _=>bad
 | n + 1=>fun σ=>do
  let t ←c σ
  if t=true then do
   let fl ←b σ
   match fl with
   | .nx σ'=>wLoop c b n σ'
   | .ct σ'=>wLoop c b n σ'
   | .bk σ'=>pure (.nx σ')
   | .rt r=>pure (.rt r)
  else pure (.nx σ)
@[irreducible] def wFuel:Nat:=2 ^ 24
def cWhile (c:En→M Bool) (b:MS):MS:=wLoop c b wFuel
theorem S3.val {K:PySem.W.Frag} {mg:Str→Option Value} {O:Ow} {σ:En} {S:Store} {σV:St} {H:Hp} {i:Nat} {d:D} {v:V} (st:S3 K mg O σ S σV H) (h:Rep K mg O H d v):S3 K mg O (σ.set i (.val d)) S (σV.set i (some v)) H:=st.set ⟨v,rfl,h⟩
theorem RepAll.gs {K:PySem.W.Frag} {mg:Str→Option Value} {O O':Ow} {H H':Hp} (g:Gs O O' H H'):∀{ds:List D} {ys:List V},RepAll K mg O H ds ys→RepAll K mg O' H' ds ys:=by
 have rep:∀(d:D) (v:V),Rep K mg O H d v→Rep K mg O' H' d v:=by
  intro d
  induction d using D.rec (motive_2:=fun ds=>∀ys,RepAll K mg O H ds ys→RepAll K mg O' H' ds ys) with
  | non=>exact fun v h=>h
  | bl _=>exact fun v h=>h
  | int _=>exact fun v h=>h
  | str _=>exact fun v h=>h
  | fn _=>exact fun v h=>h
  | ty _=>exact fun v h=>h
  | dic l _ _=>exact fun v h=>h
  | tup xs ih=>exact fun v ⟨a,ys,q,l,r⟩=>⟨a,ys,q,g.sqT l,ih ys r⟩
  | lst xs ih=>exact fun v ⟨a,ys,q,l,r⟩=>⟨a,ys,q,⟨g.cells _ _ l.1 (.inl l.2),by rw [g.own a (by rw [l.1];intro z;cases z) (.inl l.2)];exact l.2⟩,ih ys r⟩
  | nil=>assumption
  | cons x xs ih1 ih2=>
   rename_i zs hz
   obtain ⟨y,r,q,a,b⟩:=hz
   exact ⟨y,r,q,ih1 y a,ih2 r b⟩
 intro ds
 induction ds with
 | nil=>exact fun h=>h
 | cons x xs ih=>rintro ys ⟨y,r,q,a,b⟩;exact ⟨y,r,q,rep x y a,ih b⟩
section
variable {X:Cx} {tg iter:Expr} {it:MI} {i:Nat} {b:MS} {body:List Stmt} {pos tpos:Pos} {x:Str} {c:Expr} {t:En→M Bool}
theorem RepAll.get' {K:PySem.W.Frag} {mg:Str→Option Value} {O:Ow} {H:Hp} {ds:List D} {ys:List V} {k:Nat} {d:D} {ds':List D} (h:RepAll K mg O H ds ys) (e:ds.drop k=d :: ds'):∃y,ys[k]? = some y∧Rep K mg O H d y∧ds.drop (k + 1)=ds':=by
 have e1:ds[k]? = some d:=by
  have:=congrArg (·[0]?) e
  simpa using this
 obtain ⟨y,q,r⟩:=h.get e1
 refine ⟨y,q,r,?_⟩
 have:=congrArg (List.drop 1) e
 simpa [List.drop_drop] using this
theorem forG_read {K:PySem.W.Frag} {mg:Str→Option Value} {G:TG} {B:L3.D→MS} (hG:∀O σ S σV H d y f S2 Q,S3 K mg O σ S σV H→Rep K mg O H d y→(B d σ).run S = .ok f S2→(∀σn σVn,S3 K mg O σn S σVn H→Kp σ σn σV σVn→(b σn).run S = .ok f S2→Q σVn H)→G y σV H Q) :
  ∀D σV H,tsOf K mg (fun σ=>do
   let ds ←it σ
   fLoop B ds σ) D σV H→tFor (tfOf K mg it) G (tsOf K mg b) D σV H:=by
 rintro D σV H ⟨O,σ,S,fl,S',st,h,q⟩
 obtain ⟨ds,S1,h1,h⟩:=M.inv h
 refine ⟨O,σ,S,ds,S1,st,h1,fun O1 H1 J ys g1 st1 its ra=>?_⟩
 refine ⟨fun k m σV' H'=>m=ys.length - k∧k≤ys.length∧∃O' σ' S'',S3 K mg O' σ' S'' σV' H'∧Gs O1 O' H1 H'∧Kp σ σ' σV σV'∧(fLoop B (ds.drop k) σ').run S'' = .ok fl S',
  ⟨_,rfl,Nat.zero_le _,O1,σ,S1,st1,Gs.refl _ _,Kp.refl _ _,h⟩,?_⟩
 rintro k m σV' H' ⟨rfl,hk,O',σ',S'',st',g',kp,h⟩
 cases e:ds.drop k with
 | nil=>
  have hl:ys.length≤k:=by
   have:=congrArg List.length e
   rw [List.length_drop,List.length_nil] at this
   rw [ra.len];omega
  rw [e] at h
  cases h
  exact .inl ⟨(its O' H' g' k).2 hl,q O' σV' H' (g1.gs.trans g') st' kp⟩
 | cons d ds'=>
  obtain ⟨y,ey,ry,e'⟩:=(RepAll.gs g' ra).get' e
  have hlt:k < ys.length:=(List.getElem?_eq_some_iff.mp ey).1
  obtain ⟨go,yl⟩:=(its O' H' g' k).1 hlt
  rw [e] at h
  obtain ⟨f1,S2,h2,h⟩:=M.inv h
  refine .inr ⟨go,fun σV2 H2=>∃O2 σ2 S2,S3 K mg O2 σ2 S2 σV2 H2∧Gs O1 O2 H1 H2∧Kp σ σ2 σV σV2∧(fLoop B (ds.drop (k + 1)) σ2).run S2 = .ok fl S',?_,fun x H2 yy=>?_⟩
  ·rintro σV2 H2 ⟨O2,σ2,S2,a1,a2,a3,a4⟩
   exact ⟨_,by omega,rfl,hlt,O2,σ2,S2,a1,a2,a3,a4⟩
  ·obtain ⟨rfl,ex⟩:=yl x H2 yy
   rw [ey] at ex
   cases ex
   refine hG _ _ _ _ _ _ _ _ _ _ st' ry h2 fun σn σVn stn ks hb=>?_
   refine ⟨O',σn,S'',f1,S2,stn,hb,?_⟩
   cases f1 with
   | nx σ2=>exact fun O2 σV2 H2 g2 st2 k2=>⟨O2,σ2,S2,st2,g'.trans g2,kp.trans (ks.trans k2),by rw [e'];exact h⟩
   | ct σ2=>exact fun O2 σV2 H2 g2 st2 k2=>⟨O2,σ2,S2,st2,g'.trans g2,kp.trans (ks.trans k2),by rw [e'];exact h⟩
   | bk σ2=>cases h;exact fun O2 σV2 H2 g2 st2 k2=>q O2 σV2 H2 (g1.gs.trans (g'.trans g2)) st2 (kp.trans (ks.trans k2))
   | rt r=>cases h;exact fun O2 v H2 g2 d2 e2 r2=>q O2 v H2 (g1.gs.trans (g'.trans g2)) d2 e2 r2
theorem for_read {K:PySem.W.Frag} {mg:Str→Option Value}:∀D σV H,tsOf K mg (cFor i it b) D σV H→tFor (tfOf K mg it) (gName i) (tsOf K mg b) D σV H:=
 forG_read (B:=fun d σ=>b (σ.set i (.val d))) fun _ _ _ _ _ _ _ _ _ _ st ry h k=>k _ _ (st.val ry) (Kp.set fun xs z=>by cases z) h
theorem cs_for (hp:PassesOwn (model X.prog X.w) X.A X.env X.xe) (hc:X.calm=true) (hi:CIf X (.Name x tpos) iter it) (hN:X.N.Nodup) (hx:X.N[i]? = some x) (hl:Loc X.env.scope x) (hb:CSs X body b)
  (hs:∀x,foldedSetIterable iter X.env x=pure x:=by intro _;rfl) (hf:X.fn x=true∨X.env.scope.names.lookup x=some .local:=by first | exact .inl rfl | exact .inr rfl | assumption):CS X (.For (.Name x tpos) iter body [] pos) (cFor i it b):=
 ps_imp (ps_for hp hc hi (pg_name hN hx hl hf) hb hs) for_read
end
def kLoop (t:En→M Bool) (el:ME) (σ:En):List D→M (List D)
 | []=>pure []
 | d :: ds=>do
  let b ←t (σ.set 0 (.val d))
  if b=true then do
   let r ←el (σ.set 0 (.val d))
   let x ←r.dat
   let xs ←kLoop t el σ ds
   pure (x :: xs)
  else kLoop t el σ ds
def cpSlot:Option Slot→Slot
 | some (.val d)=>.val d
 | some (.ow _ xs)=>.vw xs
 | some (.vw xs)=>.vw xs
 | some (.dct kvs)=>.vd kvs
 | some (.vd kvs)=>.vd kvs
 | some (.pd kvs)=>.vp kvs
 | some (.vp kvs)=>.vp kvs
 | _=>.emp
def cpEn (n:Nat) (cap:List Nat) (σ:En):En:=List.replicate n .emp ++ cap.map fun k=>cpSlot σ[k]?
def cComp (n:Nat) (cap:List Nat) (it:MI) (t:En→M Bool) (el:ME):ME:=fun σ=>do
 let ds ←it σ
 chk (ds.length < sizeLine)
 let xs ←kLoop t el (cpEn n cap σ) ds
 pure (.fr xs)
def tYes:En→M Bool:=fun _=>pure true
abbrev CFs (X:Cx) (ifs:List Expr) (t:En→M Bool):Prop:=PIfs X ifs (ttOf X.K X.mg t)
theorem cfs_nil {X:Cx}:CFs X [] tYes:=fun pins s σ H Q I zz0=>by
 obtain ⟨O,σ',S,b,S',st,h,q⟩:=zz0
 cases h
 exact pf_nil pins s σ H Q I (q O H (Go.refl _ _) st)
theorem cfs_one {X:Cx} {c:Expr} {t:En→M Bool} (h:CT X c t):CFs X [c] t:=pf_one h
def Own.blk:Own→Own
 | .loc _=>.out
 | .tr _ _=>.out
 | .tmp=>.out
 | o=>o
def blk (O:Ow):Ow:=fun b=>(O b).blk
theorem blk_free {O:Ow} {b:Addr}:blk O b = .free↔O b = .free:=by unfold blk;cases O b <;> simp [Own.blk]
theorem blk_cases (O:Ow) (b:Addr):blk O b = .free∨blk O b = .out:=by unfold blk;cases O b <;> simp [Own.blk]
theorem blk_fre (O:Ow):Fre O (blk O):=⟨fun _ h=>blk_free.mpr h⟩
theorem LsV.blk {K:PySem.W.Frag} {O:Ow} {H:Hp} {a:Addr} {ys:List V} (h:LsV K O H a ys):LsV K (blk O) H a ys:=by
 rcases h with ⟨h,f⟩ | h
 ·refine .inl ⟨h,?_⟩
  rcases f with f | f
  ·exact .inl (blk_free.mpr f)
  ·exact .inr (by unfold L3.blk;rw [f];rfl)
 ·exact .inr h
theorem S3.blk {K:PySem.W.Frag} {mg:Str→Option Value} {O:Ow} {σ:En} {S:Store} {σV:St} {H:Hp} (st:S3 K mg O σ S σV H) (n:Nat) (cap:List Nat):S3 K mg (blk O) (cpEn n cap σ) S (cpSt n cap σV) H:=by
 refine ⟨⟨fun a ha=>st.dom.has a fun z=>ha (blk_free.mpr z),st.dom.tabs⟩,?_,fun i s e=>?_,st.emp⟩
 ·unfold cpEn cpSt
  rw [List.length_append,List.length_append,List.length_replicate,List.length_replicate,List.length_map,List.length_map]
 ·unfold cpEn at e
  unfold cpSt
  by_cases hi:i < n
  ·rw [List.getElem?_append_left (by simpa using hi),List.getElem?_replicate,if_pos hi] at e
   cases e
   exact trivial
  ·rw [List.getElem?_append_right (by simpa using hi),List.length_replicate,List.getElem?_map] at e
   rw [List.getElem?_append_right (by simpa using hi),List.length_replicate,List.getElem?_map]
   cases ec:cap[i - n]? with
   | none=>rw [ec] at e;cases e
   | some k=>
    rw [ec] at e
    have e':cpSlot σ[k]? = s:=Option.some.inj e
    show SlotR K mg _ H _ s (some (σV[k]?.join)).join
    cases es:σ[k]? with
    | none=>rw [es] at e';subst e';exact trivial
    | some s0=>
     rw [es] at e'
     have l:=st.loc k s0 es
     cases s0 with
     | emp=>subst e';exact trivial
     | dct _=>subst e';obtain ⟨a,ys,q,o,l,r⟩:=l;exact ⟨a,ys,q,⟨.inl l,.inr (by unfold L3.blk;rw [o];rfl)⟩,r.fre (blk_fre O)⟩
     | pd _=>subst e';obtain ⟨a,ys,q,o,l,r⟩:=l;exact ⟨a,ys,q,⟨.inl l,.inr (by unfold L3.blk;rw [o];rfl)⟩,r.1,r.2.fre (blk_fre O)⟩
     | vp _=>subst e';obtain ⟨a,ys,q,l,r⟩:=l;exact ⟨a,ys,q,⟨l.1,l.2.elim (fun f=>.inl (blk_free.mpr f)) fun f=>.inr (by unfold L3.blk;rw [f];rfl)⟩,r.1,r.2.fre (blk_fre O)⟩
     | tr _ _=>subst e';exact trivial
     | vd _=>subst e';obtain ⟨a,ys,q,l,r⟩:=l;exact ⟨a,ys,q,⟨l.1,l.2.elim (fun f=>.inl (blk_free.mpr f)) fun f=>.inr (by unfold L3.blk;rw [f];rfl)⟩,r.fre (blk_fre O)⟩
     | val d=>subst e';obtain ⟨v,q,r⟩:=l;exact ⟨v,q,r.fre (blk_fre O)⟩
     | vw xs=>subst e';obtain ⟨a,ys,q,l,r⟩:=l;exact ⟨a,ys,q,l.blk,r.fre (blk_fre O)⟩
     | ow p xs=>subst e';obtain ⟨a,ys,q,o,l,r⟩:=l;exact ⟨a,ys,q,.inl ⟨.inl l,.inr (by unfold L3.blk;rw [o];rfl)⟩,r.fre (blk_fre O)⟩
theorem S3.updT {K:PySem.W.Frag} {mg:Str→Option Value} {O:Ow} {H:Hp} {l:Addr} {zs ws:List V} {σ:En} {S:Store} {σV:St} (st:S3 K mg O σ S σV H) (ho:O l = .tmp) (hl:H l=some (.lst zs)):S3 K mg O σ S σV (upd H l (.lst ws)):=by
 have ne:∀w:Own,w≠.tmp→O l≠w:=fun w hw z=>hw (z.symm.trans ho)
 exact ⟨st.dom.updL hl,st.len,fun j t e=>(st.loc j t e).updL (ne _ (by intro z;cases z)) (ne _ (by intro z;cases z)) (ne _ (by intro z;cases z)) (fun p=>ne _ (by intro z;cases z)) hl,st.emp⟩
section
variable {K:PySem.W.Frag} {mg:Str→Option Value} {n:Nat} {cap:List Nat} {it:MI} {t:En→M Bool} {el:ME}
inductive CompI (K:PySem.W.Frag) (mg:Str→Option Value) (n:Nat) (cap:List Nat) (t:En→M Bool) (el:ME) (O1:Ow) (σ:En) (S':Store) (σV:St) (H1:Hp) (A:Addr) (ds xs:List L3.D) (k:Nat) (zs:List V) (H':Hp):Prop
 | mk (O':Ow) (S'':Store) (acc xs':List L3.D) (st':S3 K mg O' (cpEn n cap σ) S'' (cpSt n cap σV) H') (s':Same H1 H') (own':∀b,H1 b≠none→O' b=blk O1 b) (tD:O' A = .tmp) (hH:H' A=some (.lst zs)) (hz:zs.length≤k)
   (rz:RepAll K mg O' H' acc zs) (h:(kLoop t el (cpEn n cap σ) (ds.drop k)).run S'' = .ok xs' S') (ex:acc ++ xs'=xs)
theorem comp_read (hn:0 < n):∀σV H Q,teOf K mg (cComp n cap it t el) σV H Q→tComp n cap (tcOf K mg it) (gName 0) (ttOf K mg t) (teOf K mg el) σV H Q:=by
 rintro σV H Q ⟨O,σ,S,r,S',st,h,q⟩
 obtain ⟨ds,S1,h1,h⟩:=M.inv h
 obtain ⟨_,S2,h2,h⟩:=M.inv h
 obtain ⟨hlen,rfl⟩:=chk_inv h2
 obtain ⟨xs,S3',h3,h⟩:=M.inv h
 cases h
 refine ⟨O,σ,S,ds,S1,st,h1,fun O1 H1 J ys g1 st1 its ra=>fun D hD=>?_⟩
 have stb:S3 K mg (updO (blk O1) D .tmp) (cpEn n cap σ) S1 (cpSt n cap σV) (upd H1 D (.lst [])):=(st1.blk n cap).new hD
 refine ⟨fun k m zs H'=>m=ys.length - k∧k≤ys.length∧CompI K mg n cap t el O1 σ S' σV H1 D ds xs k zs H',
  ⟨_,rfl,Nat.zero_le _,_,S1,[],xs,stb,same_new hD _,fun b hb=>updO_ne (by rintro rfl;exact hb hD),updO_same,upd_same,Nat.le_refl _,rfl,h3,rfl⟩,?_⟩
 rintro k m zs H' ⟨rfl,hk,O',S'',acc,xs',st',s',own',tD,hH,hz,rz,h,ex⟩
 cases e:ds.drop k with
 | nil=>
  have hl:ys.length≤k:=by
   have:=congrArg List.length e
   rw [List.length_drop,List.length_nil] at this
   rw [ra.len];omega
  rw [e] at h
  cases h
  rw [List.append_nil] at ex
  subst ex
  refine .inl ⟨(its H' s' k).2 hl,?_⟩
  let Of:Ow:=fun b=>match H1 b with | none=>O' b | some _=>O1 b
  have ofOld:∀b,H1 b≠none→Of b=O1 b:=fun b hb=>by
   show (match H1 b with | none=>O' b | some _=>O1 b)=O1 b
   cases e:H1 b with
   | none=>exact absurd e hb
   | some _=>rfl
  have ofNew:∀b,H1 b=none→Of b=O' b:=fun b hb=>by
   show (match H1 b with | none=>O' b | some _=>O1 b)=O' b
   rw [hb]
  have fre:Fre O' Of:=⟨fun b hb=>by
    by_cases hb1:H1 b=none
    ·rw [ofNew b hb1];exact hb
    ·rw [ofOld b hb1];exact blk_free.mp ((own' b hb1).symm.trans hb)⟩
  have go:Go O1 Of H1 H':=⟨s',ofOld⟩
  have dom:Dom Of H':=⟨fun b hb=>by
   by_cases hb1:H1 b=none
   ·rw [ofNew b hb1] at hb;exact st'.dom.has b hb
   ·exact s'.some hb1,st'.dom.tabs⟩
  have eS:S1=S':=st1.emp.trans st'.emp.symm
  subst eS
  refine q Of (.ref D) H' (g1.trans go) (st1.go go dom) ⟨D,zs,rfl,hH,(ofNew D hD).trans tD,rz.fre fre⟩ fun a ea=>?_
  cases ea
  exact g1.same.free hD
 | cons d ds'=>
  have raK:RepAll K mg O' H' ds ys:=(ra.fre (blk_fre O1)).go ⟨s',own'⟩
  obtain ⟨y,ey,ry,e'⟩:=raK.get' e
  have hlt:k < ys.length:=(List.getElem?_eq_some_iff.mp ey).1
  obtain ⟨go,yl⟩:=(its H' s' k).1 hlt
  rw [e] at h
  obtain ⟨b,S2,h2,h⟩:=M.inv h
  refine .inr ⟨go,fun x H2 yy=>?_⟩
  obtain ⟨eH,exx⟩:=yl x H2 yy
  have eH':=eH.symm
  subst eH'
  rw [ey] at exx
  cases exx
  have h0:(cpSt n cap σV)[0]? = some none:=by
   cases n with
   | zero=>exact absurd hn (Nat.lt_irrefl _)
   | succ j=>rfl
  refine ⟨(Fgt.refl _).set h0,O',_,S'',b,S2,st'.val ry,h2,fun O2 H3 g2 st2=>?_⟩
  cases b with
  | false=>
   rw [if_neg Bool.false_ne_true] at h
   refine iteF ⟨ys.length - (k + 1),by omega,rfl,hlt,O2,S2,acc,xs',?_,s'.trans g2.same,fun b hb=>(g2.own b (s'.some hb)).trans (own' b hb),(g2.own D (by rw [hH];intro z;cases z)).trans tD,g2.same.at' _ _ hH,by omega,rz.go g2,by rw [e'];exact h,ex⟩
   have eS:S''=S2:=st'.emp.trans st2.emp.symm
   exact eS ▸ st'.go g2 st2.dom
  | true=>
   rw [if_pos rfl] at h
   obtain ⟨r,S4,h4,h⟩:=M.inv h
   obtain ⟨x,S5,h5,h⟩:=M.inv h
   obtain ⟨xs2,S6,h6,h⟩:=M.inv h
   cases h
   refine iteT ⟨O2,_,S2,r,S4,st2,h4,fun O3 v H4 g3 st3 rr nn=>?_⟩
   obtain ⟨rx,rfl⟩:=dat_rep (H₀:=H3) rr nn h5
   have G:Go O' (frz H3 O3) H' H4:=g2.trans g3.frz
   have hD4:H4 D=some (.lst zs):=G.same.at' _ _ hH
   have tD4:frz H3 O3 D = .tmp:=(G.own D (by rw [hH];intro z;cases z)).trans tD
   have eS:S''=S4:=st'.emp.trans st3.emp.symm
   refine ⟨hD4,by rw [ra.len] at hlt;omega,ys.length - (k + 1),by omega,rfl,hlt,frz H3 O3,S4,acc ++ [x],xs2,?_,upd_over hD (s'.trans G.same) hD4 _,fun b hb=>(G.own b (s'.some hb)).trans (own' b hb),tD4,upd_same,
    by rw [List.length_append,List.length_singleton];omega,((rz.go G).append (.one rx)).updL (by rw [tD4];intro z;cases z) hD4,by rw [e'];exact h6,by rw [List.append_assoc];exact ex⟩
   exact eS ▸ (st'.go G (st3.frz H3).dom).updT tD4 hD4
end
section
variable {X:Cx} {scope esc:Scope} {EN N:List Str} {n:Nat} {cap:List Nat} {elt iter:Expr} {ifs:List Expr} {pos tpos:Pos} {x:Str} {it:MI} {t:En→M Bool} {el:ME}
theorem ce_comp (S:CpScope esc scope EN N n cap) (hn:0 < n) (hi:CIc X (.Name x tpos) iter it) (hx:N[0]? = some x) (hlx:∀C fp s H,Loc (cxComp X scope N C fp s H).env.scope x∧(cxComp X scope N C fp s H).env.scope.names.lookup x=some .local)
  (ht:∀C fp s H,CFs (cxComp X scope N C fp s H) ifs t) (hel:∀C fp s H,CE (cxComp X scope N C fp s H) elt el)
  (he:X.env.scope=esc:=by rfl) (hN:X.N=EN:=by rfl) (hc:X.calm=true:=by rfl) (hs:∀x,foldedSetIterable iter X.env x=pure x:=by intro _;rfl):CE X (.ListComp elt [⟨.Name x tpos,iter,ifs,0⟩] scope pos) (cComp n cap it t el):=
 pe_imp (pe_comp (wi:=tcOf X.K X.mg it) (g:=gName 0) (tt:=ttOf X.K X.mg t) (te:=teOf X.K X.mg el) S hi (fun C fp s H=>pg_name S.nd hx (hlx C fp s H).1 (.inr (hlx C fp s H).2)) ht hel he hN hc hs) (comp_read hn)
theorem asg_comp {i:Nat} {y:Str} {py spos:Pos} (S:CpScope esc scope EN N n cap) (hNd:X.N.Nodup) (hi':X.N[i]? = some y) (hy:X.env.scope.names.lookup y=some .local) (hn:0 < n) (hi:CIc X (.Name x tpos) iter it) (hx:N[0]? = some x) (hlx:∀C fp s H,Loc (cxComp X scope N C fp s H).env.scope x∧(cxComp X scope N C fp s H).env.scope.names.lookup x=some .local)
  (ht:∀C fp s H,CFs (cxComp X scope N C fp s H) ifs t) (hel:∀C fp s H,CE (cxComp X scope N C fp s H) elt el)
  (he:X.env.scope=esc:=by rfl) (hN:X.N=EN:=by rfl) (hc:X.calm=true:=by rfl) (hs:∀x,foldedSetIterable iter X.env x=pure x:=by intro _;rfl)
  (hsw:swapsWith (.ListComp elt [⟨.Name x tpos,iter,ifs,0⟩] scope pos) (some (.Name y py)) spos.line X.env=pure true:=by rfl) :
  PS X (.Assign [.Name y py] (.ListComp elt [⟨.Name x tpos,iter,ifs,0⟩] scope pos) spos) (tAsg (tComp n cap (tcOf X.K X.mg it) (gName 0) (ttOf X.K X.mg t) (teOf X.K X.mg el)) (gName i)):=
 ps_comp (wi:=tcOf X.K X.mg it) (g:=gName 0) (tt:=ttOf X.K X.mg t) (te:=teOf X.K X.mg el) S hNd hi' hy hi (fun C fp s H=>pg_name S.nd hx (hlx C fp s H).1 (.inr (hlx C fp s H).2)) ht hel he hN hc hs hsw
end
abbrev MF:=List D→M R
def ArgR (K:PySem.W.Frag) (mg:Str→Option Value) (O:Ow) (H:Hp):D→V→Prop
 | .lst xs,v=>∃a ys,v = .ref a∧SqL K H a ys∧RepAll K mg O H xs ys
 | .dic ks vs,v=>∃a kvv,v = .ref a∧Rd H a (.dK kvv)∧RepKV K mg O H (ks.zip vs) kvv
 | d,v=>Rep K mg O H d v
def ArgAll (K:PySem.W.Frag) (mg:Str→Option Value) (O:Ow) (H:Hp):List D→List V→Prop
 | [],ys=>ys=[]
 | x :: xs,ys=>∃y r,ys=y :: r∧ArgR K mg O H x y∧ArgAll K mg O H xs r
theorem zip_un {α β:Type}:∀l:List (α×β),(l.map (·.1)).zip (l.map (·.2))=l
 | []=>rfl
 | x :: l=>by rw [List.map_cons,List.map_cons,List.zip_cons_cons,zip_un l]
def slotOf:D→Slot
 | .lst xs=>.vw xs
 | .dic ks vs=>.vd (ks.zip vs)
 | d=>.val d
theorem arg_of {K:PySem.W.Frag} {mg:Str→Option Value} {O:Ow} {H:Hp} {r:R} {v:V} (h:RepR K mg O H r v):ArgR K mg O H r.arg v:=by
 match r,h with
 | .v (.lst xs),h=>obtain ⟨a,ys,q,l,r⟩:=h;exact ⟨a,ys,q,l.sq,r⟩
 | .fr xs,h=>obtain ⟨a,ys,q,l,_,r⟩:=h;exact ⟨a,ys,q,SqL.of l,r⟩
 | .vw xs,h=>obtain ⟨a,ys,q,l,r⟩:=h;exact ⟨a,ys,q,l.sq,r⟩
 | .mv xs,h=>obtain ⟨a,ys,q,l,r⟩:=h;exact ⟨a,ys,q,SqL.of l,r⟩
 | .v .non,h=>exact h
 | .v (.bl _),h=>exact h
 | .v (.int _),h=>exact h
 | .v (.str _),h=>exact h
 | .v (.tup _),h=>exact h
 | .v (.dic _ _),h=>exact False.elim h
 | .dv kvs,h=>obtain ⟨a,kvv,q,l,r⟩:=h;exact ⟨a,kvv,q,l,by rw [zip_un];exact r⟩
 | .v (.fn _),h=>exact h
 | .v (.ty _),h=>exact h
theorem args_of {K:PySem.W.Frag} {mg:Str→Option Value} {O:Ow} {H:Hp}:∀{rs:List R} {vs:List V},RepRs K mg O H rs vs→ArgAll K mg O H (rs.map R.arg) vs
 | [],_,h=>h
 | _ :: _,_,h=>by obtain ⟨y,r,q,a,b⟩:=h;exact ⟨y,r,q,arg_of a,args_of b⟩
theorem ArgAll.len {K:PySem.W.Frag} {mg:Str→Option Value} {O:Ow} {H:Hp}:∀{ds:List D} {vs:List V},ArgAll K mg O H ds vs→vs.length=ds.length
 | [],_,h=>by cases h;rfl
 | _ :: _,_,h=>by obtain ⟨x,r,rfl,_,b⟩:=h;rw [List.length_cons,List.length_cons,ArgAll.len b]
theorem ArgAll.get {K:PySem.W.Frag} {mg:Str→Option Value} {O:Ow} {H:Hp}:∀{ds:List D} {xs:List V} {i:Nat} {d:D},ArgAll K mg O H ds xs→ds[i]? = some d→∃x,xs[i]? = some x∧ArgR K mg O H d x
 | [],_,_,_,_,e=>by simp at e
 | _ :: _,_,0,d,h,e=>by obtain ⟨x,r,rfl,a,_⟩:=h;cases (show some _=some d from e);exact ⟨x,rfl,a⟩
 | _ :: ds,_,i + 1,d,h,e=>by
  obtain ⟨x,r,rfl,_,b⟩:=h
  obtain ⟨y,e1,e2⟩:=ArgAll.get (i:=i) b (by simpa using e)
  exact ⟨y,by simpa using e1,e2⟩
def spF (K:PySem.W.Frag) (mg:Str→Option Value) (mf:MF):Sp:=fun vs H Q _=>∃O ds r S',Dom O H∧ArgAll K mg O H ds vs∧(mf ds).run [] = .ok r S'∧∀O' v H',Go O O' H H'→Dom O' H'→S'=[]→RepR K mg O' H' r v→NewR H r v→Q v H'
def cCall (mf:MF) (ms:MA):ME:=fun σ=>do
 let rs ←ms σ
 mf (rs.map R.arg)
section
variable {X:Cx} {x:Str} {ps:List Str} {k:Nat} {mf:MF} {p pos:Pos} {e:Expr} {es:List Expr} {ms:MA}
theorem call_read {K:PySem.W.Frag} {mg:Str→Option Value}:∀σV H Q,teOf K mg (cCall mf ms) σV H Q→tFn (spF K mg mf) (taOf K mg ms) σV H Q:=by
 rintro σV H Q ⟨O,σ,S,r,S',st,h,q⟩
 obtain ⟨rs,S1,h1,h⟩:=M.inv h
 refine ⟨O,σ,S,rs,S1,st,h1,fun O1 vs H1 g1 st1 rr nn=>?_⟩
 have eS:=st1.emp
 subst eS
 refine ⟨O1,_,r,S',st1.dom,args_of rr,h,fun O' v H' g d e r' n'=>q O' v H' (g1.trans g) ?_ r' (n'.back g1.same)⟩
 subst e
 exact st1.go g d
theorem ce_call (h:Has X.prog X.w X.K X.mg X.base x ps k (spF X.K X.mg mf)) (hr:Room k X.A) (hg:Gl X x) (ha:CA X (e :: es) ms) (hdb:(x == ("__debug__":Str))=false:=by decide)
  (he:starEach (e :: es) X.env=(false,eval e X.env) :: starEach es X.env:=by rfl) (hpl:(backTo pos (starEach es X.env)).any (·.1)=false:=by rfl):CE X (.Call (.Name x p) (e :: es) [] pos) (cCall mf ms):=
 pe_imp (pe_fn h hr hg ha hdb he hpl) call_read
end
def fnOf (n N:Nat) (b:MS):MF:=fun ds=>if ds.length=n then do
  let fl ←b (ds.map slotOf ++ List.replicate (N - n) .emp)
  match fl with
  | .rt (.v d)=>pure (.v d)
  | .rt (.fr xs)=>pure (.fr xs)
  | .nx _=>pure (.v .non)
  | _=>bad
 else bad
theorem slot_arg {K:PySem.W.Frag} {mg:Str→Option Value} {O:Ow} {H:Hp} {w:Own} {d:D} {v:V} (h:ArgR K mg O H d v):SlotR K mg (blk O) H w (slotOf d) (some v):=by
 have val:Rep K mg O H d v→SlotR K mg (blk O) H w (.val d) (some v):=fun h=>⟨v,rfl,h.fre (blk_fre O)⟩
 match d,h,val with
 | .lst xs,h,_=>
  obtain ⟨a,ys,rfl,l,r⟩:=h
  exact ⟨a,ys,rfl,l.imp (fun z=>⟨z,blk_cases O a⟩) id,r.fre (blk_fre O)⟩
 | .non,h,val=>exact val h
 | .bl _,h,val=>exact val h
 | .int _,h,val=>exact val h
 | .str _,h,val=>exact val h
 | .tup _,h,val=>exact val h
 | .dic ks vs,h,_=>obtain ⟨a,kvv,rfl,l,r⟩:=h;exact ⟨a,kvv,rfl,⟨l,blk_cases O a⟩,r.fre (blk_fre O)⟩
 | .fn _,h,val=>exact val h
 | .ty _,h,val=>exact val h
omit [L2.TabP] in
theorem fnOf_len {n N:Nat} {b:MS} {ds:List D} {S S':Store} {r:R} (h:(fnOf n N b ds).run S = .ok r S'):ds.length=n:=by
 unfold fnOf at h
 by_cases c:ds.length=n
 ·exact c
 ·rw [if_neg c] at h;cases h
theorem body_read {K:PySem.W.Frag} {mg:Str→Option Value} {ps N:List Str} {mb:MS} {vs:List V} {H:Hp} {Q:VK} {E:XK} (hsp:spF K mg (fnOf ps.length N.length mb) vs H Q E):tsOf K mg mb { nx:=fun _ H'=>Q .non H',rt:=Q } (L2.start N vs) H:=by
 obtain ⟨O,ds,r,S',dm,ar,h,q⟩:=hsp
 have hl:=fnOf_len h
 have hlv:=ar.len
 unfold fnOf at h
 rw [if_pos hl] at h
 obtain ⟨fl,S1,h1,h⟩:=M.inv h
 have st0:S3 K mg (blk O) (ds.map slotOf ++ List.replicate (N.length - ps.length) .emp) [] (L2.start N vs) H:=by
  refine ⟨⟨fun a ha=>dm.has a fun z=>ha (blk_free.mpr z),dm.tabs⟩,?_,fun i s e=>?_,rfl⟩
  ·unfold L2.start
   rw [List.length_append,List.length_append,List.length_map,List.length_map,List.length_replicate,List.length_replicate,hlv,hl]
  ·by_cases hi:i < ds.length
   ·rw [List.getElem?_append_left (by rw [List.length_map];exact hi),List.getElem?_map] at e
    cases ed:ds[i]? with
    | none=>rw [ed] at e;cases e
    | some d=>
     rw [ed] at e
     cases e
     obtain ⟨v,ev,rv⟩:=ar.get ed
     unfold L2.start
     rw [List.getElem?_append_left (by rw [List.length_map,hlv];exact hi),List.getElem?_map,ev]
     exact slot_arg rv
   ·rw [List.getElem?_append_right (by rw [List.length_map];omega),List.getElem?_replicate] at e
    split at e
    ·cases e;exact trivial
    ·cases e
 have old:∀b,H b≠none→blk O b = .free∨blk O b = .out:=fun b _=>blk_cases O b
 have back:∀{O':Ow} {H':Hp},Gs (blk O) O' H H'→Dom O' H'→∃O2:Ow,Go O O2 H H'∧Dom O2 H'∧Fre O' O2∧∀b,(O' b = .tmp∨∃i,O' b = .loc i)→H b=none∧O2 b = .tmp:=fun {O' H'} g d=>by
  refine ⟨fun b=>match H b with | some _=>O b | none=>(match O' b with | .loc _=>.tmp | o=>o),⟨⟨fun b o e n=>g.cells b o e ((old b (by rw [e];intro z;cases z)).elim .inl fun z=>.inr (.inl z)) n,g.tb,g.gd⟩,fun b hb=>?_⟩,⟨fun b hb=>?_,d.tabs⟩,⟨fun b hb=>?_⟩,fun b hb=>?_⟩
  ·cases e:H b with
   | none=>exact absurd e hb
   | some o=>rfl
  ·cases e:H b with
   | some o=>exact g.has b (by rw [e];intro z;cases z)
   | none=>
    rw [e] at hb
    refine d.has b fun z=>hb ?_
    dsimp only
    rw [z]
  ·cases e:H b with
   | some o=>
    dsimp only
    have:=(g.own b (by rw [e];intro z;cases z) (blk_cases O b)).symm.trans hb
    exact blk_free.mp this
   | none=>
    dsimp only
    rw [hb]
  ·have hn:H b=none:=by
    cases e:H b with
    | none=>rfl
    | some o=>
     exfalso
     have q1:=g.own b (by rw [e];intro z;cases z) (blk_cases O b)
     rcases blk_cases O b with z | z <;> rw [z] at q1 <;> rcases hb with w | ⟨i,w⟩ <;> rw [q1] at w <;> cases w
   refine ⟨hn,?_⟩
   dsimp only
   rw [hn]
   rcases hb with w | ⟨i,w⟩ <;> rw [w]
 refine ⟨blk O,_,[],fl,S1,st0,h1,?_⟩
 cases fl with
 | nx σ'=>
  cases h
  intro O' σV' H' g st' _
  obtain ⟨O2,g2,d2,f2,_⟩:=back g st'.dom
  exact q O2 .non H' g2 d2 st'.emp rfl trivial
 | bk σ'=>cases h
 | ct σ'=>cases h
 | rt r'=>
  intro O' v H' g d eS rr
  obtain ⟨O2,g2,d2,f2,t2⟩:=back g d
  cases r' with
  | v dd=>cases h;exact q O2 v H' g2 d2 eS (Rep.fre f2 rr) trivial
  | fr xs=>
   cases h
   obtain ⟨a,ys,rfl,l,t,ra⟩:=rr
   obtain ⟨hn,ht⟩:=t2 a t
   exact q O2 _ H' g2 d2 eS ⟨a,ys,rfl,l,ht,ra.fre f2⟩ fun b eb=>by cases eb;exact hn
  | vw xs=>exact False.elim rr
  | mv xs=>exact False.elim rr
  | dv _=>exact False.elim rr
theorem fn_sim {P:Program} {w:World} {K:PySem.W.Frag} {mg:Str→Option Value} {base:Heap} {x qual:Str} {st:Stmt} {ps N:List Str} {k:Nat} {mb:MS} {f:Addr} {fd:FuncData} {n nl:Nat} (F:Fun K x qual st f fd) (Sc:FnScope N ps (defScope st)) (hn:ps.length=n) (hl:N.length=nl)
  (hb:∀(cdv:Value) (A:Around) (outer:List Env) (s:Shared) (H:Hp) (E:XK),Room k (A.deeper (PyProof.Rows.envOfC qual (defScope st) s.heap.objs.size f cdv))→
   CSs (cxOf CX0 P w K mg base N qual (defScope st) f cdv A outer s H E).nox (defBody st) mb):FnOk P w K mg base CX0 (k + 1) f fd ps (spF K mg (fnOf n nl mb)):=by
 subst hn hl
 exact F.ok Sc (fun vs H Q E ⟨O,ds,r,S',dm,ar,h,q⟩=>ar.len.trans (fnOf_len h)) fun cdv A outer s H vs Q E hr hsp=>⟨_,hb cdv A outer s H E hr,body_read hsp⟩
theorem has_of {P:Program} {w:World} {K:PySem.W.Frag} {mg:Str→Option Value} {base:Heap} {x:Str} {st:Stmt} {ps N:List Str} {k:Nat} {mb:MS} {n nl:Nat} (Df:Df K mg x st ps) (Sc:FnScope N ps (defScope st)) (hn:ps.length=n) (hl:N.length=nl)
  (hb:∀(f:Addr) (cdv:Value) (A:Around) (outer:List Env) (s:Shared) (H:Hp) (E:XK),Room k (A.deeper (PyProof.Rows.envOfC x (defScope st) s.heap.objs.size f cdv))→
   CSs (cxOf CX0 P w K mg base N x (defScope st) f cdv A outer s H E).nox (defBody st) mb):Has P w K mg base x ps (k + 1) (spF K mg (fnOf n nl mb)):=by
 obtain ⟨f,fd,F,b,m⟩:=Df.ex
 exact ⟨f,fd,fn_sim F Sc hn hl (fun cdv=>hb f cdv),b,F.kp,m⟩
theorem law_of {P:Program} {w:World} {K:PySem.W.Frag} {mg:Str→Option Value} {base:Heap} {f:Addr} {fd:FuncData} {k:Nat} {mf:MF} (F:FnOk P w K mg base CX0 k f fd ["script"] (spF K mg mf))
  (h:∀ns:List Int,ns.length≤63→∃S',(mf [.lst (ns.map D.int)]).run [] = .ok (.v (.bl true)) S') :
  FnOk P w K mg base CX0 k f fd ["script"] (fun vs H Q _=>∃(a:Addr) (ns:List Int),vs=[.ref a]∧SqL K H a (ns.map V.int)∧ns.length≤63∧TabsOk H∧∀H',Q (.bl true) H'):=by
 refine F.imp fun vs H Q E zz0=>?_
 obtain ⟨a,ns,e,hS,hn,tb,q⟩:=zz0
 subst e
 obtain ⟨S',h'⟩:=h ns hn
 refine ⟨fun _=>.free,[.lst (ns.map D.int)],_,S',⟨fun a ha=>absurd rfl ha,tb⟩,⟨_,_,rfl,⟨a,_,rfl,hS,repAll_ints ns⟩,rfl⟩,h',fun O' v H' _ _ _ rr _=>?_⟩
 cases (show v = .bl true from rr)
 exact q H'
end L3
namespace L3
open PySem PySem.Spec L2
variable [L2.TabP]
omit [L2.TabP] in
theorem df_mk {K:PySem.W.Frag} {h:Heap} {mg:Str→Option Value} {x:Str} {st:Stmt} {f:Addr} {ps:List Str} {od an:Option Addr} {sl:Array (Option Value)} {oc kV dc pm cd ct:Value} (X:K.In h) (G:h.Ns mainGlobals mg)
  (a:PySem.W.nsIn K mainGlobals x=some (some (.ref f))) (l:K.lookup f=some ⟨oc,od,.func (PySem.W.fnOf x x (defArgs st) (defBody st) (defScope st) .none kV dc pm an cd ct),sl⟩) (c:PySem.W.codeIn K cd x=true) (k:PySem.W.keepIn K (.ref f)=true)
  (hb:∀(kV doc pm:Value) (an:Option Addr) (cdv ct:Value) (us:List Value),us.length=ps.length→bindArgs (PySem.W.fnOf x x (defArgs st) (defBody st) (defScope st) .none kV doc pm an cdv ct) ⟨us,[]⟩=pure (ps.zip us)):Df K mg x st ps:=
 ⟨f,_,fun_mk (st:=st) l c k,(fun_mk (st:=st) l c k).binds hb,PySem.W.mg_of X G a⟩
abbrev spLaw (K:PySem.W.Frag):Sp:=fun vs H Q _=>∃(a:Addr) (ns:List Int),vs=[.ref a]∧SqL K H a (ns.map V.int)∧ns.length≤63∧TabsOk H∧∀H',Q (.bl true) H'
end L3
namespace L3
open PySem PySem.Spec L2
variable [L2.TabP]
abbrev BIG:Nat:=10715086071862673209484250490600018105614048117055336074437503883703510511249361224931983788156958581275946729175531468251871452856923140435984577574698574803934567774824230985421074605062371141877954182153046474983581941267398767559165543946077062914571196477686542167660429831652624386837205668069376
omit [L2.TabP] in
theorem big_eq:BIG=2 ^ 1000:=by decide +kernel
omit [L2.TabP] in
theorem natBits {i:Int} (h:i.natAbs < BIG):Builtin.Int.intBits i≤1000:=by
 unfold Builtin.Int.intBits
 split
 ·exact Nat.zero_le _
 ·rename_i hz
  have:i.natAbs.log2 < 1000:=(Nat.log2_lt (by simpa using hz)).mpr (big_eq ▸ h)
  omega
def CMulB (i j:Int):Prop:=(-(2 ^ 64) < i∧i < 2 ^ 64)∨(-(2 ^ 64) < j∧j < 2 ^ 64)∨(i.natAbs < BIG∧j.natAbs < BIG)
omit [L2.TabP] in
theorem CMulB.ok {i j:Int} (h:CMulB i j):IntMulOk i j:=by
 rcases h with h | h | h
 ·exact (show CMul i j from .inl h).ok
 ·exact (show CMul i j from .inr h).ok
 ·have h1:=natBits h.1
  have h2:=natBits h.2
  have hb:Builtin.Int.intTooBig (Builtin.Int.intBits i + Builtin.Int.intBits j)=false:=by
   unfold Builtin.Int.intTooBig
   refine decide_eq_false ?_
   have:(2000:Int)≤((bitsLine:Nat):Int):=by decide
   omega
  unfold IntMulOk
  rw [hb]
  simp
instance (i j:Int):Decidable (CMulB i j):=by unfold CMulB;exact inferInstance
theorem op_mulB {X:Cx}:OpR X (binaryOp .Mult) (rI CMulB fun i j=>.int (i * j)):=opI fun _ _ _ _ _ _ _ hc q=>PyProof.Rows.mul_int q hc.ok
abbrev oMulB:=oI CMulB (· * ·)
theorem bMulB {X:Cx}:Bin X.K X.mg (rI CMulB fun i j=>.int (i * j)) oMulB:=bin_I fun _ _ h=>h
def CDivB (_ j:Int):Prop:=0 < j∧j.natAbs < BIG
instance (i j:Int):Decidable (CDivB i j):=by unfold CDivB;exact inferInstance
theorem op_fdivB {X:Cx}:OpR X (binaryOp .FloorDiv) (rI CDivB fun i j=>.int (i / j)):=opI fun i j _ _ _ _ _ hc q=>by
 have h1:(0:Int) < j:=hc.1
 have h2:j.natAbs < BIG:=hc.2
 refine PyProof.Rows.floordiv_int (by omega) (by rw [Int.fdiv_eq_ediv_of_nonneg i (by omega)];exact q) (.inl (PyProof.noPylong_of_log2 ?_))
 have:j.natAbs.log2 < 1000:=(Nat.log2_lt (by omega)).mpr (big_eq ▸ h2)
 omega
abbrev oDivB:=oI CDivB (· / ·)
theorem bDivB {X:Cx}:Bin X.K X.mg (rI CDivB fun i j=>.int (i / j)) oDivB:=bin_I fun _ _ h=>h
def oBits:R→M R
 | .v (.int i)=>pure (.v (.int (Builtin.Int.intBits i:Nat)))
 | _=>bad
structure Bl3 (mg:Str→Option Value):Prop where
 len:mg "len"=none
 range:mg "range"=none
 isinstance:mg "isinstance"=none
 max:mg "max"=none
 min:mg "min"=none
 any:mg "any"=none
 all:mg "all"=none
 int':mg "int"=none
 bool':mg "bool"=none
 list':mg "list"=none
 tuple':mg "tuple"=none
 str':mg "str"=none
 abs:mg "abs"=none
 sorted:mg "sorted"=none
 sum:mg "sum"=none
 zip:mg "zip"=none
 enumerate:mg "enumerate"=none
 reversed:mg "reversed"=none
 set':mg "set"=none
omit [L2.TabP] in
theorem bt_min:bootBuiltins "min"=some (.builtin "min"):=by decide +kernel
end L3
namespace L3
open PySem PySem.Spec L2
@[simp] theorem e_bad {α β:Type} (f:α→M β):(bad >>= f)=bad:=rfl
@[simp] theorem e_chk {p:Prop} [Decidable p]:chk p=if p then pure () else bad:=rfl
@[simp] theorem e_var {i:Nat} {σ:En}:cVar i σ=match σ[i]? with
 | some (.val d)=>pure (.v d)
 | some (.ow _ xs)=>pure (.mv xs)
 | some (.vw xs)=>pure (.vw xs)
 | some (.dct kvs)=>pure (.dv kvs)
 | some (.vd kvs)=>pure (.dv kvs)
 | _=>bad:=rfl
@[simp] theorem e_K {d:D} {σ:En}:cK d σ=pure (.v d):=rfl
@[simp] theorem e_2 {f:R→R→M R} {a b:ME} {σ:En}:c2 f a b σ=(do let x ←a σ;let y ←b σ;f x y):=rfl
@[simp] theorem e_1 {f:R→M R} {a:ME} {σ:En}:c1 f a σ=(do let x ←a σ;f x):=rfl
@[simp] theorem e_tru {b:Bool}:R.tru (.v (.bl b))=pure b:=rfl
@[simp] theorem e_T {m:ME} {σ:En}:cT m σ=(do let x ←m σ;x.tru):=rfl
@[simp] theorem e_3 {f g:R→R→M R} {a b c:ME} {σ:En}:c3 f g a b c σ=(do
 let x ←a σ
 let y ←b σ
 let z ←f x y
 let t ←z.tru
 if t=true then do
  let w ←c σ
  g y w
 else pure (.v (.bl false))):=rfl
@[simp] theorem e_and {a b:ME} {σ:En}:cAnd a b σ=(do
 let x ←a σ
 let t ←x.tru
 if t=true then b σ else pure (.v (.bl false))):=rfl
@[simp] theorem e_or {a b:ME} {σ:En}:cOr a b σ=(do
 let x ←a σ
 let t ←x.tru
 if t=true then pure (.v (.bl true)) else b σ):=rfl
@[simp] theorem e_not {a:ME} {σ:En}:cNot a σ=(do
 let x ←a σ
 let t ←x.tru
 pure (.v (.bl (!t)))):=rfl
@[simp] theorem e_andM {a b:En→M Bool} {σ:En}:tAndM a b σ=(do
 let t ←a σ
 if t=true then b σ else pure false):=rfl
@[simp] theorem e_orM {a b:En→M Bool} {σ:En}:tOrM a b σ=(do
 let t ←a σ
 if t=true then pure true else b σ):=rfl
@[simp] theorem e_notM {a:En→M Bool} {σ:En}:tNotM a σ=(do
 let t ←a σ
 pure (!t)):=rfl
@[simp] theorem e_if {t:En→M Bool} {a b:ME} {σ:En}:cIf t a b σ=(do
 let t ←t σ
 if t=true then a σ else b σ):=rfl
@[simp] theorem e_I0 {g:Int→Int→Int} {i j:Int}:oI0 g (.v (.int i)) (.v (.int j))=pure (.v (.int (g i j))):=rfl
@[simp] theorem e_I {C:Int→Int→Prop} [∀i j,Decidable (C i j)] {g:Int→Int→Int} {i j:Int}:oI C g (.v (.int i)) (.v (.int j))=if C i j then pure (.v (.int (g i j))) else bad:=rfl
@[simp] theorem e_B {g:Int→Int→Bool} {i j:Int}:oB g (.v (.int i)) (.v (.int j))=pure (.v (.bl (g i j))):=rfl
@[simp] theorem e_neg {i:Int}:oNeg (.v (.int i))=pure (.v (.int (-i))):=rfl
@[simp] theorem e_bits {i:Int}:oBits (.v (.int i))=pure (.v (.int (Builtin.Int.intBits i:Nat))):=rfl
@[simp] theorem e_nil {σ:En}:cNil σ=pure []:=rfl
@[simp] theorem e_cons {m:ME} {ms:MA} {σ:En}:cCons m ms σ=(do
 let x ←m σ
 let xs ←ms σ
 pure (x :: xs)):=rfl
@[simp] theorem e_datv {d:D}:R.dat (.v d)=pure d:=rfl
@[simp] theorem e_datf {xs:List D}:R.dat (.fr xs)=pure (.lst xs):=rfl
@[simp] theorem e_dats0:dats []=pure []:=rfl
@[simp] theorem e_dats {r:R} {rs:List R}:dats (r :: rs)=(do
  let d ←r.dat
  let ds ←dats rs
  pure (d :: ds)):=rfl
@[simp] theorem e_tup {ms:MA} {σ:En}:cTup ms σ=(do
 let rs ←ms σ
 let ds ←dats rs
 chk (ds.length≤1000)
 pure (.v (.tup ds))):=rfl
@[simp] theorem e_lst {ms:MA} {σ:En}:cLst ms σ=(do
 let rs ←ms σ
 let ds ←dats rs
 chk (ds.length≤1000)
 pure (.fr ds)):=rfl
@[simp] theorem e_cB {f:List R→M R} {ms:MA} {σ:En}:cB f ms σ=(do
 let rs ←ms σ
 f rs):=rfl
@[simp] theorem e_lisv {xs:List D}:R.lis (.v (.lst xs))=some xs:=rfl
@[simp] theorem e_lisf {xs:List D}:R.lis (.fr xs)=some xs:=rfl
@[simp] theorem e_lisw {xs:List D}:R.lis (.vw xs)=some xs:=rfl
@[simp] theorem e_lism {xs:List D}:R.lis (.mv xs)=some xs:=rfl
@[simp] theorem e_seqv {xs:List D}:R.seq (.v (.lst xs))=some xs:=rfl
@[simp] theorem e_seqt {xs:List D}:R.seq (.v (.tup xs))=some xs:=rfl
@[simp] theorem e_seqf {xs:List D}:R.seq (.fr xs)=some xs:=rfl
@[simp] theorem e_seqw {xs:List D}:R.seq (.vw xs)=some xs:=rfl
@[simp] theorem e_seqm {xs:List D}:R.seq (.mv xs)=some xs:=rfl
@[simp] theorem e_ownv {xs:List D}:R.own (.v (.lst xs))=some xs:=rfl
@[simp] theorem e_ownf {xs:List D}:R.own (.fr xs)=some xs:=rfl
@[simp] theorem e_ownm {xs:List D}:R.own (.mv xs)=some xs:=rfl
@[simp] theorem e_argv {d:D}:R.arg (.v d)=d:=rfl
@[simp] theorem e_argf {xs:List D}:R.arg (.fr xs) = .lst xs:=rfl
@[simp] theorem e_argw {xs:List D}:R.arg (.vw xs) = .lst xs:=rfl
@[simp] theorem e_argm {xs:List D}:R.arg (.mv xs) = .lst xs:=rfl
@[simp] theorem e_len {x:R}:fLen [x]=match x.seq with
  | some xs=>pure (.v (.int (xs.length:Nat)))
  | none=>bad:=rfl
@[simp] theorem e_kn:R.kind (.v .non)=some "NoneType":=rfl
@[simp] theorem e_kb {b:Bool}:R.kind (.v (.bl b))=some "bool":=rfl
@[simp] theorem e_ki {i:Int}:R.kind (.v (.int i))=some "int":=rfl
@[simp] theorem e_ks {x:Str}:R.kind (.v (.str x))=some "str":=rfl
@[simp] theorem e_kt {xs:List D}:R.kind (.v (.tup xs))=some "tuple":=rfl
@[simp] theorem e_kl {xs:List D}:R.kind (.v (.lst xs))=some "list":=rfl
@[simp] theorem e_kf {xs:List D}:R.kind (.fr xs)=some "list":=rfl
@[simp] theorem e_kw {xs:List D}:R.kind (.vw xs)=some "list":=rfl
@[simp] theorem e_km {xs:List D}:R.kind (.mv xs)=some "list":=rfl
@[simp] theorem e_isi {x:R} {n:String}:fIsi [x,.v (.ty n)]=match x.kind with
  | some t=>if n∈["int","bool","tuple","list","str"] then pure (.v (.bl (isiB t n))) else bad
  | none=>bad:=rfl
@[simp] theorem e_isiB {t n:String}:isiB t n=(t == n || (t == "bool" && n == "int")):=rfl
@[simp] theorem e_2I {g:Int→Int→Int} {i j:Int}:f2I g [.v (.int i),.v (.int j)]=pure (.v (.int (g i j))):=rfl
@[simp] theorem e_abs {i:Int}:fAbs [.v (.int i)]=pure (.v (.int (if i < 0 then -i else i))):=rfl
@[simp] theorem e_any {x:R}:fAny [x]=match x.lis.bind bls with
  | some bs=>pure (.v (.bl (bs.any id)))
  | none=>bad:=rfl
@[simp] theorem e_all {x:R}:fAll [x]=match x.lis.bind bls with
  | some bs=>pure (.v (.bl (bs.all id)))
  | none=>bad:=rfl
@[simp] theorem e_inti {i:Int}:fInt [.v (.int i)]=pure (.v (.int i)):=rfl
@[simp] theorem e_intb {b:Bool}:fInt [.v (.bl b)]=pure (.v (.int (if b then 1 else 0))):=rfl
@[simp] theorem e_list {x:R}:fList [x]=match x.seq with
  | some xs=>pure (.fr xs)
  | none=>bad:=rfl
@[simp] theorem e_tuple {x:R}:fTuple [x]=match x.seq with
  | some xs=>pure (.v (.tup xs))
  | none=>bad:=rfl
@[simp] theorem e_ixt {xs:List D} {i:Int}:oIx (.v (.tup xs)) (.v (.int i))=match atI xs i with
   | some d=>pure (.v d)
   | none=>bad:=rfl
@[simp] theorem e_ixl {xs:List D} {i:Int}:oIx (.v (.lst xs)) (.v (.int i))=match atI xs i with
   | some d=>pure (.v d)
   | none=>bad:=rfl
@[simp] theorem e_ixf {xs:List D} {i:Int}:oIx (.fr xs) (.v (.int i))=match atI xs i with
   | some d=>pure (.v d)
   | none=>bad:=rfl
@[simp] theorem e_ixw {xs:List D} {i:Int}:oIx (.vw xs) (.v (.int i))=match atI xs i with
   | some d=>pure (.v d)
   | none=>bad:=rfl
@[simp] theorem e_ixm {xs:List D} {i:Int}:oIx (.mv xs) (.v (.int i))=match atI xs i with
   | some d=>pure (.v d)
   | none=>bad:=rfl
theorem at_k {α:Type} {xs:List α} (k:Nat) {v:α} (h:xs[k]? = some v):atI xs (k:Int)=some v:=atI_nat h
@[simp] theorem e_at0 {α:Type} {x:α} {xs:List α}:atI (x :: xs) 0=some x:=at_k 0 rfl
@[simp] theorem e_at1 {α:Type} {x y:α} {xs:List α}:atI (x :: y :: xs) 1=some y:=at_k 1 rfl
@[simp] theorem e_at2 {α:Type} {x y z:α} {xs:List α}:atI (x :: y :: z :: xs) 2=some z:=at_k 2 rfl
@[simp] theorem e_at3 {α:Type} {x y z w:α} {xs:List α}:atI (x :: y :: z :: w :: xs) 3=some w:=at_k 3 rfl
@[simp] theorem e_call {mf:MF} {ms:MA} {σ:En}:cCall mf ms σ=(do
 let rs ←ms σ
 mf (rs.map R.arg)):=rfl
@[simp] theorem e_pass {σ:En}:cPass σ=pure (.nx σ):=rfl
@[simp] theorem e_brk {σ:En}:cBrk σ=pure (.bk σ):=rfl
@[simp] theorem e_cnt {σ:En}:cCnt σ=pure (.ct σ):=rfl
@[simp] theorem e_retN {σ:En}:cRetN σ=pure (.rt (.v .non)):=rfl
@[simp] theorem e_seqS {a b:MS} {σ:En}:cSeq a b σ=(do
 let fl ←a σ
 match fl with
 | .nx σ'=>b σ'
 | fl=>pure fl):=rfl
@[simp] theorem e_ret {m:ME} {σ:En}:cRet m σ=(do
 let r ←m σ
 match r with
 | .v d=>pure (.rt (.v d))
 | .fr xs=>pure (.rt (.fr xs))
 | _=>bad):=rfl
@[simp] theorem e_retO {i:Nat} {σ:En}:cRetO i σ=match σ[i]? with
 | some (.ow false xs)=>pure (.rt (.fr xs))
 | _=>bad:=rfl
@[simp] theorem e_ifS {t:En→M Bool} {a b:MS} {σ:En}:cIfS t a b σ=(do
 let t ←t σ
 if t=true then a σ else b σ):=rfl
@[simp] theorem e_drop {m:ME} {σ:En}:cDrop m σ=(do
 let _ ←m σ
 pure (.nx σ)):=rfl
@[simp] theorem e_set {i:Nat} {m:ME} {σ:En}:cSet i m σ=(do
 let r ←m σ
 let d ←r.dat
 pure (.nx (σ.set i (.val d)))):=rfl
@[simp] theorem e_own {i:Nat} {m:ME} {σ:En}:cOwn i m σ=(do
 let r ←m σ
 match r with
 | .fr xs=>pure (.nx (σ.set i (.ow false xs)))
 | _=>bad):=rfl
@[simp] theorem e_mut {i:Nat} {f:List D→List R→M (R×List D)} {ms:MA} {σ:En}:cMut i f ms σ=(do
 let rs ←ms σ
 match σ[i]? with
 | some (.ow p xs)=>do
  let (r,ys) ←f xs rs
  pure (r,σ.set i (.ow p ys))
 | _=>bad):=rfl
@[simp] theorem e_mutS {i:Nat} {f:List D→List R→M (R×List D)} {ms:MA} {σ:En}:cMutS i f ms σ=(do
 let (_,σ') ←cMut i f ms σ
 pure (.nx σ')):=rfl
@[simp] theorem e_mutSet {j i:Nat} {f:List D→List R→M (R×List D)} {ms:MA} {σ:En}:cMutSet j i f ms σ=(do
 let (r,σ') ←cMut i f ms σ
 let d ←r.dat
 pure (.nx (σ'.set j (.val d)))):=rfl
@[simp] theorem e_append {xs:List D} {r:R}:uAppend xs [r]=(do
  let d ←r.dat
  chk (xs.length < sizeLine)
  pure (.v .non,xs ++ [d])):=rfl
@[simp] theorem e_extend {xs:List D} {r:R}:uExtend xs [r]=match r.own with
  | some ys=>do
   chk (xs.length + ys.length≤sizeLine)
   pure (.v .non,xs ++ ys)
  | none=>bad:=rfl
@[simp] theorem e_for {i:Nat} {it:MI} {b:MS} {σ:En}:cFor i it b σ=(do
 let ds ←it σ
 fLoop (fun d σ=>b (σ.set i (.val d))) ds σ):=rfl
@[simp] theorem e_iT {m:ME} {σ:En}:iT m σ=(do
 let r ←m σ
 match r with
 | .v (.tup xs)=>pure xs
 | _=>bad):=rfl
@[simp] theorem e_iL {m:ME} {σ:En}:iL m σ=(do
 let r ←m σ
 match r with
 | .v (.lst xs)=>pure xs
 | .fr xs=>pure xs
 | .vw xs=>pure xs
 | _=>bad):=rfl
@[simp] theorem e_iLc {m:ME} {σ:En}:iLc m σ=(do
 let r ←m σ
 match r.lis with
 | some xs=>pure xs
 | none=>bad):=rfl
@[simp] theorem e_iR1 {m:MA} {σ:En}:iR1 m σ=(do
 let rs ←m σ
 match rs with
 | [.v (.int j)]=>if -(2 ^ 62)≤j∧j < 2 ^ 62 then pure (rngD 0 j.toNat) else bad
 | _=>bad):=rfl
@[simp] theorem e_iR2 {m:MA} {σ:En}:iR2 m σ=(do
 let rs ←m σ
 match rs with
 | [.v (.int i),.v (.int j)]=>if -(2 ^ 62)≤i∧i < 2 ^ 62∧-(2 ^ 62)≤j∧j < 2 ^ 62 then pure (rngD i (j - i).toNat) else bad
 | _=>bad):=rfl
@[simp] theorem e_sl {a:ME} {lo hi:MO} {σ:En}:cSl a lo hi σ=(do
 let x ←a σ
 let l ←lo σ
 let h ←hi σ
 oSl x l h):=rfl
@[simp] theorem e_noPart {σ:En}:cNoPart σ=pure none:=rfl
@[simp] theorem e_part {m:ME} {σ:En}:cPart m σ=(do
 let r ←m σ
 match r with
 | .v (.int i)=>pure (some i)
 | _=>bad):=rfl
@[simp] theorem e_slf {xs:List D} {l h:Option Int}:oSl (.fr xs) l h=pure (.fr (cutD xs l h)):=rfl
@[simp] theorem e_slw {xs:List D} {l h:Option Int}:oSl (.vw xs) l h=pure (.fr (cutD xs l h)):=rfl
@[simp] theorem e_slm {xs:List D} {l h:Option Int}:oSl (.mv xs) l h=pure (.fr (cutD xs l h)):=rfl
@[simp] theorem e_sll {xs:List D} {l h:Option Int}:oSl (.v (.lst xs)) l h=pure (.fr (cutD xs l h)):=rfl
@[simp] theorem e_slt {xs:List D} {l h:Option Int}:oSl (.v (.tup xs)) l h=if HT.sIx xs.length 0 l=0∧HT.sIx xs.length xs.length h=xs.length then bad else pure (.v (.tup (cutD xs l h))):=rfl
@[simp] theorem e_comp {n:Nat} {cap:List Nat} {it:MI} {t:En→M Bool} {el:ME} {σ:En}:cComp n cap it t el σ=(do
 let ds ←it σ
 chk (ds.length < sizeLine)
 let xs ←kLoop t el (cpEn n cap σ) ds
 pure (.fr xs)):=rfl
@[simp] theorem e_cpEn {n:Nat} {cap:List Nat} {σ:En}:cpEn n cap σ=List.replicate n .emp ++ cap.map fun k=>cpSlot σ[k]?:=rfl
@[simp] theorem e_cpv {d:D}:cpSlot (some (.val d)) = .val d:=rfl
@[simp] theorem e_cpo {p:Bool} {xs:List D}:cpSlot (some (.ow p xs)) = .vw xs:=rfl
@[simp] theorem e_cpw {xs:List D}:cpSlot (some (.vw xs)) = .vw xs:=rfl
@[simp] theorem e_yes {σ:En}:tYes σ=pure true:=rfl
@[simp] theorem e_isN {x:R}:oIsN x (.v .non)=pure (.v (.bl x.isN)):=rfl
@[simp] theorem e_notN {x:R}:oNotN x (.v .non)=pure (.v (.bl (!x.isN))):=rfl
@[simp] theorem e_isn:R.isN (.v .non)=true:=rfl
@[simp] theorem e_isni {i:Int}:R.isN (.v (.int i))=false:=rfl
@[simp] theorem e_isnt {xs:List D}:R.isN (.v (.tup xs))=false:=rfl
@[simp] theorem e_isnf {xs:List D}:R.isN (.fr xs)=false:=rfl
@[simp] theorem e_isns {x:Str}:R.isN (.v (.str x))=false:=rfl
@[simp] theorem e_isB {a b:Bool}:oIsB (.v (.bl a)) (.v (.bl b))=pure (.v (.bl (decide (a=b)))):=rfl
@[simp] theorem e_notB {a b:Bool}:oNotB (.v (.bl a)) (.v (.bl b))=pure (.v (.bl (!decide (a=b)))):=rfl
@[simp] theorem e_eqii {i j:Int}:oEq (.v (.int i)) (.v (.int j))=pure (.v (.bl (i == j))):=rfl
@[simp] theorem e_neii {i j:Int}:oNe (.v (.int i)) (.v (.int j))=pure (.v (.bl (!(i == j)))):=rfl
theorem e_eq {x y:R} (hx:x.arg.gd 64=true) (hy:y.arg.gd 64=true):oEq x y=pure (.v (.bl (peq x.arg y.arg))):=if_pos ⟨hx,hy⟩
theorem e_ne {x y:R} (hx:x.arg.gd 64=true) (hy:y.arg.gd 64=true):oNe x y=pure (.v (.bl (!peq x.arg y.arg))):=if_pos ⟨hx,hy⟩
@[simp] theorem e_slotl {xs:List D}:slotOf (.lst xs) = .vw xs:=rfl
@[simp] theorem e_sloti {i:Int}:slotOf (.int i) = .val (.int i):=rfl
@[simp] theorem e_slott {xs:List D}:slotOf (.tup xs) = .val (.tup xs):=rfl
@[simp] theorem e_slots {x:Str}:slotOf (.str x) = .val (.str x):=rfl
@[simp] theorem e_slotn:slotOf .non = .val .non:=rfl
@[simp] theorem e_slotb {b:Bool}:slotOf (.bl b) = .val (.bl b):=rfl
@[simp] theorem e_fn {n N:Nat} {b:MS} {ds:List D}:fnOf n N b ds=if ds.length=n then (do
  let fl ←b (ds.map slotOf ++ List.replicate (N - n) .emp)
  match fl with
  | .rt (.v d)=>pure (.v d)
  | .rt (.fr xs)=>pure (.fr xs)
  | .nx _=>pure (.v .non)
  | _=>bad) else bad:=rfl
theorem fLoop_inv {b:D→MS} (I:Nat→En→Prop):∀(ds:List D) (k:Nat) (σ:En),I k σ→(∀i d σ,ds[i]? = some d→I (k + i) σ→∃σ',(b d σ=pure (.nx σ')∨b d σ=pure (.ct σ'))∧I (k + i + 1) σ')→
  ∃σ',fLoop b ds σ=pure (.nx σ')∧I (k + ds.length) σ'
 | [],k,σ,h0,_=>⟨σ,rfl,h0⟩
 | d :: ds,k,σ,h0,step=>by
  obtain ⟨σ1,e,h1⟩:=step 0 d σ rfl h0
  obtain ⟨σ2,e2,h2⟩:=fLoop_inv I ds (k + 1) σ1 h1 fun i d' σ' hd hI=>by
   have:=step (i + 1) d' σ' (by simpa using hd) (by rw [show k + (i + 1)=k + 1 + i by omega];exact hI)
   rw [show k + (i + 1) + 1=k + 1 + i + 1 by omega] at this
   exact this
  refine ⟨σ2,?_,by rw [List.length_cons,show k + (ds.length + 1)=k + 1 + ds.length by omega];exact h2⟩
  show (b d σ >>= _)=_
  rcases e with e | e <;> rw [e] <;> exact e2
theorem for_inv {b:D→MS} {ds:List D} {σ:En} (I:Nat→En→Prop) (h0:I 0 σ) (step:∀i d σ,ds[i]? = some d→I i σ→∃σ',(b d σ=pure (.nx σ')∨b d σ=pure (.ct σ'))∧I (i + 1) σ') :
  ∃σ',fLoop b ds σ=pure (.nx σ')∧I ds.length σ':=by
 obtain ⟨σ',e,h⟩:=fLoop_inv I ds 0 σ h0 fun i d σ hd hI=>by
  rw [Nat.zero_add] at hI ⊢
  exact step i d σ hd hI
 exact ⟨σ',e,by rw [Nat.zero_add] at h;exact h⟩
end L3
namespace L3
open PySem PySem.Spec L2
theorem at_ints {ns:List Int} {k:Nat} (h:k < ns.length):atI (ns.map D.int) (k:Int)=some (.int (ns.getD k 0)):=by
 refine at_k k ?_
 rw [List.getElem?_map,List.getElem?_eq_getElem h]
 simp [List.getD_eq_getElem?_getD,h]
theorem mod_lt {a b:Int} (h:0 < b):0≤a % b∧a % b < b:=⟨Int.emod_nonneg _ (by omega),Int.emod_lt_of_pos _ h⟩
theorem lt_big {i:Int} (h1:-(10 ^ 200) < i) (h2:i < 10 ^ 200):i.natAbs < BIG:=by
 unfold BIG
 omega
theorem mulS {i j:Int} (h1:-(2 ^ 64) < i) (h2:i < 2 ^ 64):CMulB i j:=.inl ⟨h1,h2⟩
theorem divB {i j:Int} (h1:0 < j) (h2:j < 10 ^ 200):CDivB i j:=⟨h1,lt_big (by omega) h2⟩
end L3
namespace L3
open PySem PySem.Spec L2
variable [L2.TabP]
structure GoA (a:Addr) (O O':Ow) (H H':Hp):Prop where
 cells:∀b o,b≠a→H b=some o→(h:nT o:=by exact trivial)→H' b=some o
 tb:∀b ps,H b=some (.tbl ps)→∃ps',H' b=some (.tbl ps')
 gd:TabsOk H→TabsOk H'
 own:∀b,b≠a→H b≠none→O' b=O b
 owa:O' a=O a
section
variable {K:PySem.W.Frag} {mg:Str→Option Value} {O O':Ow} {H H':Hp} {a:Addr} {zs:List V}
mutual
theorem Rep.goA (g:GoA a O O' H H') (ho:O a≠.free) (hl:H a=some (.lst zs)):∀{d:D} {v:V},Rep K mg O H d v→Rep K mg O' H' d v
 | .non,_,h=>h
 | .bl _,_,h=>h
 | .int _,_,h=>h
 | .str _,_,h=>h
 | .tup _,_,h=>by
  obtain ⟨b,ys,q,t,r⟩:=h
  refine ⟨b,ys,q,?_,RepAll.goA g ho hl r⟩
  rcases t with (t | ⟨o,t⟩) | t
  ·exact .inl (.inl (g.cells _ _ (ne_of t hl (by intro z;cases z)) t))
  ·exact .inl (.inr ⟨o,g.cells _ _ (ne_of t hl (by intro z;cases z)) t⟩)
  ·exact .inr t
 | .lst _,_,h=>by
  obtain ⟨b,ys,q,t,r⟩:=h
  have nb:b≠a:=by rintro rfl;exact ho t.2
  exact ⟨b,ys,q,⟨g.cells _ _ nb t.1,(g.own b nb (by rw [t.1];intro z;cases z)).trans t.2⟩,RepAll.goA g ho hl r⟩
 | .dic _ _,_,h=>h
 | .fn _,_,h=>h
 | .ty _,_,h=>h
theorem RepAll.goA (g:GoA a O O' H H') (ho:O a≠.free) (hl:H a=some (.lst zs)):∀{ds:List D} {ys:List V},RepAll K mg O H ds ys→RepAll K mg O' H' ds ys
 | [],_,h=>h
 | _ :: _,_,h=>by obtain ⟨x,r,q,a,b⟩:=h;exact ⟨x,r,q,Rep.goA g ho hl a,RepAll.goA g ho hl b⟩
end
end
abbrev MIO:=List D→M (List D)
def ioEnd (σ':En):M (List D):=match (σ'[(0:Nat)]? : Option Slot) with
 | some (.ow true ys)=>pure ys
 | _=>bad
def fnIO (n N:Nat) (b:MS):MIO:=fun ds=>match ds with
 | .lst xs :: ds'=>if ds'.length + 1=n then do
   let fl ←b (.ow true xs :: ds'.map slotOf ++ List.replicate (N - n) .emp)
   match fl with
   | .nx σ'=>ioEnd σ'
   | _=>bad
  else bad
 | _=>bad
def R.noMv:R→Bool
 | .mv _=>false
 | _=>true
def cIO (i:Nat) (mf:MIO) (ms:MA):MS:=fun σ=>do
 let rs ←ms σ
 match σ[i]? with
 | some (.ow p xs)=>(if rs.all R.noMv=true then (do
   let ys ←mf (.lst xs :: rs.map R.arg)
   pure (.nx (σ.set i (.ow p ys)))) else bad)
 | _=>bad
omit [L2.TabP] in
@[simp] theorem e_noMvv {d:D}:R.noMv (.v d)=true:=rfl
omit [L2.TabP] in
@[simp] theorem e_noMvf {xs:List D}:R.noMv (.fr xs)=true:=rfl
omit [L2.TabP] in
@[simp] theorem e_noMvw {xs:List D}:R.noMv (.vw xs)=true:=rfl
omit [L2.TabP] in
@[simp] theorem e_io {i:Nat} {mf:MIO} {ms:MA} {σ:En}:cIO i mf ms σ=(do
 let rs ←ms σ
 match σ[i]? with
 | some (.ow p xs)=>(if rs.all R.noMv=true then (do
   let ys ←mf (.lst xs :: rs.map R.arg)
   pure (.nx (σ.set i (.ow p ys)))) else bad)
 | _=>bad):=rfl
omit [L2.TabP] in
@[simp] theorem e_ioEnd {σ:En}:ioEnd σ=match (σ[(0:Nat)]? : Option Slot) with
 | some (.ow true ys)=>pure ys
 | _=>bad:=rfl
omit [L2.TabP] in
@[simp] theorem e_fnIO {n N:Nat} {b:MS} {xs ds:List D}:fnIO n N b (.lst xs :: ds)=if ds.length + 1=n then (do
   let fl ←b (.ow true xs :: ds.map slotOf ++ List.replicate (N - n) .emp)
   match fl with
   | .nx σ'=>ioEnd σ'
   | _=>bad) else bad:=rfl
omit [L2.TabP] in
@[simp] theorem e_pop {xs:List D}:uPop xs []=match xs[xs.length - 1]? with
  | some d=>pure (.v d,xs.dropLast)
  | none=>bad:=rfl
omit [L2.TabP] in
@[simp] theorem e_catL {x y:R}:oCatL x y=match x.own,y.own with
 | some xs,some ys=>if xs.length + ys.length≤sizeLine then pure (.fr (xs ++ ys)) else bad
 | _,_=>bad:=rfl
omit [L2.TabP] in
@[simp] theorem e_catT {xs ys:List D}:oCatT (.v (.tup xs)) (.v (.tup ys))=if xs.length + ys.length≤sizeLine then pure (.v (.tup (xs ++ ys))) else bad:=rfl
omit [L2.TabP] in
@[simp] theorem e_while {c:En→M Bool} {b:MS} {σ:En}:cWhile c b σ=wLoop c b wFuel σ:=rfl
omit [L2.TabP] in
@[simp] theorem s_div {i j:Int} (h1:0 < j) (h2:j < 10 ^ 200):CDivB i j:=divB h1 h2
omit [L2.TabP] in
@[simp] theorem s_mulr {i j:Int} (h1:-(2 ^ 64) < j) (h2:j < 2 ^ 64):CMulB i j:=.inr (.inl ⟨h1,h2⟩)
omit [L2.TabP] in
theorem atI_mem {α:Type} {xs:List α} {i:Int} {v:α} (h:atI xs i=some v):v∈xs:=by
 obtain ⟨j,_,e,_⟩:=atI_get h
 exact List.mem_of_getElem? e
omit [L2.TabP] in
theorem atI_some {α:Type} {xs:List α} {i:Int} (h0:0≤i) (h1:i < xs.length):∃v,atI xs i=some v:=by
 have hl:i.toNat < xs.length:=by omega
 refine ⟨xs[i.toNat],?_⟩
 have:=at_k (xs:=xs) i.toNat (v:=xs[i.toNat]) (by simp [hl])
 rwa [Int.toNat_of_nonneg h0] at this
end L3
namespace L3
open PySem PySem.Spec L2
variable [L2.TabP]
def setsD:List Nat→List D→En→En
 | i :: is,d :: ds,σ=>setsD is ds (σ.set i (.val d))
 | _,_,σ=>σ
def gNames:List Nat→TGs
 | []=>gNil
 | i :: is=>gCons (gName i) (gNames is)
def cUnp (is:List Nat) (m:ME):MS:=fun σ=>do
 let r ←m σ
 match r with
 | .v (.tup ds)=>if ds.length=is.length then pure (.nx (setsD is ds σ)) else bad
 | _=>bad
theorem unp_sim {K:PySem.W.Frag} {mg:Str→Option Value} {O:Ow} {S:Store} {H:Hp}:∀{is:List Nat} {ds:List D} {xs:List V} {σ:En} {σV:St} {Q:St→Hp→Prop},S3 K mg O σ S σV H→RepAll K mg O H ds xs→ds.length=is.length→
  (∀σV',S3 K mg O (setsD is ds σ) S σV' H→Kp σ (setsD is ds σ) σV σV'→Q σV' H)→gNames is xs σV H Q
 | [],[],xs,σ,σV,Q,st,ra,hl,q=>⟨ra,q σV st (Kp.refl _ _)⟩
 | [],_ :: _,xs,σ,σV,Q,st,ra,hl,q=>by cases hl
 | _ :: _,[],xs,σ,σV,Q,st,ra,hl,q=>by cases hl
 | i :: is,d :: ds,xs,σ,σV,Q,st,ra,hl,q=>by
  obtain ⟨y,r,e,ry,rr⟩:=ra
  refine ⟨y,r,e,?_⟩
  exact unp_sim (is:=is) (st.val ry) rr (by simpa using hl) fun σV' st' k=>q σV' st' (Kp.trans (Kp.set fun xs z=>by cases z) k)
section
variable {X:Cx} {pos tpos:Pos} {is:List Nat} {e:Expr} {m:ME} {es:List Expr} {k:Nat} {iter:Expr} {it:MI} {body:List Stmt} {b:MS}
theorem pgs_names_cons {i:Nat} {x:Str} {p:Pos} (hN:X.N.Nodup) (hi:X.N[i]? = some x) (hx:Loc X.env.scope x) (h:PGs X es (gNames is)) (hs:(assignEach (.Name x p :: es) X.env).map (·.2)=assign (.Name x p) X.env :: (assignEach es X.env).map (·.2):=by rfl)
  (hf:X.fn x=true∨X.env.scope.names.lookup x=some .local:=by first | exact .inl rfl | exact .inr rfl | assumption):PGs X (.Name x p :: es) (gNames (i :: is)):=pgs_cons (pg_name hN hi hx hf) h hs
theorem pgs_names_nil:PGs X [] (gNames []):=pgs_nil
theorem cs_unp (hc:X.calm=true) (hg:PGs X es (gNames is)) (he:CE X e m) (hn:(assignEach es X.env).length=is.length:=by rfl) (hst:(assignEach es X.env).findIdx? (·.1)=none:=by rfl)
  (hs:swapsWithSole [.Tuple es k tpos] e pos.line X.env=pure false:=by rfl) (hw:swappedStores [.Tuple es k tpos] e X.env=pure none:=by rfl) (h1:(assignEach [.Tuple es k tpos] X.env).map (·.2)=[assign (.Tuple es k tpos) X.env]:=by rfl) :
  CS X (.Assign [.Tuple es k tpos] e pos) (cUnp is m):=ps_imp (ps_asg he (pg_tup hc hg hn hst) hs hw h1) fun D σV H zz0=>by
 obtain ⟨O,σ,S,fl,S',st,h,q⟩:=zz0
 obtain ⟨r,S1,h1,h⟩:=M.inv h
 split at h
 ·rename_i ds
  by_cases c:ds.length=is.length
  ·rw [if_pos c] at h
   cases h
   refine ⟨O,σ,S,_,_,st,h1,fun O1 v H1 g1 st1 rr nn=>?_⟩
   obtain ⟨a,ys,rfl,t,ra⟩:=rr
   refine ⟨a,ys,rfl,t,by rw [ra.len,c],unp_sim st1 ra c fun σV' st' k=>q O1 σV' H1 g1.gs st' k⟩
  ·rw [if_neg c] at h;cases h
 ·cases h
def cForT (is:List Nat) (it:MI) (b:MS):MS:=fun σ=>do
 let ds ←it σ
 fLoop (fun d σ=>match d with
  | .tup es=>if es.length=is.length then b (setsD is es σ) else bad
  | _=>bad) ds σ
theorem forT_read {K:PySem.W.Frag} {mg:Str→Option Value}:∀D σV H,tsOf K mg (cForT is it b) D σV H→tFor (tfOf K mg it) (gTup K is.length (gNames is)) (tsOf K mg b) D σV H:=
 forG_read (B:=fun d σ=>match d with
  | .tup es=>if es.length=is.length then b (setsD is es σ) else bad
  | _=>bad) fun O σ S σV H d y f S2 Q st ry h k=>by
  cases d with
  | tup es=>
   by_cases c:es.length=is.length
   ·dsimp only at h
    rw [if_pos c] at h
    obtain ⟨a,zs,e,t,rz⟩:=ry
    exact ⟨a,zs,e,t,by rw [rz.len,c],unp_sim st rz c fun σVn stn ks=>k _ _ stn ks h⟩
   ·dsimp only at h
    rw [if_neg c] at h
    cases h
  | _=>cases h
theorem cs_forT (hp:PassesOwn (model X.prog X.w) X.A X.env X.xe) (hc:X.calm=true) (hi:CIf X (.Tuple es k tpos) iter it) (hg:PGs X es (gNames is)) (hb:CSs X body b)
  (hn:(assignEach es X.env).length=is.length:=by rfl) (hst:(assignEach es X.env).findIdx? (·.1)=none:=by rfl)
  (hs:∀x,foldedSetIterable iter X.env x=pure x:=by intro _;rfl):CS X (.For (.Tuple es k tpos) iter body [] pos) (cForT is it b):=
 ps_imp (ps_for hp hc hi (pg_tup hc hg hn hst) hb hs) forT_read
end
omit [L2.TabP] in
@[simp] theorem e_unp {is:List Nat} {m:ME} {σ:En}:cUnp is m σ=(do
 let r ←m σ
 match r with
 | .v (.tup ds)=>if ds.length=is.length then pure (.nx (setsD is ds σ)) else bad
 | _=>bad):=rfl
omit [L2.TabP] in
@[simp] theorem e_sets {i:Nat} {is:List Nat} {d:D} {ds:List D} {σ:En}:setsD (i :: is) (d :: ds) σ=setsD is ds (σ.set i (.val d)):=rfl
omit [L2.TabP] in
@[simp] theorem e_sets0 {ds:List D} {σ:En}:setsD [] ds σ=σ:=by cases ds <;> rfl
omit [L2.TabP] in
@[simp] theorem e_forT {is:List Nat} {it:MI} {b:MS} {σ:En}:cForT is it b σ=(do
 let ds ←it σ
 fLoop (fun d σ=>match d with
  | .tup es=>if es.length=is.length then b (setsD is es σ) else bad
  | _=>bad) ds σ):=rfl
end L3
namespace L3
open PySem PySem.Spec L2
variable [L2.TabP]
def lendEnd (j:Nat) (p:Bool) (xs:List D):Fl→M Fl
 | .nx σ'=>match (σ'[j]? : Option Slot) with
  | some (.vw _)=>pure (.nx (σ'.set j (.ow p xs)))
  | _=>bad
 | .rt r=>pure (.rt r)
 | _=>bad
def cLend (j:Nat) (m:MS):MS:=fun σ=>match σ[j]? with
 | some (.ow p xs)=>do
  let fl ←m (σ.set j (.vw xs))
  lendEnd j p xs fl
 | _=>bad
omit [L2.TabP] in
@[simp] theorem e_lend {j:Nat} {m:MS} {σ:En}:cLend j m σ=match σ[j]? with
 | some (.ow p xs)=>do
  let fl ←m (σ.set j (.vw xs))
  lendEnd j p xs fl
 | _=>bad:=rfl
omit [L2.TabP] in
@[simp] theorem e_lendr {j:Nat} {p:Bool} {xs:List D} {r:R}:lendEnd j p xs (.rt r)=pure (.rt r):=rfl
omit [L2.TabP] in
@[simp] theorem e_lendn {j:Nat} {p:Bool} {xs:List D} {σ':En}:lendEnd j p xs (.nx σ')=match (σ'[j]? : Option Slot) with
  | some (.vw _)=>pure (.nx (σ'.set j (.ow p xs)))
  | _=>bad:=rfl
end L3
namespace L3
open PySem PySem.Spec L2
variable [L2.TabP]
def nums:List D→Option (List Int)
 | []=>some []
 | .int b :: r=>(nums r).map (b :: ·)
 | _=>none
def fSum:List R→M R
 | [x]=>match x.lis.bind nums with
  | some bs=>pure (.v (.int bs.sum))
  | none=>bad
 | _=>bad
omit [L2.TabP] in
@[simp] theorem e_sum {x:R}:fSum [x]=match x.lis.bind nums with
  | some bs=>pure (.v (.int bs.sum))
  | none=>bad:=rfl
end L3
namespace L3
open PySem PySem.Spec L2
section
variable [L2.TabP] (X:Cx)
structure WE (e:Expr) (m:ME):Prop where
 un:CE X e m
structure WT (e:Expr) (m:En→M Bool):Prop where
 un:CT X e m
structure WW (e:Expr) (m:En→M Bool):Prop where
 un:CW X e m
structure WA (e:List Expr) (m:MA):Prop where
 un:CA X e m
structure WO (e:Option Expr) (m:MO):Prop where
 un:CO X e m
structure WS (e:Stmt) (m:MS):Prop where
 un:CS X e m
structure WSs (e:List Stmt) (m:MS):Prop where
 un:CSs X e m
structure WIc (tg e:Expr) (m:MI):Prop where
 un:CIc X tg e m
structure WIf (tg e:Expr) (m:MI):Prop where
 un:CIf X tg e m
structure WFs (e:List Expr) (m:En→M Bool):Prop where
 un:CFs X e m
end
section
variable [L2.TabP]
variable {X:Cx} {a b c e:Expr} {ma mb mc m:ME} {ta tb:En→M Bool} {pos:Pos}
theorem we_var (i:Nat) {x:Str} {pos:Pos} (hN:X.N[i]? = some x:=by rfl) (hv:Vis X.env.scope x:=by first | exact Or.inl rfl | exact Or.inr (Or.inl rfl) | exact Or.inr (Or.inr rfl)) (hd:(x == ("__debug__":Str))=false:=by decide) (hcd:(x == ("__classdict__":Str))=false:=by decide):WE X (.Name x pos) (cVar i):=⟨ce_var i hN hv hd hcd⟩
end
section
variable [L2.TabP]
variable {X:Cx} {e:Expr} {es:List Expr} {m:ME} {ms:MA} {pos:Pos}
theorem wa_cons (ha:WE X e m) (hr:WA X es ms) (hs:starEach (e :: es) X.env=(false,eval e X.env) :: starEach es X.env:=by rfl):WA X (e :: es) (cCons m ms):=⟨ca_cons ha.un hr.un hs⟩
end
section
variable [L2.TabP]
variable {X:Cx} {a b c e:Expr} {ma mb mc m:ME} {ta tb:En→M Bool} {pos:Pos}
theorem we_int {i j pos}:WE X (.Constant (.int i) j pos) (cK (.int i)):=⟨ce_int⟩
end
section
variable [L2.TabP]
variable {X:Cx} {e:Expr} {es:List Expr} {m:ME} {ms:MA} {pos:Pos}
theorem wa_nil :WA X [] cNil:=⟨ca_nil⟩
end
section
variable [L2.TabP]
variable {X:Cx} {a b c e:Expr} {ma mb mc m:ME} {ta tb:En→M Bool} {pos:Pos}
theorem we_op {op:Operator} {r:R2} {f:R→R→M R} (ho:OpR X (binaryOp op) r) (hf:Bin X.K X.mg r f) (ha:WE X a ma) (hb:WE X b mb):WE X (.BinOp a op b pos) (c2 f ma mb):=⟨ce_op ho hf ha.un hb.un⟩
end
section
variable [L2.TabP]
variable {X:Cx} {st:Stmt} {rest:List Stmt} {pos:Pos} {a b:MS} {e:Expr} {m:ME}
theorem wss_cons (h1:WS X st a) (h2:WSs X rest b):WSs X (st :: rest) (cSeq a b):=⟨css_cons h1.un h2.un⟩
end
section
variable [L2.TabP]
variable {X:Cx} {st:Stmt} {rest:List Stmt} {pos:Pos} {a b:MS} {e:Expr} {m:ME}
theorem wss_one (h:WS X st a):WSs X [st] a:=⟨css_one h.un⟩
end
section
variable [L2.TabP]
variable {X:Cx} {a b c e:Expr} {ma mb mc m:ME} {ta tb:En→M Bool} {pos:Pos}
theorem we_ix {r:R2} {f:R→R→M R} (ho:IxR X r) (hf:Bin X.K X.mg r f) (ha:WE X a ma) (hb:WE X b mb) (hs:PlainIx b):WE X (.Subscript a b pos) (c2 f ma mb):=⟨ce_ix ho hf ha.un hb.un hs⟩
end
section
variable [L2.TabP]
variable {X:Cx} {st:Stmt} {rest:List Stmt} {pos:Pos} {a b:MS} {e:Expr} {m:ME}
theorem ws_ret (he:WE X e m):WS X (.Return (some e) pos) (cRet m):=⟨cs_ret he.un⟩
end
section
variable [L2.TabP]
variable {X:Cx} {e:Expr} {es:List Expr} {m:ME} {ms:MA} {pos:Pos}
theorem we_tup {x1} (h:WA X es ms):WE X (.Tuple es x1 pos) (cTup ms):=⟨ce_tup h.un⟩
end
section
variable [L2.TabP]
variable {X:Cx} {st:Stmt} {rest:List Stmt} {pos:Pos} {a b:MS} {e:Expr} {m:ME}
variable {i:Nat} {x:Str} {pos':Pos}
theorem ws_set (hN:X.N.Nodup) (hi:X.N[i]? = some x) (hx:Loc X.env.scope x) (he:WE X e m) (hs:swapsWith e (some (.Name x pos')) pos.line X.env=pure false:=by rfl) (hf:X.fn x=true∨X.env.scope.names.lookup x=some .local:=by first | exact .inl rfl | exact .inr rfl | assumption):WS X (.Assign [.Name x pos'] e pos) (cSet i m):=⟨cs_set hN hi hx he.un hs hf⟩
end
section
variable [L2.TabP]
variable {X:Cx} {x:Str} {ps:List Str} {k:Nat} {mf:MF} {p pos:Pos} {e:Expr} {es:List Expr} {ms:MA}
theorem we_call (h:Has X.prog X.w X.K X.mg X.base x ps k (spF X.K X.mg mf)) (hr:Room k X.A) (hg:Gl X x) (ha:WA X (e :: es) ms) (hdb:(x == ("__debug__":Str))=false:=by decide) (he:starEach (e :: es) X.env=(false,eval e X.env) :: starEach es X.env:=by rfl) (hpl:(backTo pos (starEach es X.env)).any (·.1)=false:=by rfl):WE X (.Call (.Name x p) (e :: es) [] pos) (cCall mf ms):=⟨ce_call h hr hg ha.un hdb he hpl⟩
end
section
variable [L2.TabP]
variable {X:Cx} {e:Expr} {es:List Expr} {ms:MA} {pos p:Pos} {x:Str} {id T:String} {r:List V→Hp→VK→Prop} {f:List R→M R}
theorem we_callB (hc:CallR X (.builtin id) r) (hf:BinC X.K X.mg r f) (hg:Gl X x) (hm:X.mg x=none) (hv:bootBuiltins x=some (.builtin id)) (ha:WA X (e :: es) ms) (hn:x≠"__name__":=by decide) (hdb:(x == ("__debug__":Str))=false:=by decide) (he:starEach (e :: es) X.env=(false,eval e X.env) :: starEach es X.env:=by rfl) (hpl:(backTo pos (starEach es X.env)).any (·.1)=false:=by rfl):WE X (.Call (.Name x p) (e :: es) [] pos) (cB f ms):=⟨ce_callB hc hf hg hm hv ha.un hn hdb he hpl⟩
end
section
variable [L2.TabP]
variable {X:Cx} {st:Stmt} {rest:List Stmt} {pos:Pos} {a b:MS} {e:Expr} {m:ME}
theorem ws_if {c:Expr} {A B:List Stmt} {t:En→M Bool} (hc:WT X c t) (ha:WSs X A a) (hb:WSs X B b):WS X (.If c A B pos) (cIfS t a b):=⟨cs_if hc.un ha.un hb.un⟩
end
section
variable [L2.TabP]
variable {X:Cx} {st:Stmt} {rest:List Stmt} {pos:Pos} {a b:MS} {e:Expr} {m:ME}
theorem wss_nil :WSs X [] cPass:=⟨css_nil⟩
end
section
variable [L2.TabP]
variable {X:Cx} {a b c e:Expr} {ma mb mc m:ME} {ta tb:En→M Bool} {pos:Pos}
theorem wt_cmp {op:CmpOp} {r:R2} {f:R→R→M R} (ho:OpR X (compareOp op) r) (hf:Bin X.K X.mg r f) (ha:WE X a ma) (hb:WE X b mb) (hm:behindInMarks op b=false):WT X (.Compare a [op] [b] pos) (cT (c2 f ma mb)):=⟨ct_cmp ho hf ha.un hb.un hm⟩
end
section
variable [L2.TabP]
variable {X:Cx} {a b c e:Expr} {ma mb mc m:ME} {ta tb:En→M Bool} {pos:Pos}
variable {rest:List Expr}
theorem wt_val (ha:WE X a ma) (he:∀whole,isTrue a X.env whole=(do let v ←whole;standAt a.pos;holding [v] (truthy v)):=by intro _;rfl):WT X a (cT ma):=⟨ct_val ha.un he⟩
end
section
variable [L2.TabP]
variable {X:Cx} {a b c e:Expr} {ma mb mc m:ME} {ta tb:En→M Bool} {pos:Pos}
theorem we_k {d:D} {v:V} (h:PE X e (tC v)) (r:∀O H,Rep X.K X.mg O H d v):WE X e (cK d):=⟨ce_k h r⟩
end
section
variable [L2.TabP]
variable {X:Cx} {e:Expr} {es:List Expr} {m:ME} {ms:MA} {pos:Pos}
theorem we_lst (h:WA X es ms):WE X (.List es pos) (cLst ms):=⟨ce_lst h.un⟩
end
section
variable [L2.TabP]
variable {X:Cx} {a b c e:Expr} {ma mb mc m:ME} {ta tb:En→M Bool} {pos:Pos}
theorem we_bl {b j pos}:WE X (.Constant (.bool b) j pos) (cK (.bl b)):=⟨ce_bl⟩
end
section
variable [L2.TabP]
variable {X:Cx} {a b c e:Expr} {ma mb mc m:ME} {ta tb:En→M Bool} {pos:Pos}
variable {rest:List Expr}
theorem wt_not (ha:WT X a ta):WT X (.UnaryOp .Not a pos) (tNotM ta):=⟨ct_not ha.un⟩
end
section
variable [L2.TabP]
variable {X:Cx} {a b c e:Expr} {ma mb mc m:ME} {ta tb:En→M Bool} {pos:Pos}
variable {rest:List Expr}
theorem ww_or (ha:WT X a ta) (hb:WW X (.BoolOp .Or (b :: rest) pos) tb):WW X (.BoolOp .Or (a :: b :: rest) pos) (tOrM ta tb):=⟨cw_or ha.un hb.un⟩
end
section
variable [L2.TabP]
variable {X:Cx} {a b c e:Expr} {ma mb mc m:ME} {ta tb:En→M Bool} {pos:Pos}
theorem we_str {x j pos}:WE X (.Constant (.str x) j pos) (cK (.str x)):=⟨ce_str⟩
end
section
variable [L2.TabP]
variable {X:Cx} {a b c e:Expr} {ma mb mc m:ME} {ta tb:En→M Bool} {pos:Pos}
theorem we_non {j pos}:WE X (.Constant .none j pos) (cK .non):=⟨ce_non⟩
end
section
variable [L2.TabP]
variable {X:Cx} {a b c e:Expr} {ma mb mc m:ME} {ta tb:En→M Bool} {pos:Pos}
theorem we_cmp {op:CmpOp} {r:R2} {f:R→R→M R} (ho:OpR X (compareOp op) r) (hf:Bin X.K X.mg r f) (ha:WE X a ma) (hb:WE X b mb) (hm:behindInMarks op b=false):WE X (.Compare a [op] [b] pos) (c2 f ma mb):=⟨ce_cmp ho hf ha.un hb.un hm⟩
end
section
variable [L2.TabP]
variable {X:Cx} {tg iter:Expr} {it:MI} {i:Nat} {b:MS} {body:List Stmt} {pos tpos:Pos} {x:Str} {c:Expr} {t:En→M Bool}
theorem ws_for (hp:PassesOwn (model X.prog X.w) X.A X.env X.xe) (hc:X.calm=true) (hi:WIf X (.Name x tpos) iter it) (hN:X.N.Nodup) (hx:X.N[i]? = some x) (hl:Loc X.env.scope x) (hb:WSs X body b) (hs:∀x,foldedSetIterable iter X.env x=pure x:=by intro _;rfl) (hf:X.fn x=true∨X.env.scope.names.lookup x=some .local:=by first | exact .inl rfl | exact .inr rfl | assumption):WS X (.For (.Name x tpos) iter body [] pos) (cFor i it b):=⟨cs_for hp hc hi.un hN hx hl hb.un hs hf⟩
end
section
variable [L2.TabP]
variable {X:Cx} {a b c e:Expr} {ma mb mc m:ME} {ta tb:En→M Bool} {pos:Pos}
variable {rest:List Expr}
theorem we_and (ha:WE X a ma) (hb:WE X (.BoolOp .And (b :: rest) pos) mb):WE X (.BoolOp .And (a :: b :: rest) pos) (cAnd ma mb):=⟨ce_and ha.un hb.un⟩
end
section
variable [L2.TabP]
variable {X:Cx} {a b c e:Expr} {ma mb mc m:ME} {ta tb:En→M Bool} {pos:Pos}
variable {rest:List Expr}
theorem we_or (ha:WE X a ma) (hb:WE X (.BoolOp .Or (b :: rest) pos) mb):WE X (.BoolOp .Or (a :: b :: rest) pos) (cOr ma mb):=⟨ce_or ha.un hb.un⟩
end
section
variable [L2.TabP]
variable {X:Cx} {a b c e:Expr} {ma mb mc m:ME} {ta tb:En→M Bool} {pos:Pos}
variable {rest:List Expr}
theorem ww_or1 (ha:WT X a ta):WW X (.BoolOp .Or [a] pos) ta:=⟨cw_or1 ha.un⟩
end
section
variable [L2.TabP]
variable {X:Cx} {a b c e:Expr} {ma mb mc m:ME} {ta tb:En→M Bool} {pos:Pos}
variable {rest:List Expr}
theorem ww_and (ha:WT X a ta) (hb:WW X (.BoolOp .And (b :: rest) pos) tb):WW X (.BoolOp .And (a :: b :: rest) pos) (tAndM ta tb):=⟨cw_and ha.un hb.un⟩
end
section
variable [L2.TabP]
variable {X:Cx} {e:Expr} {m:ME} {lo hi:Option Expr} {ml mh:MO} {pos p2:Pos}
theorem wo_some (he:WE X e m):WO X (some e) (cPart m):=⟨co_some he.un⟩
end
section
variable [L2.TabP]
variable {X:Cx} {e:Expr} {m:ME} {lo hi:Option Expr} {ml mh:MO} {pos p2:Pos}
theorem wo_none :WO X none cNoPart:=⟨co_none⟩
end
section
variable [L2.TabP]
variable {X:Cx} {e:Expr} {m:ME} {lo hi:Option Expr} {ml mh:MO} {pos p2:Pos}
theorem we_slice (he:WE X e m) (hl:WO X lo ml) (hu:WO X hi mh):WE X (.Subscript e (.Slice lo hi none p2) pos) (cSl m ml mh):=⟨ce_slice he.un hl.un hu.un⟩
end
section
variable [L2.TabP]
variable {X:Cx} {a b c e:Expr} {ma mb mc m:ME} {ta tb:En→M Bool} {pos:Pos}
variable {rest:List Expr}
theorem we_one {op} (h:WE X a ma):WE X (.BoolOp op [a] pos) ma:=⟨ce_one h.un⟩
end
section
variable [L2.TabP]
variable {X:Cx} {scope esc:Scope} {EN N:List Str} {n:Nat} {cap:List Nat} {elt iter:Expr} {ifs:List Expr} {pos tpos:Pos} {x:Str} {it:MI} {t:En→M Bool} {el:ME}
theorem we_comp (S:CpScope esc scope EN N n cap) (hn:0 < n) (hi:WIc X (.Name x tpos) iter it) (hx:N[0]? = some x) (hlx:∀C fp s H,Loc (cxComp X scope N C fp s H).env.scope x∧(cxComp X scope N C fp s H).env.scope.names.lookup x=some .local) (ht:∀C fp s H,WFs (cxComp X scope N C fp s H) ifs t) (hel:∀C fp s H,WE (cxComp X scope N C fp s H) elt el) (he:X.env.scope=esc:=by rfl) (hN:X.N=EN:=by rfl) (hc:X.calm=true:=by rfl) (hs:∀x,foldedSetIterable iter X.env x=pure x:=by intro _;rfl):WE X (.ListComp elt [⟨.Name x tpos,iter,ifs,0⟩] scope pos) (cComp n cap it t el):=⟨ce_comp S hn hi.un hx hlx (fun C fp s H=>(ht C fp s H).un) (fun C fp s H=>(hel C fp s H).un) he hN hc hs⟩
end
section
variable [L2.TabP]
variable {X:Cx} {x:Str} {i j:Nat} {p apos cpos pos pos':Pos} {e:Expr} {es:List Expr} {ms:MA} {name y:Str} {id:String} {f:List D→List R→M (R×List D)} {r:V→List V→Hp→VK→Prop}
theorem ws_mut (slot:PySem.Slot "list" name id) (hty:typeOf (.builtin id)=pure (.type "method_descriptor")) (hm:MtM X id r) (hf:BinM X.K X.mg r f) (ha:WA X (e :: es) ms) (hN:X.N[i]? = some x) (hv:Vis X.env.scope x) (hd:(x == ("__debug__":Str))=false:=by decide) (hcd:(x == ("__classdict__":Str))=false:=by decide) (hbase:attributeBase (.Name x p) name X.env (eval (.Name x p) X.env)=eval (.Name x p) X.env:=by rfl) (hfew:((backTo cpos (starEach (e :: es) X.env)).all (fun x=>!x.1) && (backToKw cpos (keywordEach [] X.env)).all (fun x=>x.1.isSome)
   && decide ((e :: es).length + ([]:List Keyword).length + (if ([]:List Keyword).isEmpty then 0 else 1) < 30))=true:=by rfl) (hline:(apos.endLine == cpos.line)=true:=by rfl) (hs:starEach (e :: es) X.env=(false,eval e X.env) :: starEach es X.env:=by rfl) (hplain:(backTo cpos (starEach es X.env)).any (·.1)=false:=by rfl) (hsw:swapsWith (.Call (.Attribute (.Name x p) name apos) (e :: es) [] cpos) none pos.line X.env=pure false:=by rfl):WS X (.Expr (.Call (.Attribute (.Name x p) name apos) (e :: es) [] cpos) pos) (cMutS i f ms):=⟨cs_mut slot hty hm hf ha.un hN hv hd hcd hbase hfew hline hs hplain hsw⟩
end
section
variable [L2.TabP]
variable {X:Cx} {a b c e:Expr} {ma mb mc m:ME} {ta tb:En→M Bool} {pos:Pos}
variable {rest:List Expr}
theorem ww_and1 (ha:WT X a ta):WW X (.BoolOp .And [a] pos) ta:=⟨cw_and1 ha.un⟩
end
section
variable [L2.TabP]
variable {X:Cx} {tg l:Expr} {m:ME} {e a b:Expr} {ms:MA} {pos p:Pos}
theorem wf_list (hl:WE X l m):WIf X tg l (iL m):=⟨cf_list hl.un⟩
end
section
variable [L2.TabP]
theorem we_neg {X:Cx} {a:Expr} {ma:ME} {pos:Pos} (ha:WE X a ma):WE X (.UnaryOp .USub a pos) (c1 oNeg ma):=⟨ce_neg ha.un⟩
end
section
variable [L2.TabP]
variable {X:Cx} {st:Stmt} {rest:List Stmt} {pos:Pos} {a b:MS} {e:Expr} {m:ME}
variable {i:Nat} {x:Str} {pos':Pos}
theorem ws_own (hN:X.N.Nodup) (hi:X.N[i]? = some x) (hx:Loc X.env.scope x) (he:WE X e m) (hs:swapsWith e (some (.Name x pos')) pos.line X.env=pure false:=by rfl) (hf:X.fn x=true∨X.env.scope.names.lookup x=some .local:=by first | exact .inl rfl | exact .inr rfl | assumption):WS X (.Assign [.Name x pos'] e pos) (cOwn i m):=⟨cs_own hN hi hx he.un hs hf⟩
end
section
variable [L2.TabP]
theorem wfs_nil {X:Cx}:WFs X [] tYes:=⟨cfs_nil⟩
end
section
variable [L2.TabP]
variable {X:Cx} {a b c e:Expr} {ma mb mc m:ME} {ta tb:En→M Bool} {pos:Pos}
variable {rest:List Expr}
theorem we_not (ha:WE X a ma):WE X (.UnaryOp .Not a pos) (cNot ma):=⟨ce_not ha.un⟩
end
section
variable [L2.TabP]
variable {X:Cx} {e:Expr} {es:List Expr} {ms:MA} {pos p:Pos} {x:Str} {id T:String} {r:List V→Hp→VK→Prop} {f:List R→M R}
theorem we_callTy (hc:CallR X (.type T) r) (hf:BinC X.K X.mg r f) (hg:Gl X x) (hm:X.mg x=none) (hv:bootBuiltins x=some (.type T)) (ha:WA X (e :: es) ms) (hn:x≠"__name__":=by decide) (hdb:(x == ("__debug__":Str))=false:=by decide) (he:starEach (e :: es) X.env=(false,eval e X.env) :: starEach es X.env:=by rfl) (hpl:(backTo pos (starEach es X.env)).any (·.1)=false:=by rfl):WE X (.Call (.Name x p) (e :: es) [] pos) (cB f ms):=⟨ce_callTy hc hf hg hm hv ha.un hn hdb he hpl⟩
end
section
variable [L2.TabP]
theorem wfs_one {X:Cx} {c:Expr} {t:En→M Bool} (h:WT X c t):WFs X [c] t:=⟨cfs_one h.un⟩
end
section
variable [L2.TabP]
variable {X:Cx} {tg l:Expr} {m:ME} {e a b:Expr} {ms:MA} {pos p:Pos}
theorem wf_range1 (hg:Gl X "range") (hm:X.mg "range"=none) (ha:WA X [a] ms) (hs:starEach [a] X.env=[(false,eval a X.env)]:=by rfl):WIf X tg (.Call (.Name "range" p) [a] [] pos) (iR1 ms):=⟨cf_range1 hg hm ha.un hs⟩
end
section
variable [L2.TabP]
variable {X:Cx} {tg l:Expr} {m:ME} {e a b:Expr} {ms:MA} {pos p:Pos}
theorem wf_range2 (hg:Gl X "range") (hm:X.mg "range"=none) (ha:WA X [a,b] ms) (hs:starEach [a,b] X.env=[(false,eval a X.env),(false,eval b X.env)]:=by rfl) (hs2:starEach [b] X.env=[(false,eval b X.env)]:=by rfl):WIf X tg (.Call (.Name "range" p) [a,b] [] pos) (iR2 ms):=⟨cf_range2 hg hm ha.un hs hs2⟩
end
section
variable [L2.TabP]
variable {X:Cx} {tg l:Expr} {m:ME} {e a b:Expr} {ms:MA} {pos p:Pos}
theorem wc_tup (hl:WE X l m):WIc X tg l (iT m):=⟨cc_tup hl.un⟩
end
section
variable [L2.TabP]
variable {X:Cx} {tg l:Expr} {m:ME} {e a b:Expr} {ms:MA} {pos p:Pos}
theorem wc_list (hl:WE X l m):WIc X tg l (iLc m):=⟨cc_list hl.un⟩
end
section
variable [L2.TabP]
variable {X:Cx} {tg l:Expr} {m:ME} {e a b:Expr} {ms:MA} {pos p:Pos}
theorem wf_tup (hl:WE X l m):WIf X tg l (iT m):=⟨cf_tup hl.un⟩
end
section
variable [L2.TabP]
variable {X:Cx} {st:Stmt} {rest:List Stmt} {pos:Pos} {a b:MS} {e:Expr} {m:ME}
theorem ws_retO (i:Nat) {x:Str} {p:Pos} (hN:X.N[i]? = some x:=by rfl) (hv:Vis X.env.scope x:=by first | exact Or.inl rfl | exact Or.inr (Or.inl rfl) | exact Or.inr (Or.inr rfl)) (hd:(x == ("__debug__":Str))=false:=by decide) (hcd:(x == ("__classdict__":Str))=false:=by decide):WS X (.Return (some (.Name x p)) pos) (cRetO i):=⟨cs_retO i hN hv hd hcd⟩
end
section
variable [L2.TabP]
variable {X:Cx} {pos tpos:Pos} {is:List Nat} {e:Expr} {m:ME} {es:List Expr} {k:Nat} {iter:Expr} {it:MI} {body:List Stmt} {b:MS}
theorem ws_unp (hc:X.calm=true) (hg:PGs X es (gNames is)) (he:WE X e m) (hn:(assignEach es X.env).length=is.length:=by rfl) (hst:(assignEach es X.env).findIdx? (·.1)=none:=by rfl) (hs:swapsWithSole [.Tuple es k tpos] e pos.line X.env=pure false:=by rfl) (hw:swappedStores [.Tuple es k tpos] e X.env=pure none:=by rfl) (h1:(assignEach [.Tuple es k tpos] X.env).map (·.2)=[assign (.Tuple es k tpos) X.env]:=by rfl):WS X (.Assign [.Tuple es k tpos] e pos) (cUnp is m):=⟨cs_unp hc hg he.un hn hst hs hw h1⟩
end
section
variable [L2.TabP]
variable {X:Cx} {pos tpos:Pos} {is:List Nat} {e:Expr} {m:ME} {es:List Expr} {k:Nat} {iter:Expr} {it:MI} {body:List Stmt} {b:MS}
theorem ws_forT (hp:PassesOwn (model X.prog X.w) X.A X.env X.xe) (hc:X.calm=true) (hi:WIf X (.Tuple es k tpos) iter it) (hg:PGs X es (gNames is)) (hb:WSs X body b) (hn:(assignEach es X.env).length=is.length:=by rfl) (hst:(assignEach es X.env).findIdx? (·.1)=none:=by rfl) (hs:∀x,foldedSetIterable iter X.env x=pure x:=by intro _;rfl):WS X (.For (.Tuple es k tpos) iter body [] pos) (cForT is it b):=⟨cs_forT hp hc hi.un hg hb.un hn hst hs⟩
end
section
variable [L2.TabP]
variable {X:Cx} {a b c e:Expr} {ma mb mc m:ME} {ta tb:En→M Bool} {pos:Pos}
variable {rest:List Expr}
theorem WW.ct (h:WW X a ta):WT X a ta:=⟨CW.ct h.un⟩
end
section
variable [L2.TabP]
variable {X:Cx} {scope esc:Scope} {EN N:List Str} {n:Nat} {cap:List Nat} {elt iter:Expr} {ifs:List Expr} {pos tpos:Pos} {x:Str} {it:MI} {t:En→M Bool} {el:ME}
theorem ws_asgO {i:Nat} {y:Str} {py spos:Pos} (S:CpScope esc scope EN N n cap) (hNd:X.N.Nodup) (hi':X.N[i]? = some y) (hy:X.env.scope.names.lookup y=some .local) (hn:0 < n) (hi:WIc X (.Name x tpos) iter it) (hx:N[0]? = some x) (hlx:∀C fp s H,Loc (cxComp X scope N C fp s H).env.scope x∧(cxComp X scope N C fp s H).env.scope.names.lookup x=some .local) (ht:∀C fp s H,WFs (cxComp X scope N C fp s H) ifs t) (hel:∀C fp s H,WE (cxComp X scope N C fp s H) elt el) (he:X.env.scope=esc:=by rfl) (hN:X.N=EN:=by rfl) (hc:X.calm=true:=by rfl) (hs:∀x,foldedSetIterable iter X.env x=pure x:=by intro _;rfl) (hsw:swapsWith (.ListComp elt [⟨.Name x tpos,iter,ifs,0⟩] scope pos) (some (.Name y py)) spos.line X.env=pure true:=by rfl):WS X (.Assign [.Name y py] (.ListComp elt [⟨.Name x tpos,iter,ifs,0⟩] scope pos) spos) (cOwn i (cComp n cap it t el)):=⟨ps_imp (asg_comp S hNd hi' hy hn hi.un hx hlx (fun C fp s H=>(ht C fp s H).un) (fun C fp s H=>(hel C fp s H).un) he hN hc hs hsw) (own_read (comp_read hn))⟩
end
section
variable [L2.TabP]
variable {X:Cx} {scope esc:Scope} {EN N:List Str} {n:Nat} {cap:List Nat} {elt iter:Expr} {ifs:List Expr} {pos tpos:Pos} {x:Str} {it:MI} {t:En→M Bool} {el:ME}
theorem ws_asgS {i:Nat} {y:Str} {py spos:Pos} (S:CpScope esc scope EN N n cap) (hNd:X.N.Nodup) (hi':X.N[i]? = some y) (hy:X.env.scope.names.lookup y=some .local) (hn:0 < n) (hi:WIc X (.Name x tpos) iter it) (hx:N[0]? = some x) (hlx:∀C fp s H,Loc (cxComp X scope N C fp s H).env.scope x∧(cxComp X scope N C fp s H).env.scope.names.lookup x=some .local) (ht:∀C fp s H,WFs (cxComp X scope N C fp s H) ifs t) (hel:∀C fp s H,WE (cxComp X scope N C fp s H) elt el) (he:X.env.scope=esc:=by rfl) (hN:X.N=EN:=by rfl) (hc:X.calm=true:=by rfl) (hs:∀x,foldedSetIterable iter X.env x=pure x:=by intro _;rfl) (hsw:swapsWith (.ListComp elt [⟨.Name x tpos,iter,ifs,0⟩] scope pos) (some (.Name y py)) spos.line X.env=pure true:=by rfl):WS X (.Assign [.Name y py] (.ListComp elt [⟨.Name x tpos,iter,ifs,0⟩] scope pos) spos) (cSet i (cComp n cap it t el)):=⟨ps_imp (asg_comp S hNd hi' hy hn hi.un hx hlx (fun C fp s H=>(ht C fp s H).un) (fun C fp s H=>(hel C fp s H).un) he hN hc hs hsw) (set_read (comp_read hn))⟩
end
end L3
namespace L3
open PySem PySem.Spec L2 PyProof.Rows
@[reducible] def intKK:PyProof.Rows.KeyKind where
 α:=Int
 blt a b:=decide (a < b)
 irrefl a:=by simp
 trans a b c h1 h2:=by simp only [decide_eq_true_eq] at *;omega
 negTrans a b c h:=by simp only [decide_eq_true_eq] at *;omega
 total a b h1 h2:=by simp only [decide_eq_false_iff_not] at *;omega
 keyOf v:=match v with | .int i _=>some i | _=>none
 dflt:=0
theorem intKK_one:intKK.OneLt:=by
 intro prog w A E s x y a b Q ha hb h
 cases x <;> simp only [intKK,reduceCtorEq,Option.some.injEq] at ha
 cases y <;> simp only [intKK,reduceCtorEq,Option.some.injEq] at hb
 cases ha;cases hb
 exact oneLt_int h
structure KO where
 κ:PyProof.Rows.KeyKind
 kd:κ.α→D
 un:D→Option κ.α
structure KO.Ok (Z:KO):Prop where
 one:Z.κ.OneLt
 un_kd:∀d a,Z.un d=some a→d=Z.kd a
 key:∀(a:Z.κ.α) (K:PySem.W.Frag) (mg:Str→Option Value) (O:Ow) (H:Hp) (v:V) (u:Value),Rep K mg O H (Z.kd a) v→RelV v u→Z.κ.keyOf u=some a
 kind:∀(v₁ v₂:Value) (vs:List Value),(∀v∈v₁ :: v₂ :: vs,∃a,Z.κ.keyOf v=some a)→keyKind' (v₁ :: v₂ :: vs).toArray=pure oneType'
@[reducible] def koInt:KO where
 κ:=intKK
 kd:=D.int
 un d:=match d with | .int i=>some i | _=>none
@[reducible] def koStr:KO where
 κ:=PyProof.Rows.strKind
 kd:=fun l=>D.str ⟨l.toArray⟩
 un d:=match d with | .str x=>some x.cps.toList | _=>none
theorem koInt_ok:koInt.Ok where
 one:=intKK_one
 un_kd:=fun d a h=>by cases d <;> first | (cases h;rfl) | cases h
 key:=fun a K mg O H v u h r=>by
  cases (show v = .int a from h)
  obtain ⟨t,rfl⟩:=r
  rfl
 kind:=fun v₁ v₂ vs h=>by
  refine keyKind_ints (ns:=(v₁ :: v₂ :: vs).map numOf) (intsAre_map _ fun v hv=>?_)
  obtain ⟨a,ha⟩:=h v hv
  cases v <;> first | (cases ha;exact ⟨_,_,rfl⟩) | cases ha
theorem koStr_ok:koStr.Ok where
 one:=strKind_oneLt
 un_kd:=fun d a h=>by cases d <;> first | (cases h;rfl) | cases h
 key:=fun a K mg O H v u h r=>by
  cases (show v = .str ⟨a.toArray⟩ from h)
  obtain ⟨t,rfl⟩:=r
  rfl
 kind:=fun v₁ v₂ vs h=>by
  have key:∀(l:List Value),(∀v∈l,∃a,PyProof.Rows.strKind.keyOf v=some a)→∃ss,StrsAre l ss:=fun l=>by
   induction l with
   | nil=>exact fun _=>⟨[],.nil⟩
   | cons v l ih=>
    intro h
    obtain ⟨ss,hs⟩:=ih fun w hw=>h w (List.mem_cons_of_mem _ hw)
    obtain ⟨a,ha⟩:=h v List.mem_cons_self
    cases v <;> first | exact ⟨_ :: ss,.cons _ _ hs⟩ | cases ha
  obtain ⟨ss,hs⟩:=key _ h
  exact keyKind_strs hs
section
variable {β:Type}
def insB (blt:β→β→Bool) (p:β×D):List (β×D)→List (β×D)
 | []=>[p]
 | q :: r=>if blt q.1 p.1 then q :: insB blt p r else p :: q :: r
def sortB (blt:β→β→Bool):List (β×D)→List (β×D)
 | []=>[]
 | p :: r=>insB blt p (sortB blt r)
theorem insB_perm (blt:β→β→Bool) (p:β×D):∀l,(insB blt p l).Perm (p :: l)
 | []=>.refl _
 | q :: r=>by
  unfold insB
  split
  ·exact ((insB_perm blt p r).cons q).trans (.swap p q r)
  ·exact .refl _
theorem sortB_perm (blt:β→β→Bool):∀l,(sortB blt l).Perm l
 | []=>.refl _
 | p :: r=>(insB_perm blt p _).trans ((sortB_perm blt r).cons p)
end
theorem insB_sorted (O:PyProof.Rows.KeyOrd) (p:O.α×D):∀l:List (O.α×D),l.Pairwise (fun a b=>O.blt a.1 b.1=true)→(∀q∈l,q.1≠p.1)→(insB O.blt p l).Pairwise (fun a b=>O.blt a.1 b.1=true)
 | [],_,_=>List.pairwise_singleton _ _
 | q :: r,h,hn=>by
  rw [List.pairwise_cons] at h
  unfold insB
  cases e:O.blt q.1 p.1 with
  | true=>
   rw [if_pos rfl,List.pairwise_cons]
   refine ⟨fun x hx=>?_,insB_sorted O p r h.2 fun x hx=>hn x (List.mem_cons_of_mem _ hx)⟩
   rcases List.mem_cons.mp ((insB_perm O.blt p r).mem_iff.mp hx) with rfl | hx
   ·exact e
   ·exact h.1 x hx
  | false=>
   rw [if_neg Bool.false_ne_true,List.pairwise_cons,List.pairwise_cons]
   have hpq:O.blt p.1 q.1=true:=by
    cases e2:O.blt p.1 q.1 with
    | true=>rfl
    | false=>exact absurd (O.total _ _ e e2) (hn q List.mem_cons_self)
   refine ⟨fun x hx=>?_,h.1,h.2⟩
   rcases List.mem_cons.mp hx with rfl | hx
   ·exact hpq
   ·exact O.trans _ _ _ hpq (h.1 x hx)
theorem sortB_sorted (O:PyProof.Rows.KeyOrd):∀l:List (O.α×D),(l.map (·.1)).Nodup→(sortB O.blt l).Pairwise (fun a b=>O.blt a.1 b.1=true)
 | [],_=>.nil
 | p :: r,h=>by
  rw [List.map_cons,List.nodup_cons] at h
  refine insB_sorted O p _ (sortB_sorted O r h.2) fun q hq e=>h.1 ?_
  rw [←e]
  exact List.mem_map_of_mem ((sortB_perm O.blt r).mem_iff.mp hq)
theorem rising_one {γ:Type} {lt:γ→γ→Prop} (irr:∀a,¬lt a a) (tr:∀a b c,lt a b→lt b c→lt a c):∀{l₁ l₂:List γ},l₁.Perm l₂→l₁.Pairwise lt→l₂.Pairwise lt→l₁=l₂
 | [],l₂,p,_,_=>(List.nil_perm.mp p).symm
 | a :: l₁,[],p,_,_=>(List.nil_perm.mp p.symm)
 | a :: l₁,b :: l₂,p,h1,h2=>by
  rw [List.pairwise_cons] at h1 h2
  have e:a=b:=by
   rcases List.mem_cons.mp (p.mem_iff.mp List.mem_cons_self) with h | h
   ·exact h
   ·rcases List.mem_cons.mp (p.mem_iff.mpr List.mem_cons_self) with h' | h'
    ·exact h'.symm
    ·exact (irr _ (tr _ _ _ (h1.1 b h') (h2.1 a h))).elim
  subst e
  rw [rising_one irr tr (List.Perm.cons_inv p) h1.2 h2.2]
theorem sort_one (O:PyProof.Rows.KeyOrd) {l ps:List (O.α×D)} (hn:(l.map (·.1)).Nodup) (hp:ps.Perm l) (hs:ps.Pairwise (fun a b=>O.blt a.1 b.1=true)):ps=sortB O.blt l:=
 rising_one (lt:=fun a b=>O.blt a.1 b.1=true) (fun a=>by rw [O.irrefl];exact Bool.false_ne_true) (fun a b c=>O.trans _ _ _) (hp.trans (sortB_perm O.blt l).symm) hs (sortB_sorted O l hn)
theorem strict_of (O:PyProof.Rows.KeyOrd) {ps:List (O.α×D)} (hn:(ps.map (·.1)).Nodup) (h:ps.Pairwise (fun a b=>O.blt b.1 a.1=false)):ps.Pairwise (fun a b=>O.blt a.1 b.1=true):=by
 induction ps with
 | nil=>exact .nil
 | cons p r ih=>
  rw [List.map_cons,List.nodup_cons] at hn
  rw [List.pairwise_cons] at h ⊢
  refine ⟨fun q hq=>?_,ih hn.2 h.2⟩
  cases e:O.blt p.1 q.1 with
  | true=>rfl
  | false=>exact absurd (List.mem_map_of_mem (f:=fun x:O.α×D=>x.1) hq) (by rw [←O.total _ _ e (h.1 q hq)];exact hn.1)
end L3
namespace L3
open PySem PySem.Spec L2 PyProof.Rows
variable [L2.TabP]
def KeyC (X:Cx) (k:Nat) (f:Addr) (G:Hp→Prop) (mf:MF):Prop:=
 (∀H H',Same H H'→G H→G H')∧(∀H p zs o,H p=some (.lst zs)→G H→G (upd H p o))∧∀(A:Around) (s:Shared) (H:Hp) (u:Value) (v:V) (Q:VK),Room k A→Env0 X.prog X.w X.K X.mg X.base A X.stack s H→G H→RelV v u→spF X.K X.mg mf [v] H Q E0→
  codeAny (model X.prog X.w) A (.call (.ref f) ⟨[u],[]⟩) (CR CX0 X.stack X.prog X.w H s Q E0) s
def lstP (a:Addr) (e:Nat):Heap→Prop:=fun h=>h.get? a=some (seqObj "list" #[] e)
structure KSt (X:Cx) (pins:List (Addr×Obj)) (σ:L2.St) (G:Hp→Prop) (O:Ow) (H:Hp) (a kS:Addr) (e1:Nat) (ks:List D) (s':Shared):Prop where
 ex:∃O' H' ys,Inv X pins σ H' s'∧Go O O' H H'∧Dom O' H'∧G H'∧H' a=some (.ext (lstP a e1))∧H' kS=some (.lst ys)∧RepAll X.K X.mg O' H' ks ys∧O' kS = .tmp
section
variable {X:Cx} {pins:List (Addr×Obj)} {σ:L2.St} {H:Hp} {s:Shared} {G:Hp→Prop} {mf:MF} {f a kS:Addr} {k:Nat} {O:Ow} {e1:Nat}
theorem lst_ext {prog:Program} {w:World} {H:Hp} {h:Heap} (e:h.get? a=some (seqObj "list" #[] e1)):ObjOk prog w H h a (.ext (lstP a e1)):=
 ⟨e,⟨_,e⟩,fun h1 h2 p q=>q _ p⟩
theorem ext_ne {H':Hp} {s':Shared} (I:Inv X pins σ H' s') (ha:H' a=some (.ext (lstP a e1))) (q:Str):H' a≠some (.ext (cdP a q)):=fun z=>by
 obtain ⟨p,_⟩:=I.hok a _ ha
 obtain ⟨p2,_⟩:=I.hok a _ z
 obtain ⟨c,o,vs,t,e1,e2,e3,_⟩:=p2
 cases e1
 have p:s'.heap.get? a=_:=p
 rw [p] at e2
 cases e2
 cases e3
theorem key_turn {ks:List D} {d kx:D} {u:Value} {v:V} {s':Shared} (hC:KeyC X k f G mf) (hr:Room k X.A.in1.in1) (hna:H a=none) (hnk:H kS=none) (hak:kS≠a) (rd:Rep X.K X.mg O H d v) (ru:RelV v u) (hd:(mf [d]).run [] = .ok (.v kx) []) (hks:ks.length < 64) (S:KSt X pins σ G O H a kS e1 ks s') :
  wpAny (model X.prog X.w) X.A.in1.in1 (call (.ref f) [u]) (fun u' s2=>∃(O':Ow) (H':Hp) (ys:List V) (v':V),Inv X pins σ H' s2∧Go O O' H H'∧Dom O' H'∧G H'∧H' a=some (.ext (lstP a e1))∧H' kS=some (.lst ys)∧RepAll X.K X.mg O' H' ks ys∧Rep X.K X.mg O' H' kx v'∧RelV v' u'∧O' kS = .tmp) (fun _ _=>False) s':=by
 obtain ⟨O1,H1,ys,I1,g1,d1,G1,ha,hk,ra,ot⟩:=S.ex
 refine wpAny_call (codeAny_mono (hC.2.2 X.A.in1.in1 s' H1 u v (fun v' H'=>∃O',Go O1 O' H1 H'∧Dom O' H'∧Rep X.K X.mg O' H' kx v') hr I1.env0.in1.in1 G1 ru ?_) fun r s2 hq=>?_)
 ·refine ⟨O1,[d],.v kx,[],d1,⟨v,[],rfl,?_,rfl⟩,hd,fun O' v' H' g dm _ rr _=>⟨O',g,dm,rr⟩⟩
  have rd1:=rd.go g1
  cases d <;> first | exact rd1 | exact False.elim rd1 | skip
  obtain ⟨x,zs,q,l,r⟩:=rd1
  exact ⟨x,zs,q,l.sq,r⟩
 ·cases r with
  | error e=>exact False.elim hq
  | ok fl=>
   cases fl with
   | ret u'=>
    obtain ⟨v',H2,I2,rv,O2,g2,d2,r2⟩:=I1.after hq
    exact ⟨O2,H2,ys,v',I2,g1.trans g2,d2,hC.1 _ _ g2.same G1,g2.same.at' _ _ ha,g2.same.at' _ _ hk,ra.go g2,r2,rv,(g2.own kS (by rw [hk];intro z;cases z)).trans ot⟩
   | next=>exact False.elim hq
   | brk=>exact False.elim hq
   | cont=>exact False.elim hq
theorem sort_rest {Z:KO} (hZ:Z.Ok) {ds:List D} {ka:List Z.κ.α} {xs:List V} {us:List Value} {P:PySem.Fin→Shared→Prop} {E:Value→Shared→Prop} (hC:KeyC X k f G mf) (hr:Room k X.A.in1.in1) (hna:H a=none) (hnk:H kS=none) (hak:kS≠a)
  (ra:RepAll X.K X.mg O H ds xs) (rv:Vals xs us) (hks:∀(i:Nat) (d:D),ds[i]? = some d→∃κ,ka[i]? = some κ∧(mf [d]).run [] = .ok (.v (Z.kd κ)) []) (hlen:ka.length=ds.length) (h64:ds.length < 64) (S:KSt X pins σ G O H a kS e1 [] s)
  (fin:∀(s':Shared) (keys:Array Value),KSt X pins σ G O H a kS e1 (ka.map Z.kd) s'→keys.toList.map Z.κ.keyOf=ka.map some→wpAny (model X.prog X.w) X.A.in1.in1 (ksk_end a false us.toArray e1 (.ref kS) keys) P E s') :
  wpAny (model X.prog X.w) X.A.in1.in1 (ksk_rest a (.ref f) false us.toArray e1 (.ref kS)) P E s:=by
 have lx:=ra.len
 have lu:=rv.length
 unfold ksk_rest
 refine wpAny_bind (wpAny_rule ?_)
 first
  | rw [List.forIn_toArray]
  | (rw [←Array.forIn_toList];simp only [List.toList_toArray])
  | rw [←Array.forIn_toList]
 refine wpAny_bind (ksk_fold (fun i s'=>KSt X pins σ G O H a kS e1 ((ka.take i).map Z.kd) s') us 0 s (by rw [List.take_zero];exact S) ?step ?done)
 case step=>
  intro j u s' hu S'
  simp only [Nat.zero_add] at S' ⊢
  have hj:j < us.length:=(List.getElem?_eq_some_iff.mp hu).1
  obtain ⟨v,hv,ru⟩:∃v,xs[j]? = some v∧RelV v u:=by
   have hv:xs[j]? = some xs[j]:=List.getElem?_eq_getElem (by omega)
   obtain ⟨u',hu',r⟩:=rv.get hv
   rw [hu] at hu';cases hu'
   exact ⟨_,hv,r⟩
  obtain ⟨d,hd,rd⟩:=ra.getV hv
  obtain ⟨κ,hκ,hm⟩:=hks j d hd
  have hz:((ka.take j).map Z.kd).length < 64:=by rw [List.length_map,List.length_take];omega
  refine wpAny_bind (wpAny_attempt (wpAny_mono (key_turn hC hr hna hnk hak rd ru hm hz S') (fun u' s2 he=>?_) fun _ _ hF=>hF.elim))
  obtain ⟨O2,H2,ys,v',I2,g2,d2,G2,ha2,hk2,ra2,rk2,rv2,ot2⟩:=he
  try dsimp only
  obtain ⟨hsz,its,n,vals,hget⟩:=I2.hok kS _ hk2
  have hil:its.length=(ka.take j).length:=by rw [←vals.length,ra2.len,List.length_map]
  have hil2:its.length < 64:=by rw [hil,List.length_take];omega
  have s1:=Heap.SameBut.update s2.heap kS (Obj.mapSeq (·.push u'))
  obtain ⟨c2,hc2⟩:∃c2,(s2.heap.update kS (Obj.mapSeq (·.push u'))).get? kS=some (seqObj "list" (its.toArray.push u') c2):=⟨_,get?_update_seq hget (·.push u')⟩
  refine wpAny_bind (listUpdate_at hget rfl ?_ (by rw [List.size_toArray,sizeLine_eq];omega) (Nat.le_trans (Nat.le_of_eq (Array.size_push ..)) (by rw [List.size_toArray,sizeLine_eq];omega)))
  refine wpAny_pure ⟨rfl,⟨O2,upd H2 kS (.lst (ys ++ [v'])),ys ++ [v'],?_,⟨upd_over hnk g2.same hk2 _,g2.own⟩,d2.updL hk2,hC.2.1 _ _ _ _ hk2 G2,by rw [upd_ne hak.symm];exact ha2,upd_same,?_,ot2⟩⟩
  ·refine I2.write (x:=kS) (e:=kS) (t':=s2.toks) (by rw [hk2];trivial) (.inl rfl) (fun b o hb e=>(s1.2 b hb).trans e) ⟨_,hc2⟩ ⟨?_,its ++ [u'],c2,vals.append (.cons rv2 .nil),?_⟩
   ·rw [List.length_append,vals.length];rw [sizeLine_eq];simp;omega
   ·rw [hc2];simp [seqObj]
  ·have ek:ka.take (j + 1)=ka.take j ++ [κ]:=by rw [List.take_add_one,hκ];rfl
   rw [ek,List.map_append]
   exact (ra2.append (.one rk2)).updL (by rw [ot2];intro z;cases z) hk2
 case done=>
  intro s' S'
  have e3:ka.take (0 + us.length)=ka:=List.take_of_length_le (by omega)
  rw [e3] at S'
  obtain ⟨O2,H2,ys,I2,g2,d2,G2,ha2,hk2,ra2,ot2⟩:=id S'.ex
  obtain ⟨hsz,its,n,vals,hget⟩:=I2.hok kS _ hk2
  refine wpAny_bind (listItems_at hget rfl ?_)
  refine fin s' its.toArray S' ?_
  have key:∀(ka:List Z.κ.α) (ys:List V) (its:List Value),RepAll X.K X.mg O2 H2 (ka.map Z.kd) ys→Vals ys its→its.map Z.κ.keyOf=ka.map some:=by
   intro ka
   induction ka with
   | nil=>intro ys its h r;cases h;cases r;rfl
   | cons κ ka ih=>
    intro ys its h r
    obtain ⟨y,t,rfl,h1,h2⟩:=h
    cases r with
    | cons r1 r2=>
     rw [List.map_cons,List.map_cons,ih _ _ h2 r2,hZ.key κ _ _ _ _ _ _ h1 r1]
  exact key _ _ _ ra2 vals
end
end L3
namespace L3
open PySem PySem.Spec L2 PyProof.Rows
theorem perm_lift {α β:Type} (f:α→β):∀{L M:List β},L.Perm M→∀{Q:List α},M=Q.map f→∃Q':List α,Q'.Perm Q∧L=Q'.map f:=by
 intro L M h
 induction h with
 | nil=>
  intro Q e
  cases Q with
  | nil=>exact ⟨[],.refl _,rfl⟩
  | cons q Q=>cases e
 | cons x _ ih=>
  intro Q e
  cases Q with
  | nil=>cases e
  | cons q Q=>
   rw [List.map_cons] at e
   injection e with e1 e2
   obtain ⟨Q',p,e3⟩:=ih e2
   exact ⟨q :: Q',p.cons q,by rw [e1,e3];rfl⟩
 | swap x y l=>
  intro Q e
  cases Q with
  | nil=>cases e
  | cons q Q=>
   cases Q with
   | nil=>rw [List.map_cons] at e;injection e with _ e2;cases e2
   | cons r Q=>
    rw [List.map_cons,List.map_cons] at e
    injection e with e1 e2
    injection e2 with e2 e3
    exact ⟨r :: q :: Q,.swap _ _ _,by rw [e1,e2,e3];rfl⟩
 | trans _ _ ih1 ih2=>
  intro Q e
  obtain ⟨Q1,p1,e1⟩:=ih2 e
  obtain ⟨Q2,p2,e2⟩:=ih1 e1
  exact ⟨Q2,p2.trans p1,e2⟩
variable [L2.TabP]
abbrev Quad (Z:KO):=(Value×Value)×(Z.κ.α×(D×V))
section
variable {K:PySem.W.Frag} {mg:Str→Option Value} {O:Ow} {H:Hp} {Z:KO}
theorem quads {ds:List D}:∀{xs:List V} {us keys:List Value} {ka:List Z.κ.α},RepAll K mg O H ds xs→Vals xs us→keys.map Z.κ.keyOf=ka.map some→ka.length=ds.length→
  ∃Q:List (Quad Z),Q.map (·.1)=keys.zip us∧Q.map (fun q=>(q.2.1,q.2.2.1))=ka.zip ds∧∀q∈Q,Z.κ.keyOf q.1.1=some q.2.1∧Rep K mg O H q.2.2.1 q.2.2.2∧RelV q.2.2.2 q.1.2:=by
 induction ds with
 | nil=>
  intro xs us keys ka h r e l
  cases h
  cases r
  rw [List.length_eq_zero_iff.mp l] at e ⊢
  have:keys=[]:=by cases keys with | nil=>rfl | cons=>cases e
  subst this
  exact ⟨[],rfl,rfl,fun _ h=>(nomatch h)⟩
 | cons d ds ih=>
  intro xs us keys ka h r e l
  obtain ⟨x,t,rfl,h1,h2⟩:=h
  cases r with
  | @cons _ u _ us r1 r2=>
   cases ka with
   | nil=>cases l
   | cons κ ka=>
    cases keys with
    | nil=>cases e
    | cons kv keys=>
     rw [List.map_cons,List.map_cons] at e
     injection e with e1 e2
     obtain ⟨Q,q1,q2,q3⟩:=ih h2 r2 e2 (by simpa using l)
     refine ⟨((kv,u),(κ,(d,x))) :: Q,?_,?_,fun q hq=>?_⟩
     ·rw [List.map_cons,q1];rfl
     ·rw [List.map_cons,q2];rfl
     ·rcases List.mem_cons.mp hq with rfl | hq
      ·exact ⟨e1,h1,r1⟩
      ·exact q3 q hq
theorem rep_map {α:Type} (f:α→D) (g:α→V):∀l:List α,(∀q∈l,Rep K mg O H (f q) (g q))→RepAll K mg O H (l.map f) (l.map g)
 | [],_=>rfl
 | q :: l,h=>⟨_,_,rfl,h q List.mem_cons_self,rep_map f g l fun x hx=>h x (List.mem_cons_of_mem _ hx)⟩
omit [L2.TabP] in
theorem vals_map {α:Type} (f:α→V) (g:α→Value):∀l:List α,(∀q∈l,RelV (f q) (g q))→Vals (l.map f) (l.map g)
 | [],_=>.nil
 | q :: l,h=>.cons (h q List.mem_cons_self) (vals_map f g l fun x hx=>h x (List.mem_cons_of_mem _ hx))
theorem sorted_out {ds:List D} {xs:List V} {us:List Value} {keys:Array Value} {ka:List Z.κ.α} (ra:RepAll K mg O H ds xs) (rv:Vals xs us) (hk:keys.toList.map Z.κ.keyOf=ka.map some) (hl:ka.length=ds.length) (hn:ka.Nodup)
  {ar:Array Keyed} (hp:ar.Perm (keys.zip us.toArray)) (hs:SortedToK Z.κ ar ar.size) :
  ∃ys,Vals ys (ar.map (·.2)).toList∧ys.length=ds.length∧RepAll K mg O H ((sortB Z.κ.blt (ka.zip ds)).map (·.2)) ys:=by
 obtain ⟨Q,q1,q2,q3⟩:=quads ra rv hk hl
 have hp':ar.toList.Perm (Q.map (·.1)):=by
  rw [q1,←ksk_zip]
  exact Array.perm_iff_toList_perm.mp hp
 obtain ⟨Q',p',e'⟩:=perm_lift (fun q:Quad Z=>q.1) hp' rfl
 have q3':∀q∈Q',Z.κ.keyOf q.1.1=some q.2.1∧Rep K mg O H q.2.2.1 q.2.2.2∧RelV q.2.2.2 q.1.2:=fun q hq=>q3 q (p'.mem_iff.mp hq)
 have zl:(ka.zip ds).map (·.1)=ka:=by rw [List.map_fst_zip];omega
 have perm:(Q'.map fun q=>(q.2.1,q.2.2.1)).Perm (ka.zip ds):=by rw [←q2];exact p'.map _
 have nd:((Q'.map fun q:Quad Z=>(q.2.1,q.2.2.1)).map (·.1)).Nodup:=by
  have:=perm.map (fun p:Z.κ.α×D=>p.1)
  rw [zl] at this
  exact this.nodup_iff.mpr hn
 have srt:(Q'.map fun q:Quad Z=>(q.2.1,q.2.2.1)).Pairwise (fun a b=>Z.κ.blt b.1 a.1=false):=by
  rw [List.pairwise_map,List.pairwise_iff_getElem]
  intro i j hi hj hij
  have lar:ar.toList.length=Q'.length:=by rw [e',List.length_map]
  have hi':i < ar.size:=by rw [Array.length_toList] at lar;omega
  have hj':j < ar.size:=by rw [Array.length_toList] at lar;omega
  have:=hs i j (Nat.le_of_lt hij) hj'
  have at':∀(m:Nat) (hm:m < Q'.length) (hm':m < ar.size),KK Z.κ ar m=Q'[m].2.1:=fun m hm hm'=>by
   have e1:ar[m]? = some Q'[m].1:=by
    have:ar.toList[m]? = some Q'[m].1:=by rw [e',List.getElem?_map,List.getElem?_eq_getElem hm];rfl
    rwa [Array.getElem?_toList] at this
   unfold KK
   rw [e1]
   show (Z.κ.keyOf Q'[m].1.1).getD Z.κ.dflt=_
   rw [(q3' _ (List.getElem_mem hm)).1];rfl
  rw [at' i hi hi',at' j hj hj'] at this
  exact this
 have one:=sort_one Z.κ.toKeyOrd (by rw [zl];exact hn) perm (strict_of Z.κ.toKeyOrd nd srt)
 refine ⟨Q'.map fun q=>q.2.2.2,?_,?_,?_⟩
 ·have:(ar.map (·.2)).toList=Q'.map fun q=>q.1.2:=by
   rw [Array.toList_map,e',List.map_map];rfl
  rw [this]
  exact vals_map _ _ _ fun q hq=>(q3' q hq).2.2
 ·rw [List.length_map,p'.length_eq]
  have:=congrArg List.length q2
  rw [List.length_map,List.length_zip,hl,Nat.min_self] at this
  exact this
 ·rw [←one,List.map_map]
  exact rep_map _ _ _ fun q hq=>(q3' q hq).2.1
end
section
variable {X:Cx} {pins:List (Addr×Obj)} {σ:L2.St} {H:Hp} {s:Shared} {G:Hp→Prop} {mf:MF} {f a kS:Addr} {k:Nat} {O:Ow} {e1:Nat} {Z:KO} {ds:List D} {ka:List Z.κ.α} {xs:List V} {us:List Value} {E:Value→Shared→Prop} {keys:Array Value}
def SortQ (X:Cx) (pins:List (Addr×Obj)) (σ:L2.St) (O:Ow) (H:Hp) (a:Addr) (out:List D) (s':Shared):Prop:=
 ∃O' H' ys,Inv X pins σ H' s'∧Go O O' H H'∧Dom O' H'∧H' a=some (.lst ys)∧O' a = .tmp∧RepAll X.K X.mg O' H' out ys
theorem sort_tail {A:Around} {st:SortSt} (hna:H a=none) (hnk:H kS=none) (hak:kS≠a) (ra:RepAll X.K X.mg O H ds xs) (rv:Vals xs us) (hk:keys.toList.map Z.κ.keyOf=ka.map some) (hl:ka.length=ds.length) (hn:ka.Nodup) (h64:ds.length < 64)
  (S:KSt X pins σ G O H a kS e1 (ka.map Z.kd) s) (hp:(arrOf st).Perm (keys.zip us.toArray)) (hs:SortedToK Z.κ (arrOf st) (arrOf st).size) (hfl:failedOf st=none) :
  wpAny (model X.prog X.w) A (ksk_tail a false e1 (.ref kS) st) (fun r s'=>r = .done (.ret .none)∧SortQ X pins σ O H a ((sortB Z.κ.blt (ka.zip ds)).map (·.2)) s') E s:=by
 obtain ⟨O2,H2,ys2,I2,g2,d2,G2,ha2,hk2,ra2,ot2⟩:=S.ex
 obtain ⟨_,its,n,vals,hget⟩:=I2.hok kS _ hk2
 have hga:s.heap.get? a=some (seqObj "list" #[] e1):=(I2.hok a _ ha2).1
 obtain ⟨zs,zv,zl,zr⟩:=sorted_out ra rv hk hl hn hp hs
 have hsz:(arrOf st).size=ds.length:=by
  have h1:=zv.length
  have h2:((arrOf st).map (·.2)).toList.length=(arrOf st).size:=by rw [Array.length_toList,Array.size_map]
  omega
 have itl:its.length=ds.length:=by rw [←vals.length,ra2.len,List.length_map,hl]
 have s1:=Heap.SameBut.update s.heap kS (Obj.mapSeq fun _=>(#[]:Array Value))
 obtain ⟨c1,hc1⟩:∃c1,(s.heap.update kS (Obj.mapSeq fun _=>(#[]:Array Value))).get? kS=some (seqObj "list" #[] c1):=⟨_,get?_update_seq hget fun _=>#[]⟩
 have na1:(s.heap.update kS (Obj.mapSeq fun _=>(#[]:Array Value))).get? a=some (seqObj "list" #[] e1):=(s1.2 a hak.symm).trans hga
 have I3:Inv X pins σ (upd H2 kS (.lst [])) { s with heap:=s.heap.update kS (Obj.mapSeq fun _=>(#[]:Array Value)) }:=
  I2.write (x:=kS) (e:=kS) (t':=s.toks) (by rw [hk2];trivial) (.inl rfl) (fun b o hb e=>(s1.2 b hb).trans e) ⟨_,hc1⟩ ⟨Nat.zero_le _,[],c1,.nil,hc1⟩
 have s2:=Heap.SameBut.update (s.heap.update kS (Obj.mapSeq fun _=>(#[]:Array Value))) a (Obj.mapSeq fun _=>(arrOf st).map (·.2))
 obtain ⟨c2,hc2⟩:∃c2,((s.heap.update kS (Obj.mapSeq fun _=>(#[]:Array Value))).update a (Obj.mapSeq fun _=>(arrOf st).map (·.2))).get? a=some (seqObj "list" ((arrOf st).map (·.2)) c2):=⟨_,get?_update_seq na1 fun _=>(arrOf st).map (·.2)⟩
 have ha3:upd H2 kS (.lst []) a=some (.ext (lstP a e1)):=by rw [upd_ne hak.symm];exact ha2
 unfold ksk_tail
 try dsimp only
 simp only [Bool.false_eq_true,if_false]
 refine wpAny_bind (listUpdate_at hget rfl ?_ (by rw [List.size_toArray,sizeLine_eq];omega) (Nat.zero_le _))
 refine wpAny_bind (wpAny_letGo ?_)
 refine wpAny_bind (seqEpoch_at na1 rfl ?_)
 refine wpAny_bind (listUpdate_at na1 rfl ?_ (Nat.zero_le _) (Nat.le_trans (Nat.le_of_eq (Array.size_map ..)) (by rw [hsz,sizeLine_eq];omega)))
 rw [hfl]
 simp only [bne_self_eq_false,Bool.false_eq_true,if_false]
 have same:Same H (upd (upd H2 kS (.lst [])) a (.lst zs)):=by
  have u1:=upd_over hnk g2.same hk2 (.lst [])
  refine ⟨fun b o e n=>by rw [upd_ne (ne_of_none e hna)];exact u1.at' b o e n,fun b ps e=>by rw [upd_ne (ne_of_none e hna)];exact u1.tb b ps e,fun g=>?_⟩
  exact (u1.gd g).put _ (fun ps=>by rw [ha3];intro z;cases z) (ext_ne I3 ha3)
 have go:Go O (updO O2 a .tmp) H (upd (upd H2 kS (.lst [])) a (.lst zs)):=⟨same,fun b hb=>by
  rw [updO_ne (by rintro rfl;exact hb hna)];exact g2.own b hb⟩
 refine wpAny_pure ⟨rfl,updO O2 a .tmp,_,zs,?_,go,⟨fun b hb=>?_,?_⟩,upd_same,updO_same,zr.go go⟩
 ·refine I3.write (x:=a) (e:=a) (t':=s.toks) (by rw [ha3];trivial) (.inl rfl) (fun b o hb e=>(s2.2 b hb).trans e) ⟨_,hc2⟩ ⟨?_,_,c2,zv,?_⟩
  ·rw [zl,sizeLine_eq];omega
  ·rw [hc2,Array.toArray_toList]
 ·by_cases e:b=a
  ·rw [e,upd_same];intro z;cases z
  ·rw [upd_ne e]
   rw [updO_ne e] at hb
   by_cases e':b=kS
   ·rw [e',upd_same];intro z;cases z
   ·rw [upd_ne e'];exact d2.has b hb
 ·exact (d2.tabs.lst hk2 _).put _ (fun ps=>by rw [ha3];intro z;cases z) (ext_ne I3 ha3)
theorem sort_end {A:Around} (hZ:Z.Ok) (hna:H a=none) (hnk:H kS=none) (hak:kS≠a) (ra:RepAll X.K X.mg O H ds xs) (rv:Vals xs us) (hk:keys.toList.map Z.κ.keyOf=ka.map some) (hl:ka.length=ds.length) (hn:ka.Nodup) (h64:ds.length < 64)
    (S:KSt X pins σ G O H a kS e1 (ka.map Z.kd) s) :
    wpAny (model X.prog X.w) A (ksk_end a false us.toArray e1 (.ref kS) keys) (fun r s'=>r = .done (.ret .none)∧SortQ X pins σ O H a ((sortB Z.κ.blt (ka.zip ds)).map (·.2)) s') E s:=by
  have lu:us.length=ds.length:=by rw [←rv.length,ra.len]
  have lk:keys.size=ds.length:=by
    have:=congrArg List.length hk
    rw [List.length_map,List.length_map,Array.length_toList] at this
    omega
  have hzs:(keys.zip us.toArray).size=ds.length:=by rw [Array.size_zip,lk,List.size_toArray,lu,Nat.min_self]
  have hkey:∀v∈keys.toList,∃κ,Z.κ.keyOf v=some κ:=fun v hv=>by
    have:Z.κ.keyOf v∈ka.map some:=by rw [←hk];exact List.mem_map_of_mem hv
    obtain ⟨κ,_,e⟩:=List.mem_map.mp this
    exact ⟨κ,e.symm⟩
  unfold ksk_end
  try dsimp only
  simp only [Bool.false_eq_true,if_false]
  by_cases h2:us.toArray.size < 2
  · rw [if_pos h2,if_pos h2]
    refine wpAny_bind (wpAny_pure ?_)
    rw [StateT.run_pure]
    refine wpAny_bind (wpAny_pure ?_)
    try dsimp only
    refine sort_tail (st:=SortSt.mk' general' (keys.zip us.toArray) #[] 7 none) hna hnk hak ra rv hk hl hn h64 S (Array.Perm.refl _) ?_ rfl
    intro i j hij hj
    have hj2:j < (keys.zip us.toArray).size:=hj
    rw [hzs] at hj2
    rw [List.size_toArray] at h2
    have:i=j:=by omega
    subst this
    exact PyProof.Rows.KeyOrd.kle_refl _
  · rw [if_neg h2,if_neg h2]
    rw [List.size_toArray] at h2
    have hz2:2≤(keys.zip us.toArray).size:=by
      have h3:2≤us.length:=Nat.le_of_not_lt h2
      rw [hzs];omega
    have kk:keyKind' keys=pure oneType':=by
      cases e:keys.toList with
      | nil=>
        have h5:keys.size=0:=by rw [←Array.length_toList,e];rfl
        omega
      | cons v₁ r=>
        cases r with
        | nil=>
          have h5:keys.size=1:=by rw [←Array.length_toList,e];rfl
          omega
        | cons v₂ r=>
          have ek:keys=(v₁ :: v₂ :: r).toArray:=by rw [←e,Array.toArray_toList]
          rw [ek]
          exact hZ.kind v₁ v₂ r fun v hv=>hkey v (by rw [e];exact hv)
    rw [kk]
    refine wpAny_bind (wpAny_pure ?_)
    refine wpAny_bind (wpAny_mono (wpS_sortRunsK (κ:=Z.κ) hZ.one (a₀:=keys.zip us.toArray) (st:=SortSt.mk' oneType' (keys.zip us.toArray) #[] 7 none)
      (Q:=fun _ st'=>(arrOf st').Perm (keys.zip us.toArray)∧failedOf st'=none∧SortedToK Z.κ (arrOf st') (keys.zip us.toArray).size)
      (fun p hp=>?_) ⟨Array.Perm.refl _,rfl,rfl,rfl⟩ hz2 (by rw [hzs];exact h64) fun st' a1 a2 a3=>⟨a1,a2,a3⟩) ?_ fun _ _ e=>e)
    · rw [ksk_zip] at hp
      exact hkey _ (List.of_mem_zip hp).1
    rintro ⟨⟨⟩,st'⟩ s' ⟨rfl,hp,hf,hs⟩
    try dsimp only
    exact sort_tail hna hnk hak ra rv hk hl hn h64 S hp (by rw [hp.size_eq];exact hs) hf
end
end L3
namespace L3
open PySem PySem.Spec L2 PyProof.Rows
variable [L2.TabP]
section
variable {X:Cx} {pins:List (Addr×Obj)} {σ:L2.St} {H:Hp} {s:Shared} {G:Hp→Prop} {mf:MF} {f l:Addr} {k:Nat} {O:Ow} {Z:KO} {ds:List D} {ka:List Z.κ.α} {xs:List V} {E:Value→Shared→Prop}
theorem sort_call (hZ:Z.Ok) (I:Inv X pins σ H s) (dm:Dom O H) (ra:RepAll X.K X.mg O H ds xs) (hS:SqL X.K H l xs) (hC:KeyC X k f G mf) (g0:G H) (hr:Room (k + 2) X.A)
  (hks:∀(i:Nat) (d:D),ds[i]? = some d→∃κ,ka[i]? = some κ∧(mf [d]).run [] = .ok (.v (Z.kd κ)) []) (hlen:ka.length=ds.length) (hn:ka.Nodup) (h64:ds.length < 64) :
  wpAny (model X.prog X.w) X.A (call (.builtin "sorted") [.ref l] [(Str.ofString "key",.ref f)]) (fun u s'=>∃a,u = .ref a∧H a=none∧SortQ X pins σ O H a ((sortB Z.κ.blt (ka.zip ds)).map (·.2)) s') E s:=by
 obtain ⟨us,rv,pl,_⟩:=I.list hS
 have hl:s.heap.IsList l us.toArray:=pl.isList
 have lu:us.length=ds.length:=by rw [←rv.length,ra.len]
 have fr1:H (s.heap.objs.size + 1)=none:=I.hok.fresh (Nat.le_succ _)
 refine call_function_entry_kw kind_sorted plain_sorted entry_sorted (ksk_s1 _ _) ?_
 unfold Builtin.«sorted»
 refine wpAny_bind (m:=checkCount "sorted" 1 1 _) (wpAny_pure ?_)
 refine wpAny_bind (collect_list hl ?_ (by rw [sizeLine_eq];omega))
 refine wpAny_bind (wpAny_newList ?_ (by rw [sizeLine_eq];omega))
 have hsz:((s.heap.push (seqObj "list" #[] 0)).update s.heap.objs.size (Obj.mapSeq (· ++ us.toArray))).objs.size=s.heap.objs.size + 1:=by
  rw [Heap.size_update,size_push']
 have hoL:(((s.heap.push (seqObj "list" #[] 0)).update s.heap.objs.size (Obj.mapSeq (· ++ us.toArray))).push (seqObj "list" us.toArray 0)).get? (s.heap.objs.size + 1)=some (seqObj "list" us.toArray 0):=by
  rw [←hsz];exact Heap.get?_push_size _ rfl
 have keep:∀b o,s.heap.get? b=some o→(((s.heap.push (seqObj "list" #[] 0)).update s.heap.objs.size (Obj.mapSeq (· ++ us.toArray))).push (seqObj "list" us.toArray 0)).get? b=some o:=fun b o q=>by
  have hlt:b < s.heap.objs.size:=Heap.lt_size q
  rw [Heap.get?_push_ne _ _ _ (by rw [hsz];exact Nat.ne_of_lt (Nat.lt_succ_of_lt hlt)),Heap.get?_update_ne _ _ _ _ (Nat.ne_of_lt hlt),Heap.get?_push_ne _ _ _ (Nat.ne_of_lt hlt)]
  exact q
 have I1:Inv X pins σ (upd H (s.heap.objs.size + 1) (.lst xs)) { s with heap:=((s.heap.push (seqObj "list" #[] 0)).update s.heap.objs.size (Obj.mapSeq (· ++ us.toArray))).push (seqObj "list" us.toArray 0) }:=
  I.laid (t':=s.toks) keep (Nat.le_succ _) ⟨by rw [ra.len,sizeLine_eq];omega,us,0,rv,hoL⟩
 have go1:Go O O H (upd H (s.heap.objs.size + 1) (.lst xs)):=Go.new0 fr1
 have dm1:Dom O (upd H (s.heap.objs.size + 1) (.lst xs)):=dm.same go1.same
 show wpAny _ _ _ _ _ { s with heap:=((s.heap.push (seqObj "list" #[] 0)).update s.heap.objs.size (Obj.mapSeq (· ++ us.toArray))).push (seqObj "list" us.toArray 0) }
 rw [hsz]
 refine wpAny_bind (wpAny_holding (wpAny_call_entry_kw slot_list_sort ⟨_,hoL,rfl⟩ entry_list_sort ?body (ksk_l1 _ _)))
 case body=>
  show wpAny (model X.prog X.w) X.A.in1.in1 (Builtin.«list.sort» ⟨[.ref (s.heap.objs.size + 1)],[(Str.ofString "key",.ref f)]⟩) _ _ _
  rw [ksk_t1]
  generalize hA:s.heap.objs.size + 1=a at *
  generalize ((s.heap.push (seqObj "list" #[] 0)).update s.heap.objs.size (Obj.mapSeq (· ++ us.toArray))).push (seqObj "list" us.toArray 0)=h1 at *
  have s1:=Heap.SameBut.update h1 a (Obj.mapSeq fun _=>(#[]:Array Value))
  obtain ⟨e1,ho1⟩:∃e1,(h1.update a (Obj.mapSeq fun _=>(#[]:Array Value))).get? a=some (seqObj "list" #[] e1):=⟨_,get?_update_seq hoL fun _=>#[]⟩
  have I2:Inv X pins σ (upd (upd H a (.lst xs)) a (.ext (lstP a e1))) { s with heap:=h1.update a (Obj.mapSeq fun _=>(#[]:Array Value)) }:=
   I1.write (x:=a) (e:=a) (t':=s.toks) (by rw [upd_same];trivial) (.inl rfl) (fun b o hb e=>(s1.2 b hb).trans e) ⟨_,ho1⟩ (lst_ext ho1)
  rw [upd_upd] at I2
  unfold ksk_tree
  refine wpAny_bind (listItems_at hoL rfl ?_)
  refine wpAny_bind (listUpdate_at hoL rfl ?_ (by rw [List.size_toArray,sizeLine_eq];omega) (Nat.zero_le _))
  refine wpAny_bind (seqEpoch_at ho1 rfl ?_)
  refine wpAny_bind (wpAny_newTuple ?_ (by show us.length≤_;rw [sizeLine_eq];omega))
  refine wpAny_bind (wpAny_newList ?_ (Nat.zero_le _))
  refine wpAny_holding ?_
  have I3:Inv X pins σ (upd H a (.ext (lstP a e1))) { s with heap:=(h1.update a (Obj.mapSeq fun _=>(#[]:Array Value))).push (seqObj "tuple" us.toArray 0) }:=
   I2.kept (t':=s.toks) fun b o e=>Heap.get?_push_of_some _ e
  generalize hh2:(h1.update a (Obj.mapSeq fun _=>(#[]:Array Value))).push (seqObj "tuple" us.toArray 0)=h2 at *
  have frk:upd H a (.ext (lstP a e1)) h2.objs.size=none:=I3.hok.fresh (Nat.le_refl _)
  have nek:h2.objs.size≠a:=by
   intro z
   rw [z,upd_same] at frk
   cases frk
  have hnk:H h2.objs.size=none:=by rw [upd_ne nek] at frk;exact frk
  have I4:Inv X pins σ (upd (upd H a (.ext (lstP a e1))) h2.objs.size (.lst [])) { s with heap:=h2.push (seqObj "list" #[] 0) }:=
   I3.laid (t':=s.toks) (fun b o e=>Heap.get?_push_of_some _ e) (Nat.le_refl _) ⟨Nat.zero_le _,[],0,.nil,Heap.get?_push_size _ rfl⟩
  have go4:Go O (updO O h2.objs.size .tmp) H (upd (upd H a (.ext (lstP a e1))) h2.objs.size (.lst [])):=(Go.new0 fr1).trans (Go.new frk)
  have dm4:Dom (updO O h2.objs.size .tmp) (upd (upd H a (.ext (lstP a e1))) h2.objs.size (.lst [])):=(dm.same (Go.new0 (O:=O) fr1).same).new frk
  have S0:KSt X pins σ G O H a h2.objs.size e1 [] { s with heap:=h2.push (seqObj "list" #[] 0) }:=
   ⟨updO O h2.objs.size .tmp,_,[],I4,go4,dm4,hC.1 _ _ go4.same g0,by rw [upd_ne nek.symm];exact upd_same,upd_same,rfl,updO_same⟩
  refine wpAny_mono (sort_rest (E:=E) hZ hC (hr.in1.in1) fr1 hnk nek ra rv hks hlen h64 S0 fun s' keys S' hkk=>sort_end hZ fr1 hnk nek ra rv hkk hlen hn h64 S') (fun r s' hq=>?_) fun _ _ e=>e
  obtain ⟨rfl,hq⟩:=hq
  exact ⟨_,rfl,wpAny_pure ⟨_,rfl,a,rfl,fr1,hq⟩⟩
end
end L3
namespace L3
open PySem PySem.Spec L2 PyProof.Rows
variable [L2.TabP]
structure Lm (K:PySem.W.Frag) (c P:Addr) (q:Str):Prop where
 hd:∀h,K.In h→PySem.W.CodeHd h c P
 tp:TabP.tp P
 ql:TabP.ql P=q
structure Bm (base:Heap) (mg:Str→Option Value):Prop where
 ex:∃bm o,mg (Str.ofString "__builtins__")=some (Value.ref bm)∧bm≠builtinsNs∧bm≠mainGlobals∧base.get? bm=some o∧o.cls=Value.type "module"∧o.dict=some builtinsNs∧o.data=Data.plain
def obP (f:Addr) (ob:Obj):Heap→Prop:=fun h=>h.get? f=some ob
def LamG (f c:Addr) (q:Str) (ob:Obj):Hp→Prop:=fun H=>H f=some (.ext (obP f ob))∧H c=some (.ext (cdP c q))
theorem LamG.mono {f c:Addr} {q:Str} {ob:Obj} (H H':Hp) (s:Same H H') (g:LamG f c q ob H):LamG f c q ob H':=⟨s.at' _ _ g.1,s.at' _ _ g.2⟩
theorem LamG.upd {f c:Addr} {q:Str} {ob:Obj} (H:Hp) (p:Addr) (zs:List V) (o:HO) (h:H p=some (.lst zs)) (g:LamG f c q ob H):LamG f c q ob (upd H p o):=
 ⟨by rw [upd_ne (by rintro rfl;have:=g.1;rw [h] at this;cases this)];exact g.1,by rw [upd_ne (by rintro rfl;have:=g.2;rw [h] at this;cases this)];exact g.2⟩
theorem fn_body {K:PySem.W.Frag} {mg:Str→Option Value} {N ps:List Str} {m:ME} {vs:List V} {H:Hp} {Q:VK} (h:spF K mg (fnOf ps.length N.length (cRet m)) vs H Q E0):teOf K mg m (L2.start N vs) H Q:=by
 obtain ⟨O,ds,r,S',dm,ar,h,q⟩:=h
 have hl:=fnOf_len h
 have hlv:=ar.len
 unfold fnOf at h
 rw [if_pos hl] at h
 obtain ⟨fl,S1,h1,h⟩:=M.inv h
 have st0:S3 K mg (blk O) (ds.map slotOf ++ List.replicate (N.length - ps.length) .emp) [] (L2.start N vs) H:=by
  refine ⟨⟨fun a ha=>dm.has a fun z=>ha (blk_free.mpr z),dm.tabs⟩,?_,fun i s e=>?_,rfl⟩
  ·unfold L2.start
   rw [List.length_append,List.length_append,List.length_map,List.length_map,List.length_replicate,List.length_replicate,hlv,hl]
  ·by_cases hi:i < ds.length
   ·rw [List.getElem?_append_left (by rw [List.length_map];exact hi),List.getElem?_map] at e
    cases ed:ds[i]? with
    | none=>rw [ed] at e;cases e
    | some d=>
     rw [ed] at e
     cases e
     obtain ⟨v,ev,rv⟩:=ar.get ed
     unfold L2.start
     rw [List.getElem?_append_left (by rw [List.length_map,hlv];exact hi),List.getElem?_map,ev]
     exact slot_arg rv
   ·rw [List.getElem?_append_right (by rw [List.length_map];omega),List.getElem?_replicate] at e
    split at e
    ·cases e;exact trivial
    ·cases e
 obtain ⟨r0,S2,h2,h3⟩:=M.inv h1
 refine ⟨blk O,_,[],r0,S2,st0,h2,fun O' v H' g st' rr nn=>?_⟩
 let O2:Ow:=fun b=>match H b with | some _=>O b | none=>O' b
 have o2o:∀b,H b≠none→O2 b=O b:=fun b hb=>by
  show (match H b with | some _=>O b | none=>O' b)=O b
  cases e:H b with
  | none=>exact absurd e hb
  | some o=>rfl
 have o2n:∀b,H b=none→O2 b=O' b:=fun b hb=>by
  show (match H b with | some _=>O b | none=>O' b)=O' b
  rw [hb]
 have fre:Fre O' O2:=⟨fun b hb=>by
  by_cases hn:H b=none
  ·rw [o2n b hn];exact hb
  ·rw [o2o b hn];exact blk_free.mp ((g.own b hn).symm.trans hb)⟩
 have go:Go O O2 H H':=⟨g.same,fun b hb=>o2o b hb⟩
 have dom:Dom O2 H':=⟨fun b hb=>by
  by_cases hn:H b=none
  ·rw [o2n b hn] at hb;exact st'.dom.has b hb
  ·exact g.same.some hn,st'.dom.tabs⟩
 cases r0 with
 | v d=>
  cases h3
  cases h
  exact q O2 v H' go dom st'.emp (Rep.fre fre rr) trivial
 | fr zs=>
  cases h3
  cases h
  obtain ⟨a,ys,rfl,l,t,ra⟩:=rr
  have hn:=nn a rfl
  exact q O2 _ H' go dom st'.emp ⟨a,ys,rfl,l,(o2n a hn).trans t,ra.fre fre⟩ nn
 | vw zs=>cases h3
 | mv zs=>cases h3
 | dv zs=>cases h3
section
variable {X:Cx} {k:Nat} {f c:Addr} {name q:Str} {params:Arguments} {body:Expr} {scope:Scope} {pm ctv:Value} {N ps:List Str} {m:ME}
theorem lam_key {p1:Str} (Sc:FnScope N [p1] scope) (hbind:∀(u:Value),bindArgs (PySem.W.kla_fn name q params body scope [] pm (.ref c) ctv) ⟨[u],[]⟩=pure [(p1,u)])
  (hb:∀(A:Around) (s:Shared) (H:Hp),Room k (A.deeper (envOfC q scope s.heap.objs.size f (.ref c)))→CE (cxOf CX0 X.prog X.w X.K X.mg X.base N q scope f (.ref c) A X.stack s H E0).nox body m) :
  KeyC X (k + 1) f (LamG f c q (PySem.W.kla_obj name q params body scope [] pm c ctv)) (fnOf 1 N.length (cRet m)):=by
 refine ⟨LamG.mono,LamG.upd,fun A s H u v Q hr e0 g ru hsp=>?_⟩
 obtain ⟨g1,_⟩:=e0.hok f _ g.1
 obtain ⟨g2,_⟩:=e0.hok c _ g.2
 have lim:s.heap.NoLimit:=e0.mod.nolimit.keeps fun b o e=>(e0.bs b o e).1
 have hkind:∀y∈[p1].zip [u],scope.names.lookup y.1=some .local∨(scope.names.lookup y.1=some .cell∧((cellsFrom (s.heap.objs.size + 1) scope.names []).lookup y.1).isSome=true):=fun zz0 hy=>by
  obtain ⟨n,v⟩:=zz0
  rcases Sc.par n (List.of_mem_zip hy).1 with q | q
  ·exact .inl q
  ·exact .inr ⟨q,PySem.W.cellsFrom_some _ _ _ (.inl q)⟩
 refine PySem.W.kla_callFunE hr.depth g1 rfl Sc.co Sc.gen rfl g2 ?_
 rw [hbind]
 refine wpAny_pure ?_
 refine wpAny_newFunctionEnv_cells Sc.kind hkind fun env he s1 x=>?_
 subst he
 refine ⟨lim.keeps x.toInCall.keep,PySem.W.kla_codeExpr ?_⟩
 have I:Inv (cxOf CX0 X.prog X.w X.K X.mg X.base N q scope f (.ref c) A X.stack s H E0) [] (L2.start N [v]) H s1:=inv_start Sc hr.hd e0 rfl (.cons ru .nil) x
 refine wpAny_mono ((PE.nox (hb A s H (hr.deeper _))) [] s1 (L2.start N [v]) H _ I (fn_body (ps:=[p1]) hsp)) (fun u' s' hs=>?_) fun e s' hs=>hs
 obtain ⟨v',H',J,rv,q'⟩:=hs
 exact ⟨v',H',J.os,J.bare,J.base,J.hok,rv,q'⟩
end
end L3
namespace L3
open PySem PySem.Spec L2 PyProof.Rows
theorem triples_snoc {a b:Int} {c:Value}:∀l:List Value,TriplesOk l→TriplesOk (l ++ [rawInt a,rawInt b,c])
 | [],_=>trivial
 | .int _ _ :: .int _ _ :: _ :: rest,h=>triples_snoc rest h
theorem among_snoc {pos pos':Pos} {c cv:Value}:∀l:List Value,TriplesOk l→codeAmong pos' (l ++ [rawInt pos.line,rawInt pos.col,c])=some cv→codeAmong pos' l=some cv∨cv=c
 | [],_,h=>by
  right
  have h:(if ((pos.line:Int) == pos'.line && (pos.col:Int) == pos'.col)=true then some c else none)=some cv:=h
  split at h
  ·cases h;rfl
  ·cases h
 | .int a _ :: .int b _ :: d :: rest,t,h=>by
  have h:(if (a == pos'.line && b == pos'.col)=true then some d else codeAmong pos' (rest ++ [rawInt pos.line,rawInt pos.col,c]))=some cv:=h
  show (if (a == pos'.line && b == pos'.col)=true then some d else codeAmong pos' rest)=some cv∨_
  split at h
  ·rename_i hc;rw [if_pos hc];exact .inl h
  ·rename_i hc;rw [if_neg hc];exact among_snoc rest t h
variable [L2.TabP]
section
variable {X:Cx} {pins:List (Addr×Obj)} {σ:L2.St} {H:Hp} {s:Shared} {O:Ow} {c P:Addr} {q:Str} {params:Arguments} {body:Expr} {scope:Scope} {pos:Pos}
theorem lam_eval (I:Inv X pins σ H s) (dm:Dom O H) (L:Lm X.K c P q) (B:Bm X.base X.mg) (hcode:X.env.code = .ref c) (hq:X.env.qual ++ Str.ofString "<lambda>"=q) (hdef:defaultsOf params X.env=([],[])) (hcl:closureFor scope X.env=pure []) :
  wpAny (model X.prog X.w) X.A (eval (.Lambda params body scope pos) X.env) (fun u s'=>∃(f c':Addr) (pm ctv:Value) (H':Hp),u = .ref f∧Inv X pins σ H' s'∧Go O O H H'∧Dom O H'∧LamG f c' q (PySem.W.kla_obj (Str.ofString "<lambda>") q params body scope [] pm c' ctv) H') X.xe s:=by
 obtain ⟨ps,hP,tr,cod⟩:=dm.tabs P L.tp
 rw [L.ql] at cod
 have gP:s.heap.get? P=some (PySem.W.tabObj ps):=I.hok P _ hP
 have base0:∀b o,X.base.get? b=some o→b≠P:=fun b o e z=>by
  subst z
  have:=(I.bs b o e).2
  rw [hP] at this;cases this
 have hG:s.heap.Ns mainGlobals X.mg:=I.mod.glob.keeps I.bk
 have hgP:mainGlobals≠P:=by
  obtain ⟨o,es,ep,e,_⟩:=I.mod.glob
  exact base0 _ _ e
 have hB:s.heap.BuiltinsAt X.mg P:=by
  obtain ⟨bm,o,b1,b2,b3,b4,b5⟩:=B.ex
  exact ⟨bm,o,b1,b2,b3,base0 _ _ b4,I.bk _ _ b4,b5⟩
 have C:=L.hd _ I.kIn
 refine PySem.W.kla_eval hdef ?_
 rw [hq]
 cases ec:codeAmong pos ps.toList with
 | some cv=>
  obtain ⟨c',rfl,hc'⟩:=cod pos cv ec
  refine PySem.W.kla_makeFunctionHit hcl I.ok.glob hG hcode C gP tr ec hB fun ctv h' tk hk hsz=>?_
  have hn:H h'.objs.size=none:=I.hok.fresh hsz
  have go:Go O O H (upd H h'.objs.size (.ext (obP h'.objs.size (PySem.W.kla_obj (Str.ofString "<lambda>") q params body scope [] ((X.mg (Str.ofString "__name__")).getD .none) c' ctv)))):=Go.new0 hn
  refine ⟨h'.objs.size,c',_,ctv,_,rfl,I.laid (t':=tk) (fun b o e=>Heap.get?_push_of_some _ (hk b o e)) hsz ?_,go,dm.same go.same,upd_same,go.same.at' _ _ hc'⟩
  exact ⟨Heap.get?_push_size _ rfl,⟨_,Heap.get?_push_size _ rfl⟩,fun h1 h2 p r=>r _ p⟩
 | none=>
  refine PySem.W.kla_makeFunction hcl I.ok.glob hG hcode C gP tr ec hgP hB fun c' ctv h' tk hx hge hlt hrec htb=>?_
  have hnc:H c'=none:=I.hok.fresh hge
  have neP:c'≠P:=(ne_of_none hP hnc).symm
  let ps':=ps ++ #[rawInt pos.line,rawInt pos.col,.ref c']
  let H1:=upd (upd H P (.tbl ps')) c' (.ext (cdP c' q))
  have at1:∀{b:Addr},b≠P→b≠c'→H1 b=H b:=fun h1 h2=>by show upd _ _ _ _=_;rw [upd_ne h2,upd_ne h1]
  have atP:H1 P=some (.tbl ps'):=by show upd _ _ _ _=_;rw [upd_ne neP.symm];exact upd_same
  have atc:H1 c'=some (.ext (cdP c' q)):=upd_same
  have neo:∀{b:Addr} {o:Obj},s.heap.get? b=some o→b≠c':=fun e=>Nat.ne_of_lt (Nat.lt_of_lt_of_le (Heap.lt_size e) hge)
  have neH:∀{b:Addr} {o:HO},H b=some o→b≠c':=fun e=>ne_of_none e hnc
  have un:Un X.fs [] H H1 s.heap h':=by
   refine ⟨fun b o e n _ _=>hx b o (by rintro rfl;rw [hP] at n;cases n) e,fun b o e n _ _=>⟨o.slots,hx b o (by rintro rfl;rw [hP] at n;cases n) e⟩,
    fun b o e n _=>by rw [at1 (by rintro rfl;rw [hP] at n;cases n) (neo e)];exact n,fun b o e _=>?_,fun b xs e=>?_,fun b o u e=>?_,fun b zs e=>?_⟩
   ·by_cases hb:b=P
    ·rw [hb];exact ⟨_,htb⟩
    ·exact ⟨o,hx b o hb e⟩
   ·rw [at1 (by rintro rfl;rw [hP] at e;cases e) (neH e)];exact e
   ·rw [at1 (by rintro rfl;rw [hP] at e;cases e) (neH e)];exact e
   ·by_cases hb:b=P
    ·subst hb
     rw [hP] at e;cases e
     exact ⟨_,atP⟩
    ·exact ⟨#[],by rw [at1 hb (neH e),e];simp⟩
  have hok:HOk X.prog X.w H1 h':=fun b u e=>by
   by_cases h1:b=c'
   ·subst h1
    rw [atc] at e;cases e
    obtain ⟨c2,oc,vs,t,z1,z2,z3,z4⟩:=hrec
    cases z1
    exact ⟨⟨_,oc,vs,t,rfl,z2,z3,z4⟩,⟨_,z2⟩,fun h1 h2 zz0 r=>by obtain ⟨c3,oc3,vs3,t3,y1,y2,y3,y4⟩:=zz0;cases y1;exact ⟨_,oc3,vs3,t3,rfl,r _ y2,y3,y4⟩⟩
   ·by_cases h2:b=P
    ·subst h2
     rw [atP] at e;cases e
     exact htb
    ·rw [at1 h2 h1] at e
     refine (I.hok b u e).stay (fun d o hd eo=>hx d o (fun z=>?_) eo) (fun d ed=>?_) fun d xs ed=>?_
     ·rcases hd with rfl | hd
      ·exact h2 z
      ·rw [z,hP] at hd;cases hd
     ·rw [at1 (by rintro rfl;rw [hP] at ed;cases ed) (neH ed)];exact ed
     ·rw [at1 (by rintro rfl;rw [hP] at ed;cases ed) (neH ed)];exact ed
  have I1:Inv X pins σ H1 { s with heap:=h',toks:=tk }:=I.un (t':=tk) un hok
  have hn:H1 h'.objs.size=none:=hok.fresh (Nat.le_refl _)
  have same1:Same H H1:=by
   refine ⟨fun b o e n=>by rw [at1 (by rintro rfl;rw [hP] at e;cases e;exact n) (neH e)];exact e,fun b zs e=>?_,fun g P' hP'=>?_⟩
   ·by_cases hb:b=P
    ·exact ⟨ps',by rw [hb];exact atP⟩
    ·exact ⟨zs,by rw [at1 hb (neH e)];exact e⟩
   ·obtain ⟨zs,e1,e2,e3⟩:=g P' hP'
    by_cases hb:P'=P
    ·subst hb
     refine ⟨ps',atP,?_,fun pos' cv hcv=>?_⟩
     ·show TriplesOk (ps ++ #[rawInt pos.line,rawInt pos.col,.ref c']).toList
      rw [Array.toList_append]
      exact triples_snoc _ tr
     ·have hcv:codeAmong pos' (ps ++ #[rawInt pos.line,rawInt pos.col,.ref c']).toList=some cv:=hcv
      rw [Array.toList_append] at hcv
      rw [L.ql]
      rcases among_snoc _ tr hcv with h | h
      ·obtain ⟨c2,rfl,h2⟩:=cod pos' cv h
       exact ⟨c2,rfl,by rw [at1 (by rintro rfl;rw [hP] at h2;cases h2) (neH h2)];exact h2⟩
      ·exact ⟨c',h,atc⟩
    ·refine ⟨zs,by rw [at1 hb (neH e1)];exact e1,e2,fun pos' cv hcv=>?_⟩
     obtain ⟨c2,h1,h2⟩:=e3 pos' cv hcv
     exact ⟨c2,h1,by rw [at1 (by rintro rfl;rw [hP] at h2;cases h2) (neH h2)];exact h2⟩
  have go:Go O O H (upd H1 h'.objs.size (.ext (obP h'.objs.size (PySem.W.kla_obj (Str.ofString "<lambda>") q params body scope [] ((X.mg (Str.ofString "__name__")).getD .none) c' ctv)))):=(⟨same1,fun _ _=>rfl⟩:Go O O H H1).trans (Go.new0 hn)
  refine ⟨h'.objs.size,c',_,ctv,_,rfl,I1.laid (t':=tk) (fun b o e=>Heap.get?_push_of_some _ e) (Nat.le_refl _) ?_,go,dm.same go.same,upd_same,(same_new hn _).at' _ _ atc⟩
  exact ⟨Heap.get?_push_size _ rfl,⟨_,Heap.get?_push_size _ rfl⟩,fun h1 h2 p r=>r _ p⟩
end
end L3
namespace L3
open PySem PySem.Spec L2 PyProof.Rows
theorem bt_sorted:bootBuiltins "sorted"=some (.builtin "sorted"):=by decide +kernel
def keyAt (Z:KO) (mf:MF) (d:D):Option Z.κ.α:=match (mf [d]).run [] with
 | .ok (.v x) []=>Z.un x
 | _=>none
def keysOf (Z:KO) (mf:MF):List D→Option (List Z.κ.α)
 | []=>some []
 | d :: ds=>match keyAt Z mf d,keysOf Z mf ds with
  | some a,some as=>some (a :: as)
  | _,_=>none
def apartK {α:Type} (blt:α→α→Bool):List α→Bool
 | []=>true
 | a :: r=>r.all (fun b=>blt a b || blt b a) && apartK blt r
def fSortK (Z:KO) (mf:MF) (x:R):M R:=match x.lis with
 | some ds=>match keysOf Z mf ds with
  | some ka=>if apartK Z.κ.blt ka=true∧ds.length < 64 then pure (.fr ((sortB Z.κ.blt (ka.zip ds)).map (·.2))) else bad
  | none=>bad
 | none=>bad
def cSortK (Z:KO) (mf:MF) (ma:ME):ME:=fun σ=>do
 let x ←ma σ
 fSortK Z mf x
theorem keysOf_spec {Z:KO} {mf:MF} (un_kd:∀d a,Z.un d=some a→d=Z.kd a):∀{ds:List D} {ka:List Z.κ.α},keysOf Z mf ds=some ka→ka.length=ds.length∧∀(i:Nat) (d:D),ds[i]? = some d→∃κ,ka[i]? = some κ∧(mf [d]).run [] = .ok (.v (Z.kd κ)) []
 | [],ka,h=>by cases h;exact ⟨rfl,fun i d h=>by simp at h⟩
 | d :: ds,ka,h=>by
  unfold keysOf at h
  split at h
  ·rename_i a as h1 h2
   cases h
   obtain ⟨l,r⟩:=keysOf_spec un_kd h2
   refine ⟨by rw [List.length_cons,List.length_cons,l],fun i e he=>?_⟩
   cases i with
   | zero=>
    cases (show some d=some e from he)
    refine ⟨a,rfl,?_⟩
    unfold keyAt at h1
    split at h1
    ·rename_i x hx
     rw [hx,un_kd x a h1]
    ·cases h1
   | succ i=>
    obtain ⟨κ,e1,e2⟩:=r i e (by simpa using he)
    exact ⟨κ,by simpa using e1,e2⟩
  ·cases h
theorem apartK_nodup (Q:PyProof.Rows.KeyOrd):∀{l:List Q.α},apartK Q.blt l=true→l.Nodup
 | [],_=>.nil
 | a :: r,h=>by
  unfold apartK at h
  rw [Bool.and_eq_true,List.all_eq_true] at h
  rw [List.nodup_cons]
  refine ⟨fun hm=>?_,apartK_nodup Q h.2⟩
  have:=h.1 a hm
  rw [Q.irrefl] at this
  cases this
variable [L2.TabP]
section
variable {X:Cx} {k:Nat} {e:Expr} {ma:ME} {Z:KO} {p pos kp:Pos} {kx:Expr} {mf:MF} {G:Addr→Hp→Prop}
theorem ce_sort (hZ:Z.Ok) (hg:Gl X "sorted") (hm:X.mg "sorted"=none) (hr:Room (k + 2) X.A) (ha:CE X e ma)
  (KX:∀(pins:List (Addr×Obj)) (s:Shared) (σ:L2.St) (O:Ow) (H:Hp),Inv X pins σ H s→Dom O H→
   wpAny (model X.prog X.w) X.A (eval kx X.env) (fun u s'=>∃(f:Addr) (H':Hp) (G:Hp→Prop),u = .ref f∧Inv X pins σ H' s'∧Go O O H H'∧Dom O H'∧G H'∧KeyC X k f G mf) X.xe s)
  (he:backTo pos (starEach [e] X.env)=(false,eval e X.env) :: backTo pos (starEach [] X.env):=by rfl)
  (hs:starEach [e] X.env=(false,eval e X.env) :: starEach [] X.env:=by rfl)
  (hplain:(backTo pos (starEach [e] X.env)).any (·.1)=false:=by rfl) :
  CE X (.Call (.Name "sorted" p) [e] [⟨some (Str.ofString "key"),kx,kp⟩] pos) (cSortK Z mf ma):=by
 rintro pins s σ H Q I ⟨O,σE,S,r,S',st,h,q⟩
 obtain ⟨x,S1,h1,h⟩:=M.inv h
 obtain ⟨ds,ka,hds,hka,hap,h64,rfl,rfl⟩:∃ds ka,x.lis=some ds∧keysOf Z mf ds=some ka∧apartK Z.κ.blt ka=true∧ds.length < 64∧r = .fr ((sortB Z.κ.blt (ka.zip ds)).map (·.2))∧S1=S':=by
  unfold fSortK at h
  split at h
  ·rename_i ds e1
   split at h
   ·rename_i ka e2
    by_cases c:apartK Z.κ.blt ka=true∧ds.length < 64
    ·rw [if_pos c] at h
     cases h
     exact ⟨ds,ka,e1,e2,c.1,c.2,rfl,rfl⟩
    ·rw [if_neg c] at h;cases h
   ·cases h
  ·cases h
 obtain ⟨hlen,hks⟩:=keysOf_spec hZ.un_kd hka
 refine wpAny_Call_Name_kw (ld_blt I hg hm bt_sorted ?_)
 refine callWith_kw ?_ he hplain rfl rfl
 refine thn ((pa_cons ha pa_nil hs) pos pins s σ H (fun vs H1=>∃v O1,vs=[v]∧Go O O1 H H1∧S3 X.K X.mg O1 σE S1 σ H1∧RepR X.K X.mg O1 H1 x v) I ⟨O,σE,S,x,S1,st,h1,fun O1 v H1 g1 st1 rr nn=>⟨v,O1,rfl,g1,st1,rr⟩⟩) fun us s1 zz0=>?_
 obtain ⟨vs,H1,I1,r1,v,O1,ev,g1,st1,rr⟩:=zz0
 subst ev
 obtain ⟨l,ys,rfl,hl,ra⟩:=R.lis_rep rr hds
 obtain ⟨u,rfl,ru⟩:=vals1 r1
 cases ru
 refine wpAny_evalAll_cons (wpAny_bind (thn (KX pins s1 σ O1 H1 I1 st1.dom) fun u s2 hk=>wpAny_bind (wpAny_standAt (wpAny_pure ?_))))
 obtain ⟨f,H2,G,rfl,I2,g2,d2,gG,hC⟩:=hk
 refine wpAny_evalAll_nil ?_
 show wpAny _ _ (call (.builtin "sorted") [.ref l] [(Str.ofString "key",.ref f)]) _ _ _
 refine thn (sort_call hZ I2 d2 (ra.go g2) (g2.same.seq hl) hC gG hr hks hlen (apartK_nodup Z.κ.toKeyOrd hap) h64) fun u s3 zz0=>?_
 obtain ⟨a,eu,hna,O3,H3,zs,I3,g3,d3,ha3,ot3,ra3⟩:=zz0
 subst eu
 refine ⟨.ref a,H3,I3,rfl,q O3 _ H3 (g1.trans (g2.trans g3)) (st1.go (g2.trans g3) d3) ⟨a,zs,rfl,ha3,ot3,ra3⟩ fun b eb=>?_⟩
 cases eb
 exact (g1.trans g2).same.free hna
theorem ce_sortL {c P:Addr} {q p1:Str} {params:Arguments} {body:Expr} {scope:Scope} {lp:Pos} {N:List Str} {m:ME} (hZ:Z.Ok) (hg:Gl X "sorted") (hm:X.mg "sorted"=none) (hr:Room (k + 3) X.A) (L:Lm X.K c P q) (B:Bm X.base X.mg) (hcode:X.env.code = .ref c)
  (hq:X.env.qual ++ Str.ofString "<lambda>"=q) (Sc:FnScope N [p1] scope)
  (hbind:∀(c:Addr) (pm ctv u:Value),bindArgs (PySem.W.kla_fn (Str.ofString "<lambda>") q params body scope [] pm (.ref c) ctv) ⟨[u],[]⟩=pure [(p1,u)])
  (hb:∀(f c:Addr) (A:Around) (s:Shared) (H:Hp),Room k (A.deeper (envOfC q scope s.heap.objs.size f (.ref c)))→CE (cxOf CX0 X.prog X.w X.K X.mg X.base N q scope f (.ref c) A X.stack s H E0).nox body m)
  (ha:CE X e ma) (hdef:defaultsOf params X.env=([],[]):=by rfl) (hcl:closureFor scope X.env=pure []:=by rfl)
  (he:backTo pos (starEach [e] X.env)=(false,eval e X.env) :: backTo pos (starEach [] X.env):=by rfl)
  (hs:starEach [e] X.env=(false,eval e X.env) :: starEach [] X.env:=by rfl)
  (hplain:(backTo pos (starEach [e] X.env)).any (·.1)=false:=by rfl) :
  CE X (.Call (.Name "sorted" p) [e] [⟨some (Str.ofString "key"),.Lambda params body scope lp,kp⟩] pos) (cSortK Z (fnOf 1 N.length (cRet m)) ma):=
 ce_sort (k:=k + 1) hZ hg hm hr ha (fun pins s σ O H I dm=>thn (lam_eval I dm L B hcode hq hdef hcl) fun u s' ⟨f,c',pm,ctv,H',eu,I',g',d',G'⟩=>
  ⟨f,H',_,eu,I',g',d',G',lam_key Sc (hbind c' pm ctv) (hb f c')⟩) he hs hplain
end
theorem has_ofL {P:Program} {w:World} {K:PySem.W.Frag} {mg:Str→Option Value} {base:Heap} {x:Str} {st:Stmt} {ps N:List Str} {k:Nat} {mb:MS} {n nl:Nat} {c:Addr} (Df:Df K mg x st ps) (hc:∀(f:Addr) (oc:Value) (od:Option Addr) (kV doc pm:Value) (an:Option Addr) (cdv ct:Value) (osl:Array (Option Value)),mg x=some (.ref f)→K.lookup f=some ⟨oc,od,.func (PySem.W.fnOf x x (defArgs st) (defBody st) (defScope st) .none kV doc pm an cdv ct),osl⟩→cdv = .ref c)
  (Sc:FnScope N ps (defScope st)) (hn:ps.length=n) (hl:N.length=nl)
  (hb:∀(f:Addr) (A:Around) (outer:List Env) (s:Shared) (H:Hp) (E:XK),Room k (A.deeper (PyProof.Rows.envOfC x (defScope st) s.heap.objs.size f (.ref c)))→
   CSs (cxOf CX0 P w K mg base N x (defScope st) f (.ref c) A outer s H E).nox (defBody st) mb):Has P w K mg base x ps (k + 1) (spF K mg (fnOf n nl mb)):=by
 obtain ⟨f,fd,F,b,m⟩:=Df.ex
 refine ⟨f,fd,?_,b,F.kp,m⟩
 obtain ⟨oc,od,kV,doc,pm,an,cdv,ct,osl,rfl,lk,hcd⟩:=F.ex
 have e:=hc f oc od kV doc pm an cdv ct osl m lk
 subst e
 subst hn hl
 refine fn_of lk hcd Sc (fun vs H Q E ⟨O,ds,r,S',dm,ar,h,q⟩=>ar.len.trans (fnOf_len h)) fun A outer s H vs Q E hr hsp=>⟨_,(hb f A outer s H E hr).nox,body_read hsp⟩
end L3
namespace L3
open PySem PySem.Spec L2
def oCmpT (g:List Int→List Int→Bool):R→R→M R
 | .v (.tup xs),.v (.tup ys)=>match nums xs,nums ys with
  | some ns,some ms=>pure (.v (.bl (g ns ms)))
  | _,_=>bad
 | _,_=>bad
variable [L2.TabP]
end L3
namespace L3
open PySem PySem.Spec L2 PyProof.Rows
def lamQ (x:Str):Str:=x ++ Str.ofString ".<locals>." ++ Str.ofString "<lambda>"
def isTab (K:PySem.W.Frag) (P:Addr) (x:Str):Bool:=match PySem.W.tabIn K x with
 | some (_,P')=>P' == P
 | none=>false
abbrev tabP (K:PySem.W.Frag) (ln:List Str):TabP:=⟨fun P=>∃x∈ln,∃c,PySem.W.tabIn K x=some (c,P),fun P=>match ln.find? (isTab K P) with
 | some x=>lamQ x
 | none=>""⟩
theorem ql_of {K:PySem.W.Frag} {ln:List Str} {x:Str} {c P:Addr} (hx:x∈ln) (ht:PySem.W.tabIn K x=some (c,P)) (inj:∀y∈ln,isTab K P y=true→y=x):(tabP K ln).ql P=lamQ x:=by
 show (match ln.find? (isTab K P) with | some x=>lamQ x | none=>"")=_
 have hxt:isTab K P x=true:=by unfold isTab;rw [ht];exact beq_self_eq_true P
 cases e:ln.find? (isTab K P) with
 | none=>exact absurd hxt (List.find?_eq_none.mp e x hx)
 | some y=>
  dsimp only
  rw [inj y (List.mem_of_find?_eq_some e) (List.find?_some e)]
theorem tab_mk {K:PySem.W.Frag} {x:Str} {f c P:Addr} {oc oc':Value} {od od':Option Addr} {fd:FuncData} {sl sl':Array (Option Value)} {vs:Array Value} (a:PySem.W.nsIn K mainGlobals x=some (some (.ref f))) (l:K.lookup f=some ⟨oc,od,.func fd,sl⟩) (hc:fd.code = .ref c)
  (d:K.lookup c=some ⟨oc',od',.fields vs,sl'⟩) (e:vs[11]? = some (.ref P)):PySem.W.tabIn K x=some (c,P):=by
 unfold PySem.W.tabIn
 rw [a]
 simp only [l,hc,d,e]
theorem hd_mk {K:PySem.W.Frag} {c P:Addr} {od:Option Addr} {sl:Array (Option Value)} {vs:Array Value} {file:Str} {tf tg tt:Tok} {flags text:Int} {inF:Bool} (d:K.lookup c=some ⟨.type "code",od,.fields vs,sl⟩) (e11:vs[11]? = some (.ref P)) (f11:vs.getD 11 .none = .ref P)
  (f18:vs.getD 18 .none = .str file tf) (f7:vs.getD 7 .none = .int flags tg) (f9:vs.getD 9 .none = .bool inF) (f10:vs.getD 10 .none = .int text tt) (ne:c≠P):∀h,K.In h→PySem.W.CodeHd h c P:=fun h X=>
 ⟨_,vs,file,tf,flags,tg,inF,text,tt,X _ _ d,rfl,rfl,e11,f11,f18,f7,f9,f10,ne⟩
theorem code_mk {K:PySem.W.Frag} {h:Heap} {mg:Str→Option Value} {x:Str} {st:Stmt} {f₀ c:Addr} {oc₀:Value} {od₀:Option Addr} {fd₀:FuncData} {sl₀:Array (Option Value)} (X:K.In h) (G:h.Ns mainGlobals mg) (a:PySem.W.nsIn K mainGlobals x=some (some (.ref f₀))) (l:K.lookup f₀=some ⟨oc₀,od₀,.func fd₀,sl₀⟩) (hc:fd₀.code = .ref c) :
  ∀(f:Addr) (oc:Value) (od:Option Addr) (kV doc pm:Value) (an:Option Addr) (cdv ct:Value) (osl:Array (Option Value)),mg x=some (.ref f)→K.lookup f=some ⟨oc,od,.func (PySem.W.fnOf x x (defArgs st) (defBody st) (defScope st) .none kV doc pm an cdv ct),osl⟩→cdv = .ref c:=by
 intro f oc od kV doc pm an cdv ct osl hm hl
 have e:=PySem.W.mg_of X G a
 rw [hm] at e
 cases e
 rw [l] at hl
 cases hl
 exact hc
theorem all_mkT {l:PySem.W.OpenLaw} {w:World} {K:PySem.W.Frag} {mg:Str→Option Value} {fa:Addr} {k:Nat} {st:Stmt} {mf:MF} [L2.TabP] (hfa:mg "law"=some (.ref fa)) (Dl:Df K mg "law" st ["script"])
  (hb:∀(kV doc pm:Value) (an:Option Addr) (cdv ct v:Value),bindArgs (PySem.W.fnOf "law" "law" (defArgs st) (defBody st) (defScope st) .none kV doc pm an cdv ct) ⟨[v],[]⟩=pure [(("script":Str),v)])
  (ht:∀ns:List Int,ns.length≤63→∃S',(mf [.lst (ns.map D.int)]).run [] = .ok (.v (.bl true)) S')
  (ok:∀(base:Heap),Bm base mg→∀(f:Addr) (fd:FuncData),Fun K "law" "law" st f fd→FnOk l.prog w K mg base CX0 k f fd ["script"] (spF K mg mf)) :
  ∃fd:FuncData,(∀(s:Shared) (v:Value),BindsTo s fd ⟨[v],[]⟩ [("script",v)])∧∀base:Heap,K.In base→base.Ns mainGlobals mg→Bm base mg→FnOk l.prog w K mg base CX0 k fa fd ["script"] (spLaw K):=by
 obtain ⟨f,fd,F,b,m⟩:=Dl.ex
 have e:Value.ref fa=Value.ref f:=Option.some.inj (hfa.symm.trans m)
 cases e
 refine ⟨fd,fun s v=>?_,fun base _ _ bm=>law_of (ok base bm fa fd F) ht⟩
 obtain ⟨oc,od,kV,doc,pm,an,cdv,ct,osl,rfl,lk,hcd⟩:=F.ex
 exact .of_eq (hb kV doc pm an cdv ct v)
theorem law_callT {P:Program} {w:World} {K:PySem.W.Frag} {mg mb:Str→Option Value} {k:Nat} {fa a:Addr} {fd:FuncData} {s₁:Shared} {vs:List Value} {ns:List Int} [L2.TabP]
  (KX:K.In s₁.heap) (hns:s₁.heap.Ns mainGlobals mg) (hb:s₁.heap.Ns builtinsNs mb) (hbb:∀x:Str,x≠"__name__"→mb x=bootBuiltins x) (hlim:s₁.heap.NoLimit) (hg:s₁.gens=#[])
  (ha:s₁.heap.get? a=some { cls:=.type "list",data:=.seq vs.toArray }) (hi:IntsAre vs ns) (hl:ns.length≤63) (hr:Room k callerA)
  (hbm:Bm s₁.heap mg) (F:∀base:Heap,K.In base→base.Ns mainGlobals mg→Bm base mg→FnOk P w K mg base CX0 k fa fd ["script"] (spLaw K)) (hbind:∀(s:Shared) (u:Value),BindsTo s fd ⟨[u],[]⟩ [("script",u)])
  (hT:∀p,TabP.tp p→s₁.heap.get? p=some (PySem.W.tabObj #[])∧isCodeTable s₁.heap p∧K.lookup p=none) :
  codeAny (model P w) callerA (.call (.ref fa) ⟨[.ref a],[]⟩) (fun r s'=>r = .ok (.ret (.bool true))∧OldK s₁.heap s'.heap∧s'.os=s₁.os∧AllBare s'.gens) s₁:=by
 have rv:=vals_ints hi
 have lenV:=hi.length
 have hl63:ns.length≤sizeLine:=by rw [sizeLine_eq];omega
 have naT:¬TabP.tp a:=fun z=>by have:=(hT a z).1;rw [ha] at this;cases this
 have core:∀H:Hp,(∀b,H b=none∨(∃o xs,H b=some (.frz o (.lst xs)))∨(TabP.tp b∧H b=some (.tbl #[])))→SqL K H a (ns.map V.int)→TabsOk H→HOk P w H s₁.heap→(∀b,H b≠none→b=a∨TabP.tp b)→(∀b,H b≠none→K.lookup b=none)→
   codeAny (model P w) callerA (.call (.ref fa) ⟨[.ref a],[]⟩) (fun r s'=>r = .ok (.ret (.bool true))∧OldK s₁.heap s'.heap∧s'.os=s₁.os∧AllBare s'.gens) s₁:=by
  intro H hO hS hTb hok hA hK
  have noA:∀{b:Addr} {o:Obj} {es:Array DictEntry} {ep:Nat},s₁.heap.get? b=some o→o.data = .dict es ep→H b=none:=fun {b o es ep} e d=>by
   cases q:H b with
   | none=>rfl
   | some u=>
    rcases hA b (by rw [q];simp) with e' | e'
    ·subst e'
     rw [ha] at e;cases e
     cases d
    ·rw [(hT b e').1] at e;cases e
     cases d
  have nsK:∀{b:Addr} {m:Str→Option Value},s₁.heap.Ns b m→(hidT s₁.heap H).Ns b m:=fun {b m} ⟨o,es,ep,e,d,r⟩=>⟨o,es,ep,hidT_get e (noA e d),d,r⟩
  have hKb:K.In (hidT s₁.heap H):=fun b o e=>hidT_get (KX b o e) (by
   cases q:H b with
   | none=>rfl
   | some u=>rw [hK b (by rw [q];simp)] at e;cases e)
  have hM:Mod K mg (hidT s₁.heap H):=⟨hKb,nsK hns,⟨mb,nsK hb,hbb⟩,let ⟨mc,h1,h2⟩:=hlim;⟨mc,nsK h1,h2⟩⟩
  have e0:Env0 P w K mg (hidT s₁.heap H) callerA [] s₁ H:=⟨rfl,hM,fun b o e=>of_hidT e,Nat.le_of_eq (hidT_size _ _),trivial,fun b hb=>absurd (show b∈([]:List Addr) from hb) (by simp),hok,.of_eq hg⟩
  have hBm:Bm (hidT s₁.heap H) mg:=by
   obtain ⟨bm,o,b1,b2,b3,b4,b5,b6,b7⟩:=hbm.ex
   refine ⟨bm,o,b1,b2,b3,hidT_get b4 ?_,b5,b6,b7⟩
   cases q:H bm with
   | none=>rfl
   | some u=>
    rcases hA bm (by rw [q];simp) with e' | e'
    ·subst e'
     rw [ha] at b4;cases b4
     cases b7
    ·rw [(hT bm e').1] at b4;cases b4
     cases b7
  refine codeAny_mono ((F _ hKb (nsK hns) hBm).run callerA [] s₁ H ⟨[.ref a],[]⟩ [.ref a] [.ref a] (fun v _=>v = .bl true) E0 hr e0 (hbind s₁ (.ref a)) (.cons rfl .nil) ⟨a,ns,rfl,hS,hl,hTb,fun _=>rfl⟩) fun r s' h=>?_
  cases r with
  | error e=>exact False.elim h
  | ok fl=>
   cases fl with
   | next=>exact False.elim h
   | brk=>exact False.elim h
   | cont=>exact False.elim h
   | ret u=>
    obtain ⟨v,H',os,bare,un,hok',r',q⟩:=h
    have q':v = .bl true:=q
    subst q'
    obtain rfl:u=Value.bool true:=r'
    have each:∀b o,s₁.heap.get? b=some o→asItWas s₁.heap s'.heap b o∧∃o',s'.heap.get? b=some o':=fun b o e=>by
     rcases hO b with z | ⟨ob,xs,z⟩ | ⟨t,z⟩
     ·have:=un.keep b o e z (by intro w;exact absurd (show b∈([]:List Addr) from w) (by simp)) (by simp)
      exact ⟨.inl this,o,this⟩
     ·have z2:=un.frzs b ob _ z
      obtain ⟨e1,_⟩:=hok b _ z
      obtain ⟨e2,_⟩:=hok' b _ z2
      rw [e] at e1;cases e1
      exact ⟨.inl e2,_,e2⟩
     ·obtain ⟨more,z2⟩:=un.tbls b #[] z
      have e2:s'.heap.get? b=_:=hok' b _ z2
      rw [(hT b t).1] at e;cases e
      exact ⟨.inr (.inl ⟨(hT b t).2.1,rfl,#[],more,rfl,e2⟩),_,e2⟩
    exact ⟨rfl,⟨fun b o e=>(each b o e).1,fun b o e=>(each b o e).2⟩,os,bare⟩
 classical
 have tbl0:∀(H:Hp),(∀p,TabP.tp p→H p=some (.tbl #[]))→TabsOk H:=fun H h p hp=>⟨#[],h p hp,trivial,fun pos cv z=>by cases z⟩
 cases hk:K.lookup a with
 | some o=>
  have e:=KX a o hk
  rw [ha] at e
  cases e
  refine core (fun b=>if TabP.tp b then some (.tbl #[]) else none) (fun b=>?_) (.inr ⟨_,vs.toArray,_,hk,rfl,rfl,rfl,by rw [List.size_toArray,lenV];exact hl63,by simpa using rv⟩) (tbl0 _ fun p hp=>if_pos hp) (fun b u z=>?_) (fun b z=>?_) fun b z=>?_
  ·by_cases t:TabP.tp b
   ·exact .inr (.inr ⟨t,if_pos t⟩)
   ·exact .inl (if_neg t)
  ·by_cases t:TabP.tp b
   ·have z':=(if_pos t).symm.trans z
    cases z'
    exact (hT b t).1
   ·have z':=(if_neg t).symm.trans z
    cases z'
  ·by_cases t:TabP.tp b
   ·exact .inr t
   ·exact absurd (if_neg t) z
  ·by_cases t:TabP.tp b
   ·exact (hT b t).2.2
   ·exact absurd (if_neg t) z
 | none=>
  refine core (fun b=>if b=a then some (.frz { cls:=.type "list",data:=.seq vs.toArray } (.lst (ns.map V.int))) else if TabP.tp b then some (.tbl #[]) else none) (fun b=>?_) (.inl (.inr ⟨{ cls:=.type "list",data:=.seq vs.toArray },if_pos rfl⟩)) (tbl0 _ fun p hp=>?_) (fun b u z=>?_) (fun b z=>?_) fun b z=>?_
  ·by_cases hb:b=a
   ·exact .inr (.inl ⟨_,_,if_pos hb⟩)
   ·by_cases t:TabP.tp b
    ·exact .inr (.inr ⟨t,by rw [if_neg hb,if_pos t]⟩)
    ·exact .inl (by rw [if_neg hb,if_neg t])
  ·rw [if_neg (by rintro rfl;exact naT hp),if_pos hp]
  ·by_cases hb:b=a
   ·have z':=(if_pos hb).symm.trans z
    cases z'
    subst hb
    exact ⟨ha,by rw [List.length_map];exact hl63,vs,_,rv,ha⟩
   ·try dsimp only at z
    rw [if_neg hb] at z
    by_cases t:TabP.tp b
    ·rw [if_pos t] at z;cases z
     exact (hT b t).1
    ·rw [if_neg t] at z;cases z
  ·by_cases hb:b=a
   ·exact .inl hb
   ·try dsimp only at z
    rw [if_neg hb] at z
    by_cases t:TabP.tp b
    ·exact .inr t
    ·rw [if_neg t] at z;exact absurd rfl z
  ·by_cases hb:b=a
   ·rw [hb];exact hk
   ·try dsimp only at z
    rw [if_neg hb] at z
    by_cases t:TabP.tp b
    ·exact (hT b t).2.2
    ·rw [if_neg t] at z;exact absurd rfl z
theorem walkT {l:PySem.W.OpenLaw} {q:Program} {k:Nat} {loose:List Str} {XP:(Str→Option Value)→Heap→Prop} {YP:World→Heap→Prop} {d:DefRec} {K:Params→PySem.W.Frag} (ln:List Str) (hn:l.most=some 63) (hdf:d.params.defaults=[]) (hr:Room k callerA)
  (hrec:∀x∈ln,∃d,(recsOf q).find? (fun e=>e.name == x)=some d) (hnt:∀p,PySem.W.noTabs (K p)=true)
  (hY:∀(w:World) (h:Heap),YP w h→(K w.params).In h)
  (F:∀(w:World) (mg:Str→Option Value) (fa:Addr) (h:Heap),(K w.params).In h→h.Ns mainGlobals mg→mg d.name=some (.ref fa)→
   ∃fd:FuncData,(∀(s:Shared) (u:Value),BindsTo s fd ⟨[u],[]⟩ [("script",u)])∧∀base:Heap,(K w.params).In base→base.Ns mainGlobals mg→Bm base mg→@FnOk l.prog w (K w.params) mg base CX0 k fa fd ["script"] (@spLaw (tabP (K w.params) ln) (K w.params))) :
  PySem.W.WalkO q loose XP YP l.row.toRowW d [] (fun f vs=>PySem.call f vs):=by
 refine Att.attach_call hn hdf fun w s₀ s₁ mg mb fa o pm cd doc a vs ns G Y ho hd hcd hmg hobj hints hlen hg=>?_
 have KX:=hY w _ Y
 obtain ⟨fd,hb,hF⟩:=F w mg fa _ KX G.T.g hmg
 letI:=tabP (K w.params) ln
 have hbm:Bm s₁.heap mg:=by
  obtain ⟨bm,ob,b1,b2,b3,b4,b5,b6⟩:=G.T.bmain
  refine ⟨bm,ob,b1,b2,fun q=>?_,b3,b4,b5,b6⟩
  obtain ⟨o,es,ep,e,hd,_⟩:=G.T.g
  rw [q,e] at b3;cases b3;rw [hd] at b6;cases b6
 refine law_callT KX G.T.g G.T.b G.T.builtins G.T.nolimit hg hobj hints hlen hr hbm hF hb fun p zz0=>?_
 obtain ⟨x,hx,c,ht⟩:=zz0
 obtain ⟨d,hd⟩:=hrec x hx
 obtain ⟨h1,h2⟩:=PySem.W.tab_of G.T KX hd ht
 refine ⟨h2,(h1.tab h2).isCodeTable,?_⟩
 cases e:(K w.params).lookup p with
 | none=>rfl
 | some o=>
  have e2:=KX p o e
  rw [h2] at e2
  cases e2
  have h3:=List.all_eq_true.mp (hnt w.params) (p,_) (PySem.W.mem_of_lookupK e)
  exact absurd (show false=true from h3) Bool.false_ne_true
end L3
namespace L3
open PySem PySem.Spec L2 PyProof.Rows
theorem lm_mk {K:PySem.W.Frag} {h:Heap} {mg:Str→Option Value} {x:Str} {st:Stmt} {ln:List Str} {f c P:Addr} {oc oc':Value} {od od':Option Addr} {fd:FuncData} {sl sl':Array (Option Value)} {vs:Array Value} {file:Str} {tf tg tt:Tok} {flags text:Int} {inF:Bool} (X:K.In h) (G:h.Ns mainGlobals mg) (hx:x∈ln)
  (a:PySem.W.nsIn K mainGlobals x=some (some (.ref f))) (l:K.lookup f=some ⟨oc,od,.func fd,sl⟩) (hc:fd.code = .ref c) (d:K.lookup c=some ⟨oc',od',.fields vs,sl'⟩) (hoc:oc' = .type "code") (e11:vs[11]? = some (.ref P)) (f11:vs.getD 11 .none = .ref P)
  (f18:vs.getD 18 .none = .str file tf) (f7:vs.getD 7 .none = .int flags tg) (f9:vs.getD 9 .none = .bool inF) (f10:vs.getD 10 .none = .int text tt) (ne:c≠P) (inj:∀y∈ln,isTab K P y=true→y=x) :
  ∃c P,@Lm (tabP K ln) K c P (lamQ x)∧∀(f:Addr) (oc:Value) (od:Option Addr) (kV doc pm:Value) (an:Option Addr) (cdv ct:Value) (osl:Array (Option Value)),mg x=some (.ref f)→K.lookup f=some ⟨oc,od,.func (PySem.W.fnOf x x (defArgs st) (defBody st) (defScope st) .none kV doc pm an cdv ct),osl⟩→cdv = .ref c:=by
 subst hoc
 have ht:=tab_mk a l hc d e11
 exact ⟨c,P,@Lm.mk (tabP K ln) K c P (lamQ x) (hd_mk d e11 f11 f18 f7 f9 f10 ne) ⟨x,hx,c,ht⟩ (ql_of hx ht inj),code_mk X G a l hc⟩
end L3
namespace L3
open PySem PySem.Spec L2 PyProof.Rows
variable [L2.TabP]
section
variable {X:Cx} {k:Nat} {e:Expr} {ma:ME} {Z:KO} {p pos kp:Pos} {mf:MF}
theorem we_sortL {c P:Addr} {q p1:Str} {params:Arguments} {body:Expr} {scope:Scope} {lp:Pos} {N:List Str} {m:ME} (hZ:Z.Ok) (hg:Gl X "sorted") (hm:X.mg "sorted"=none) (hr:Room (k + 3) X.A) (L:Lm X.K c P q) (B:Bm X.base X.mg) (hcode:X.env.code = .ref c)
  (hq:X.env.qual ++ Str.ofString "<lambda>"=q) (Sc:FnScope N [p1] scope)
  (hbind:∀(c:Addr) (pm ctv u:Value),bindArgs (PySem.W.kla_fn (Str.ofString "<lambda>") q params body scope [] pm (.ref c) ctv) ⟨[u],[]⟩=pure [(p1,u)])
  (hb:∀(f c:Addr) (A:Around) (s:Shared) (H:Hp),Room k (A.deeper (envOfC q scope s.heap.objs.size f (.ref c)))→WE (cxOf CX0 X.prog X.w X.K X.mg X.base N q scope f (.ref c) A X.stack s H E0).nox body m)
  (ha:WE X e ma) (hdef:defaultsOf params X.env=([],[]):=by rfl) (hcl:closureFor scope X.env=pure []:=by rfl)
  (he:backTo pos (starEach [e] X.env)=(false,eval e X.env) :: backTo pos (starEach [] X.env):=by rfl)
  (hs:starEach [e] X.env=(false,eval e X.env) :: starEach [] X.env:=by rfl)
  (hplain:(backTo pos (starEach [e] X.env)).any (·.1)=false:=by rfl) :
  WE X (.Call (.Name "sorted" p) [e] [⟨some (Str.ofString "key"),.Lambda params body scope lp,kp⟩] pos) (cSortK Z (fnOf 1 N.length (cRet m)) ma):=
 ⟨ce_sortL hZ hg hm hr L B hcode hq Sc hbind (fun f c A s H hr=>(hb f c A s H hr).un) ha.un hdef hcl he hs hplain⟩
end
end L3
namespace L3
open PySem PySem.Spec L2
def keyD:D→Option Key
 | .int i=>some (.inl i)
 | .str x=>some (.inr x)
 | _=>none
def dvalD (kvs:List (Key×D)) (k:Key):Option D:=(kvs.find? fun kv=>decide (kv.1=k)).map (·.2)
def dputD (kvs:List (Key×D)) (k:Key) (d:D):List (Key×D):=
 if (kvs.any fun kv=>decide (kv.1=k))=true then kvs.map (fun kv=>if kv.1=k then (kv.1,d) else kv) else kvs ++ [(k,d)]
def cDGet2 (m mk mx:ME):ME:=fun σ=>do
 let x ←m σ
 let k ←mk σ
 let z ←mx σ
 match x,k,z with
 | .dv kvs,.v kd,.v zd=>match keyD kd with
  | some key=>pure (.v ((dvalD kvs key).getD zd))
  | none=>bad
 | _,_,_=>bad
def oDIx:R→R→M R
 | .dv kvs,.v kd=>match keyD kd with
  | some key=>match dvalD kvs key with
   | some d=>pure (.v d)
   | none=>bad
  | none=>bad
 | _,_=>bad
def oDIn (neg:Bool):R→R→M R
 | .v kd,.dv kvs=>match keyD kd with
  | some key=>pure (.v (.bl (if neg then !(dvalD kvs key).isSome else (dvalD kvs key).isSome)))
  | none=>bad
 | _,_=>bad
def cDNew (i:Nat):MS:=fun σ=>pure (.nx (σ.set i (.dct [])))
def cDPut (i:Nat) (mk mv:ME):MS:=fun σ=>do
 let r ←mv σ
 let d ←r.dat
 let k ←mk σ
 match σ[i]?,k with
 | some (.dct kvs),.v kd=>match keyD kd with
  | some key=>if kvs.length < 1000 then pure (.nx (σ.set i (.dct (dputD kvs key d)))) else bad
  | none=>bad
 | _,_=>bad
variable [L2.TabP]
section
variable {K:PySem.W.Frag} {mg:Str→Option Value} {O:Ow} {H:Hp}
theorem keyD_rep {d:D} {v:V} {k:Key} (h:Rep K mg O H d v) (e:keyD d=some k):v=kV k:=by
 cases d <;> cases e <;> exact h
theorem RepKV.cons {p:Key×D} {kvs:List (Key×D)} {kvv:List (Key×V)} (h:RepKV K mg O H (p :: kvs) kvv):∃q r,kvv=q :: r∧p.1=q.1∧Rep K mg O H p.2 q.2∧RepKV K mg O H kvs r:=by
 obtain ⟨h1,h2⟩:=h
 cases kvv with
 | nil=>cases h1
 | cons q r=>
  rw [List.map_cons,List.map_cons] at h1 h2
  injection h1 with h1 h1'
  obtain ⟨y,t,e,a,b⟩:=h2
  injection e with e1 e2
  subst e1 e2
  exact ⟨q,r,rfl,h1,a,h1',b⟩
theorem RepKV.mk' {p:Key×D} {kvs:List (Key×D)} {q:Key×V} {r:List (Key×V)} (h1:p.1=q.1) (h2:Rep K mg O H p.2 q.2) (h:RepKV K mg O H kvs r):RepKV K mg O H (p :: kvs) (q :: r):=
 ⟨by rw [List.map_cons,List.map_cons,h1,h.1],q.2,_,rfl,h2,h.2⟩
theorem RepKV.len {kvs:List (Key×D)} {kvv:List (Key×V)} (h:RepKV K mg O H kvs kvv):kvv.length=kvs.length:=by
 have:=congrArg List.length h.1
 rw [List.length_map,List.length_map] at this
 exact this.symm
theorem RepKV.val (k:Key):∀{kvs:List (Key×D)} {kvv:List (Key×V)},RepKV K mg O H kvs kvv→match dvalD kvs k with
  | some d=>∃v,valV kvv k=some v∧Rep K mg O H d v
  | none=>valV kvv k=none
 | [],kvv,h=>by
  have:kvv=[]:=by have:=h.len;exact List.length_eq_zero_iff.mp this
  subst this
  exact rfl
 | p :: kvs,kvv,h=>by
  obtain ⟨q,r,rfl,e1,e2,h'⟩:=h.cons
  unfold dvalD valV
  by_cases hk:p.1=k
  ·rw [List.find?_cons_of_pos (by simpa using hk),List.find?_cons_of_pos (by rw [←e1];simpa using hk)]
   exact ⟨q.2,rfl,e2⟩
  ·rw [List.find?_cons_of_neg (by simpa using hk),List.find?_cons_of_neg (by rw [←e1];simpa using hk)]
   exact RepKV.val k h'
theorem RepKV.any (k:Key):∀{kvs:List (Key×D)} {kvv:List (Key×V)},RepKV K mg O H kvs kvv→(kvv.any fun kv=>decide (kv.1=k))=kvs.any fun kv=>decide (kv.1=k)
 | [],kvv,h=>by
  have:kvv=[]:=List.length_eq_zero_iff.mp h.len
  subst this
  rfl
 | p :: kvs,kvv,h=>by
  obtain ⟨q,r,rfl,e1,e2,h'⟩:=h.cons
  rw [List.any_cons,List.any_cons,RepKV.any k h',e1]
theorem RepKV.put (k:Key) {d:D} {v:V} (hd:Rep K mg O H d v) {kvs:List (Key×D)} {kvv:List (Key×V)} (h:RepKV K mg O H kvs kvv):RepKV K mg O H (dputD kvs k d) (putK kvv k v):=by
 unfold dputD putK
 rw [RepKV.any k h]
 split
 ·rename_i hany
  clear hany
  induction kvs generalizing kvv with
  | nil=>
   have:kvv=[]:=List.length_eq_zero_iff.mp h.len
   subst this
   exact ⟨rfl,rfl⟩
  | cons p kvs ih=>
   obtain ⟨q,r,rfl,e1,e2,h'⟩:=h.cons
   rw [List.map_cons,List.map_cons]
   refine RepKV.mk' ?_ ?_ (ih h')
   ·by_cases hk:p.1=k
    ·rw [if_pos hk,if_pos (e1 ▸ hk)];exact e1
    ·rw [if_neg hk,if_neg (e1 ▸ hk)];exact e1
   ·by_cases hk:p.1=k
    ·rw [if_pos hk,if_pos (e1 ▸ hk)];exact hd
    ·rw [if_neg hk,if_neg (e1 ▸ hk)];exact e2
 ·refine ⟨?_,?_⟩
  ·rw [List.map_append,List.map_append,h.1];rfl
  ·rw [List.map_append,List.map_append]
   exact h.2.append (.one hd)
end
section
variable {K:PySem.W.Frag} {mg:Str→Option Value} {O:Ow} {H:Hp} {l:Addr} {zs:List (Key×V)} {o:HO}
mutual
theorem Rep.updK (hl:H l=some (.dK zs)):∀{d:D} {v:V},Rep K mg O H d v→Rep K mg O (upd H l o) d v
 | .non,_,h=>h
 | .bl _,_,h=>h
 | .int _,_,h=>h
 | .str _,_,h=>h
 | .tup _,_,h=>by
  obtain ⟨a,ys,q,t,r⟩:=h
  refine ⟨a,ys,q,?_,RepAll.updK hl r⟩
  rcases t with (t | ⟨o,t⟩) | t
  ·exact .inl (.inl (by rw [upd_ne (ne_of t hl (by intro z;cases z))];exact t))
  ·exact .inl (.inr ⟨o,by rw [upd_ne (ne_of t hl (by intro z;cases z))];exact t⟩)
  ·exact .inr t
 | .lst _,_,h=>by
  obtain ⟨a,ys,q,t,r⟩:=h
  exact ⟨a,ys,q,⟨by rw [upd_ne (ne_of t.1 hl (by intro z;cases z))];exact t.1,t.2⟩,RepAll.updK hl r⟩
 | .dic _ _,_,h=>h
 | .fn _,_,h=>h
 | .ty _,_,h=>h
theorem RepAll.updK (hl:H l=some (.dK zs)):∀{ds:List D} {ys:List V},RepAll K mg O H ds ys→RepAll K mg O (upd H l o) ds ys
 | [],_,h=>h
 | _ :: _,_,h=>by obtain ⟨x,r,q,a,b⟩:=h;exact ⟨x,r,q,Rep.updK hl a,RepAll.updK hl b⟩
end
theorem SlotR.updK {w:Own} (ho:O l≠.free) (ho':O l≠.out) (hw:O l≠w) (ht:∀p,O l≠w.at p) (hl:H l=some (.dK zs)):∀{s:Slot} {u:Option V},SlotR K mg O H w s u→SlotR K mg O (upd H l o) w s u
 | .emp,_,_=>trivial
 | .val _,_,h=>by obtain ⟨v,q,r⟩:=h;exact ⟨v,q,r.updK hl⟩
 | .ow _ _,_,h=>by obtain ⟨a,ys,q,o,t,r⟩:=h;exact ⟨a,ys,q,o,by rw [upd_ne (by rintro rfl;exact hw o)];exact t,r.updK hl⟩
 | .vw _,_,h=>by
  obtain ⟨a,ys,q,t,r⟩:=h
  refine ⟨a,ys,q,?_,r.updK hl⟩
  rcases t with ⟨t,f⟩ | t
  ·refine .inl ⟨?_,f⟩
   rcases t with t | ⟨ob,t⟩
   ·exact .inl (by rw [upd_ne (ne_of t hl (by intro z;cases z))];exact t)
   ·exact .inr ⟨ob,by rw [upd_ne (ne_of t hl (by intro z;cases z))];exact t⟩
  ·exact .inr t
 | .dct _,_,h=>by obtain ⟨a,ys,q,o,t,r⟩:=h;exact ⟨a,ys,q,o,by rw [upd_ne (by rintro rfl;exact hw o)];exact t,r.1,r.2.updK hl⟩
 | .vd _,_,h=>by
  obtain ⟨a,ys,q,⟨t,f⟩,r⟩:=h
  have ne:a≠l:=by rintro rfl;exact f.elim ho ho'
  refine ⟨a,ys,q,⟨?_,f⟩,r.1,r.2.updK hl⟩
  rcases t with t | ⟨ob,t⟩
  ·exact .inl (by rw [upd_ne ne];exact t)
  ·exact .inr ⟨ob,by rw [upd_ne ne];exact t⟩
 | .pd _,_,h=>by obtain ⟨a,ys,q,o,t,r⟩:=h;exact ⟨a,ys,q,o,by rw [upd_ne (by rintro rfl;exact hw o)];exact t,r.1,r.2.all fun _ _ z=>Rep.updK hl z⟩
 | .vp _,_,h=>by
  obtain ⟨a,ys,q,⟨t,f⟩,r⟩:=h
  have ne:a≠l:=by rintro rfl;exact f.elim ho ho'
  refine ⟨a,ys,q,⟨?_,f⟩,r.1,r.2.all fun _ _ z=>Rep.updK hl z⟩
  rcases t with t | ⟨ob,t⟩
  ·exact .inl (by rw [upd_ne ne];exact t)
  ·exact .inr ⟨ob,by rw [upd_ne ne];exact t⟩
 | .tr _ _,_,h=>by obtain ⟨v,q,r⟩:=h;exact ⟨v,q,r.all (fun _ _ z=>Rep.updK hl z) fun a _ p o t _=>⟨o,by rw [upd_ne (by rintro rfl;exact TM.ne ho' ht p o)];exact t⟩⟩
theorem TabsOk.dic {p:Addr} (g:TabsOk H) (h:H p=some (.dK zs)) (o:HO):TabsOk (upd H p o):=g.put o (fun ps=>by rw [h];intro z;cases z) (fun q=>by rw [h];intro z;cases z)
theorem Dom.updK {o:HO} (d:Dom O H) (hl:H l=some (.dK zs)):Dom O (upd H l o):=⟨fun a ha=>by
 by_cases e:a=l
 ·rw [e,upd_same];intro z;cases z
 ·rw [upd_ne e];exact d.has a ha,TabsOk.dic d.tabs hl o⟩
theorem Gs.updK (ho:O l≠.free) (ho':O l≠.out) (hl:H l=some (.dK zs)):Gs O O H (upd H l o):=by
 refine ⟨fun b u e h _=>?_,fun _ _ _=>rfl,fun b h=>?_,fun b ps e=>⟨ps,by rw [upd_ne (by rintro rfl;rw [hl] at e;cases e)];exact e⟩,fun g=>TabsOk.dic g hl _⟩
 ·rw [upd_ne]
  ·exact e
  ·rintro rfl
   rcases h with h | h | ⟨xs,h⟩ | ⟨_,_,h⟩
   ·exact ho h
   ·exact ho' h
   ·subst h;rw [e] at hl;cases hl
   ·subst h;rw [e] at hl;cases hl
 ·by_cases e:b=l
  ·rw [e,upd_same];intro z;cases z
  ·rw [upd_ne e];exact h
theorem S3.updK {σ:En} {S:Store} {σV:L2.St} {i:Nat} {kvs kvs':List (Key×D)} {kvv:List (Key×V)} (st:S3 K mg O σ S σV H) (hi:σ[i]? = some (.dct kvs)) (hv:σV[i]?.join=some (.ref l)) (ho:O l = .loc i) (hl:H l=some (.dK zs)) (hr:RepKV K mg O H kvs' kvv) :
  S3 K mg O (σ.set i (.dct kvs')) S σV (upd H l (.dK kvv)):=by
 have ne:∀w:Own,w≠.loc i→O l≠w:=fun w hw z=>hw (z.symm.trans ho)
 refine ⟨st.dom.updK hl,by rw [List.length_set];exact st.len,fun j t e=>?_,st.emp⟩
 by_cases hj:i=j
 ·subst hj
  have hlt:i < σ.length:=(List.getElem?_eq_some_iff.mp hi).1
  rw [List.getElem?_set_self hlt] at e
  cases e
  exact ⟨l,kvv,hv,ho,upd_same,hr.1,hr.2.updK hl⟩
 ·rw [List.getElem?_set_ne hj] at e
  exact (st.loc j t e).updK (ne _ (by intro z;cases z)) (ne _ (by intro z;cases z)) (ne _ (by intro z;cases z;exact hj rfl)) (fun p=>ne _ (by intro z;cases z)) hl
end
section
variable {X:Cx} {o i e f value:Expr} {m mk mx mv:ME} {pos pos' apos cpos:Pos} {x:Str} {j:Nat}
theorem isD_of {H:Hp} {a:Addr} {kvv:List (Key×V)} (h:Rd H a (.dK kvv)):IsD H a:=.inl ⟨kvv,h⟩
theorem dget_of {K:PySem.W.Frag} {mg:Str→Option Value} {O:Ow} {H:Hp} {a:Addr} {kvs:List (Key×D)} {kvv:List (Key×V)} {kd:D} {y:V} {key:Key} (hr:RepKV K mg O H kvs kvv) (h:Rd H a (.dK kvv)) (hk:Rep K mg O H kd y) (e:keyD kd=some key):DGet H a y (valV kvv key):=
 .inl ⟨kvv,key,h,keyD_rep hk e,rfl⟩
theorem ce_dget2 (hu:X.A.units + 64 < cLine) (ho:CE X o m) (he:CE X e mk) (hf:CE X f mx) (h2:M2 X o "get" apos e f cpos:=by exact ⟨rfl,rfl,rfl,rfl⟩):CE X (.Call (.Attribute o "get" apos) [e,f] [] cpos) (cDGet2 m mk mx):=
 pe_imp (pe_dget2 (by omega) ho he hf h2) fun σV H Q zz0=>by
  obtain ⟨O,σ,S,r,S',st,h,q⟩:=zz0
  obtain ⟨x,S1,h1,h⟩:=M.inv h
  obtain ⟨k,S2,h2,h⟩:=M.inv h
  obtain ⟨z,S3',h3,h⟩:=M.inv h
  split at h
  ·rename_i kvs kd zd _ _
   split at h
   ·rename_i key ek
    cases h
    refine ⟨O,σ,S,_,S1,st,h1,fun O1 vx H1 g1 st1 rx nx=>?_⟩
    obtain ⟨a,kvv,rfl,l,rk⟩:=rx
    refine ⟨a,rfl,isD_of l,O1,σ,S1,_,S2,st1,h2,fun O2 vk H2 g2 st2 ry ny=>?_⟩
    refine ⟨O2,σ,S2,_,_,st2,h3,fun O3 vz H3 g3 st3 rz nz=>?_⟩
    have g23:=g2.trans g3
    have rk3:=rk.go g23
    refine ⟨_,dget_of rk3 (Rd.same g23.same l) (Rep.go g3 ry) ek,?_⟩
    have vv:=rk3.val key
    refine q O3 _ H3 (g1.trans g23) st3 ?_ trivial
    show Rep _ _ _ _ ((dvalD kvs key).getD zd) _
    cases ed:dvalD kvs key with
    | none=>rw [ed] at vv;rw [vv];exact rz
    | some d=>rw [ed] at vv;obtain ⟨v,e1,e2⟩:=vv;rw [e1];exact e2
   ·cases h
  ·cases h
theorem dix_read {K:PySem.W.Frag} {mg:Str→Option Value}:∀σV H Q,teOf K mg (c2 oDIx m mk) σV H Q→tDGet (teOf K mg m) (teOf K mg mk) σV H Q:=by
 rintro σV H Q ⟨O,σ,S,r,S',st,h,q⟩
 obtain ⟨x,S1,h1,h⟩:=M.inv h
 obtain ⟨k,S2,h2,h⟩:=M.inv h
 unfold oDIx at h
 split at h
 ·rename_i kvs kd
  split at h
  ·rename_i key ek
   split at h
   ·rename_i d ed
    cases h
    refine ⟨O,σ,S,_,S1,st,h1,fun O1 vx H1 g1 st1 rx nx=>?_⟩
    obtain ⟨a,kvv,rfl,l,rk⟩:=rx
    refine ⟨O1,σ,S1,_,_,st1,h2,fun O2 vk H2 g2 st2 ry ny=>?_⟩
    have rk2:=rk.go g2
    have vv:=rk2.val key
    rw [ed] at vv
    obtain ⟨v,e1,e2⟩:=vv
    exact ⟨a,v,rfl,by rw [←e1];exact dget_of rk2 (Rd.same g2.same l) ry ek,q O2 v H2 (g1.trans g2) st2 e2 trivial⟩
   ·cases h
  ·cases h
 ·cases h
theorem ce_dix (hu:X.A.units + 64 < cLine) (ho:CE X o m) (hi:CE X i mk) (hs:NoSl i:=by exact fun _ _=>rfl):CE X (.Subscript o i pos) (c2 oDIx m mk):=pe_imp (pe_dget (by omega) ho hi hs) dix_read
theorem cs_dnew (hN:X.N.Nodup) (hi:X.N[j]? = some x) (hx:Loc X.env.scope x) (hs:swapsWith (.Dict [] [] cpos) (some (.Name x pos')) pos.line X.env=pure false:=by rfl) (hf:X.fn x=true∨X.env.scope.names.lookup x=some .local:=by first | exact .inl rfl | exact .inr rfl | assumption) :
  CS X (.Assign [.Name x pos'] (.Dict [] [] cpos) pos) (cDNew j):=ps_imp (ps_set hN hi hx pe_dnewK hs hf) fun D σV H zz0=>by
 obtain ⟨O,σ,S,fl,S',st,h,q⟩:=zz0
 cases h
 intro p hp
 refine q (updO O p (.loc j)) _ (upd H p (.dK [])) (Go.new hp).gs ((st.new hp).set ⟨p,[],rfl,updO_same,upd_same,rfl,rfl⟩) (Kp.set fun xs z=>by cases z)
theorem cs_dput (hu:X.A.units + 64 < cLine) (hN:X.N[j]? = some x) (hv:Vis X.env.scope x) (hk:CE X i mk) (hval:CE X value mv) (hs:swapsWith value (some (.Subscript (.Name x apos) i pos')) pos.line X.env=pure false:=by rfl)
  (hd:(x == ("__debug__":Str))=false:=by decide) (hcd:(x == ("__classdict__":Str))=false:=by decide) :
  CS X (.Assign [.Subscript (.Name x apos) i pos'] value pos) (cDPut j mk mv):=ps_imp (ps_dput (by omega) (pe_var hN hv hd hcd) hk hval hs) fun D σV H zz0=>by
 obtain ⟨O,σ,S,fl,S',st,h,q⟩:=zz0
 obtain ⟨r,S1,h1,h⟩:=M.inv h
 obtain ⟨d,S2,h2,h⟩:=M.inv h
 obtain ⟨k,S3',h3,h⟩:=M.inv h
 split at h
 ·rename_i kvs kd ej
  split at h
  ·rename_i key ek
   by_cases c:kvs.length < 1000
   ·rw [if_pos c] at h
    cases h
    refine ⟨O,σ,S,r,S1,st,h1,fun O1 v H1 g1 st1 rr nn=>?_⟩
    obtain ⟨rd,rfl⟩:=dat_rep (H₀:=H) rr nn h2
    have st1':=st1.frz H
    have l:=st1'.loc j _ ej
    obtain ⟨a,kvv,e1,e2,e3,e4⟩:=l
    have ev:σV[j]? = some (some (.ref a)):=by
     cases w:σV[j]? with
     | none=>rw [w] at e1;cases e1
     | some y=>rw [w] at e1;exact congrArg some e1
    refine ⟨.ref a,ev,frz H O1,σ,S1,_,_,st1',h3,fun O2 vk H2 g2 st2 ry ny=>?_⟩
    have e3':=g2.same.at' _ _ e3
    have e2':O2 a = .loc j:=(g2.own a (by rw [e3];intro z;cases z)).trans e2
    have e4':=e4.go g2
    refine ⟨a,_,rfl,by rw [keyD_rep ry ek];exact DPut.k e3' (by rw [e4'.len];exact small1000 (Nat.le_of_lt c)),?_⟩
    have nf:∀w:Own,w≠.loc j→O2 a≠w:=fun w hw z=>hw (z.symm.trans e2')
    refine q O2 σV _ ((g1.frz.trans g2).gs.trans (Gs.updK (nf _ (by intro z;cases z)) (nf _ (by intro z;cases z)) e3')) (st2.updK ej e1 e2' e3' (e4'.put key (Rep.go g2 rd))) ?_
    have hlt:j < σ.length:=(List.getElem?_eq_some_iff.mp ej).1
    exact Kp.put ej (fun xs z=>by cases z) (fun _ z=>by cases z) (fun _ _ z=>by cases z)
   ·rw [if_neg c] at h;cases h
  ·cases h
 ·cases h
end
end L3
namespace L3
open PySem PySem.Spec L2
variable [L2.TabP]
section
variable {X:Cx} {o i e f value:Expr} {m mk mx mv:ME} {pos pos' apos cpos:Pos} {x:Str} {j:Nat}
theorem we_dget2 (hu:X.A.units + 64 < cLine) (ho:WE X o m) (he:WE X e mk) (hf:WE X f mx) (h2:M2 X o "get" apos e f cpos:=by exact ⟨rfl,rfl,rfl,rfl⟩):WE X (.Call (.Attribute o "get" apos) [e,f] [] cpos) (cDGet2 m mk mx):=⟨ce_dget2 hu ho.un he.un hf.un h2⟩
theorem we_dix (hu:X.A.units + 64 < cLine) (ho:WE X o m) (hi:WE X i mk) (hs:NoSl i:=by exact fun _ _=>rfl):WE X (.Subscript o i pos) (c2 oDIx m mk):=⟨ce_dix hu ho.un hi.un hs⟩
theorem ws_dnew (hN:X.N.Nodup) (hi:X.N[j]? = some x) (hx:Loc X.env.scope x) (hs:swapsWith (.Dict [] [] cpos) (some (.Name x pos')) pos.line X.env=pure false:=by rfl) (hf:X.fn x=true∨X.env.scope.names.lookup x=some .local:=by first | exact .inl rfl | exact .inr rfl | assumption) :
  WS X (.Assign [.Name x pos'] (.Dict [] [] cpos) pos) (cDNew j):=⟨cs_dnew hN hi hx hs hf⟩
theorem ws_dput (hu:X.A.units + 64 < cLine) (hN:X.N[j]? = some x) (hv:Vis X.env.scope x) (hk:WE X i mk) (hval:WE X value mv) (hs:swapsWith value (some (.Subscript (.Name x apos) i pos')) pos.line X.env=pure false:=by rfl)
  (hd:(x == ("__debug__":Str))=false:=by decide) (hcd:(x == ("__classdict__":Str))=false:=by decide) :
  WS X (.Assign [.Subscript (.Name x apos) i pos'] value pos) (cDPut j mk mv):=⟨cs_dput hu hN hv hk.un hval.un hs hd hcd⟩
end
end L3
namespace L3
open PySem PySem.Spec L2
@[simp] theorem e_dget2 {m mk mx:ME} {σ:En}:cDGet2 m mk mx σ=(do
 let x ←m σ
 let k ←mk σ
 let z ←mx σ
 match x,k,z with
 | .dv kvs,.v kd,.v zd=>match keyD kd with
  | some key=>pure (.v ((dvalD kvs key).getD zd))
  | none=>bad
 | _,_,_=>bad):=rfl
@[simp] theorem e_keyi {i:Int}:keyD (.int i)=some (.inl i):=rfl
@[simp] theorem e_keys {x:Str}:keyD (.str x)=some (.inr x):=rfl
@[simp] theorem e_dix {kvs:List (Key×D)} {kd:D}:oDIx (.dv kvs) (.v kd)=match keyD kd with
  | some key=>match dvalD kvs key with
   | some d=>pure (.v d)
   | none=>bad
  | none=>bad:=rfl
@[simp] theorem e_din {neg:Bool} {kvs:List (Key×D)} {kd:D}:oDIn neg (.v kd) (.dv kvs)=match keyD kd with
  | some key=>pure (.v (.bl (if neg then !(dvalD kvs key).isSome else (dvalD kvs key).isSome)))
  | none=>bad:=rfl
@[simp] theorem e_dnew {i:Nat} {σ:En}:cDNew i σ=pure (.nx (σ.set i (.dct []))):=rfl
@[simp] theorem e_dput {i:Nat} {mk mv:ME} {σ:En}:cDPut i mk mv σ=(do
 let r ←mv σ
 let d ←r.dat
 let k ←mk σ
 match σ[i]?,k with
 | some (.dct kvs),.v kd=>match keyD kd with
  | some key=>if kvs.length < 1000 then pure (.nx (σ.set i (.dct (dputD kvs key d)))) else bad
  | none=>bad
 | _,_=>bad):=rfl
theorem dval_put (kvs:List (Key×D)) (k k':Key) (d:D):dvalD (dputD kvs k d) k'=if k'=k then some d else dvalD kvs k':=by
 unfold dputD
 by_cases ha:(kvs.any fun kv=>decide (kv.1=k))=true
 ·rw [if_pos ha]
  induction kvs with
  | nil=>cases ha
  | cons p kvs ih=>
   rw [List.map_cons]
   unfold dvalD
   by_cases hp:p.1=k
   ·rw [if_pos hp]
    by_cases hk:k'=k
    ·rw [if_pos hk,List.find?_cons_of_pos (by simp [hp,hk])];rfl
    ·rw [if_neg hk,List.find?_cons_of_neg (by simp [hp];exact fun h=>hk h.symm),List.find?_cons_of_neg (by simp [hp];exact fun h=>hk h.symm)]
     by_cases ha2:(kvs.any fun kv=>decide (kv.1=k))=true
     ·have:=ih ha2
      rw [if_neg hk] at this
      exact this
     ·have:kvs.map (fun kv=>if kv.1=k then (kv.1,d) else kv)=kvs:=by
       have hall:∀kv∈kvs,¬kv.1=k:=fun kv hkv h=>ha2 (List.any_eq_true.mpr ⟨kv,hkv,by simpa using h⟩)
       exact (List.map_congr_left fun kv hkv=>if_neg (hall kv hkv)).trans (List.map_id _)
      rw [this]
   ·rw [if_neg hp]
    have ha2:(kvs.any fun kv=>decide (kv.1=k))=true:=by
     rw [List.any_cons] at ha
     simpa [hp] using ha
    by_cases hk:p.1=k'
    ·rw [List.find?_cons_of_pos (by simpa using hk),List.find?_cons_of_pos (by simpa using hk),if_neg (by rintro rfl;exact hp hk)]
    ·rw [List.find?_cons_of_neg (by simpa using hk),List.find?_cons_of_neg (by simpa using hk)]
     exact ih ha2
 ·rw [if_neg ha]
  have hall:∀kv∈kvs,¬kv.1=k:=fun kv hkv h=>ha (List.any_eq_true.mpr ⟨kv,hkv,by simpa using h⟩)
  unfold dvalD
  rw [List.find?_append]
  by_cases hk:k'=k
  ·subst hk
   rw [List.find?_eq_none.mpr fun kv hkv=>by simpa using hall kv hkv,if_pos rfl]
   simp
  ·rw [if_neg hk]
   cases e:kvs.find? (fun kv=>decide (kv.1=k')) with
   | some p=>rfl
   | none=>
    simp
    exact fun h=>hk h.symm
theorem dput_len (kvs:List (Key×D)) (k:Key) (d:D):(dputD kvs k d).length≤kvs.length + 1:=by
 unfold dputD
 split
 ·rw [List.length_map];omega
 ·rw [List.length_append,List.length_singleton];omega
end L3
namespace L3
open PySem PySem.Spec L2 PyProof.Rows
def kD:Key→D
 | .inl i=>.int i
 | .inr x=>.str x
def srcD:R→Option (List D)
 | .dv kvs=>some (kvs.map fun kv=>kD kv.1)
 | x=>x.lis
def unAll (Z:KO):List D→Option (List Z.κ.α)
 | []=>some []
 | d :: ds=>match Z.un d,unAll Z ds with
  | some a,some as=>some (a :: as)
  | _,_=>none
def fSortP (Z:KO):List R→M R
 | [x]=>match srcD x with
  | some ds=>match unAll Z ds with
   | some ka=>if apartK Z.κ.blt ka=true∧ds.length < 64 then pure (.fr ((sortB Z.κ.blt (ka.zip ds)).map (·.2))) else bad
   | none=>bad
  | none=>bad
 | _=>bad
theorem unAll_spec {Z:KO} (un_kd:∀d a,Z.un d=some a→d=Z.kd a):∀{ds:List D} {ka:List Z.κ.α},unAll Z ds=some ka→ds=ka.map Z.kd
 | [],ka,h=>by cases h;rfl
 | d :: ds,ka,h=>by
  unfold unAll at h
  split at h
  ·rename_i a as h1 h2
   cases h
   rw [List.map_cons,←unAll_spec un_kd h2,←un_kd d a h1]
  ·cases h
theorem key_rel {k:Key} {v:Value} (h:keyIs k v=true):RelV (kV k) v:=by
 cases k with
 | inl i=>
  cases v <;> simp only [keyIs,Value.isInt,Bool.false_eq_true,beq_iff_eq] at h
  subst h
  exact ⟨_,rfl⟩
 | inr x=>
  cases v <;> simp only [keyIs,Value.isStrOf,Bool.false_eq_true,beq_iff_eq] at h
  subst h
  exact ⟨_,rfl⟩
theorem paired_get {α β:Type} {r:α→β→Prop}:∀{xs:List α} {ys:List β} {i:Nat} {x:α},PySem.Paired r xs ys→xs[i]? = some x→∃y,ys[i]? = some y∧r x y
 | _,_,_,_,.nil,e=>by simp at e
 | _,_,0,_,.cons r _,e=>by simp at e;subst e;exact ⟨_,rfl,r⟩
 | _,_,_ + 1,_,.cons _ p,e=>by
  obtain ⟨y,a,b⟩:=paired_get p (by simpa using e)
  exact ⟨y,by simpa using a,b⟩
theorem vals_of_get {xs:List V} {us:List Value} (hl:xs.length=us.length) (h:∀(i:Nat) (x:V) (u:Value),xs[i]? = some x→us[i]? = some u→RelV x u):Vals xs us:=by
 induction xs generalizing us with
 | nil=>
  cases us with
  | nil=>exact .nil
  | cons u us=>cases hl
 | cons x xs ih=>
  cases us with
  | nil=>cases hl
  | cons u us=>exact .cons (h 0 x u rfl rfl) (ih (Nat.succ.inj hl) fun i y w h1 h2=>h (i + 1) y w (by simpa using h1) (by simpa using h2))
variable [L2.TabP]
section
variable {X:Cx} {pins:List (Addr×Obj)} {σ:L2.St} {H:Hp} {s:Shared} {O:Ow} {Z:KO} {ka:List Z.κ.α} {xs:List V} {us:List Value} {E:Value→Shared→Prop} {A:Around} {Q:VK}
theorem keys_are {K:PySem.W.Frag} {mg:Str→Option Value} (hZ:Z.Ok):∀{ka:List Z.κ.α} {xs:List V} {us:List Value},RepAll K mg O H (ka.map Z.kd) xs→Vals xs us→us.map Z.κ.keyOf=ka.map some
 | [],xs,us,ra,rv=>by
  cases (show xs=[] from ra)
  cases rv
  rfl
 | a :: ka,xs,us,ra,rv=>by
  obtain ⟨x,r,rfl,h1,h2⟩:=ra
  cases rv with
  | cons r1 r2=>
   rw [List.map_cons,List.map_cons,keys_are hZ h2 r2,hZ.key a K mg O H x _ h1 r1]
theorem sort_plain (hZ:Z.Ok) (I:Inv X pins σ H s) (ra:RepAll X.K X.mg O H (ka.map Z.kd) xs) (rv:Vals xs us) (hn:ka.Nodup) (h64:ka.length < 64)
  (q:∀l zs,H l=none→RepAll X.K X.mg O H ((sortB Z.κ.blt (ka.zip (ka.map Z.kd))).map (·.2)) zs→Q (.ref l) (upd H l (.lst zs))) :
  wpAny (model X.prog X.w) A (do
   let l ←newList us
   let _ ←holding [l] (call (.builtin "list.sort") [l] [])
   ret l) (fun fin s'=>∃v,fin=PySem.Fin.done (.ret v)∧EP X pins σ Q v s') E s:=by
 have lx:xs.length=ka.length:=by rw [ra.len,List.length_map]
 have lu:us.length=ka.length:=by rw [←rv.length,lx]
 have hk:=keys_are hZ ra rv
 refine wpAny_bind (wpAny_newList ?_ (by rw [sizeLine_eq];omega))
 have hoL:(s.heap.push (seqObj "list" us.toArray 0)).get? s.heap.objs.size=some (seqObj "list" us.toArray 0):=Heap.get?_push_size _ rfl
 have fr:H s.heap.objs.size=none:=I.hok.fresh (Nat.le_refl _)
 show wpAny _ _ _ _ _ { s with heap:=s.heap.push (seqObj "list" us.toArray 0) }
 have hkey:∀v∈us,∃κ,Z.κ.keyOf v=some κ:=fun v hv=>by
  have:Z.κ.keyOf v∈ka.map some:=by rw [←hk];exact List.mem_map_of_mem hv
  obtain ⟨κ,_,e⟩:=List.mem_map.mp this
  exact ⟨κ,e.symm⟩
 refine wpAny_bind (wpAny_holding (wpAny_call_entry_kw slot_list_sort ⟨_,hoL,rfl⟩ entry_list_sort ?body (args_list_sort _)))
 refine list_sort_treeK hZ.one (n:=0) hoL ?_ ?_ (by omega) fun st' hp hs=>?_
 ·intro p hp
  have:p∈us.zip us:=by
   have:p∈(us.toArray.zip us.toArray).toList:=hp
   simpa using this
  exact hkey _ (List.of_mem_zip this).1
 ·intro v₁ v₂ rest e
  subst e
  exact hZ.kind v₁ v₂ rest hkey
 ·have psz:(pairsOf us).size=(arrOf st').size:=hp.size_eq.symm
  rw [psz] at hs
  obtain ⟨zs,zv,zl,zr⟩:=sorted_out (keys:=us.toArray) ra rv hk (by rw [List.length_map]) hn (ar:=arrOf st') hp hs
  obtain ⟨e,he⟩:=sortedHeap_at (out:=(arrOf st').map (·.2)) hoL
  refine ⟨_,rfl,wpAny_pure ⟨_,rfl,.ref s.heap.objs.size,upd H s.heap.objs.size (.lst zs),?_,rfl,q _ zs fr zr⟩⟩
  refine I.laid (t':=s.toks) (fun b o eb=>?_) (Nat.le_refl _) ⟨?_,_,e,zv,?_⟩
  ·have hlt:=Heap.lt_size eb
   rw [sortedHeap_old (Nat.ne_of_lt hlt) (by rw [size_push'];exact Nat.lt_succ_of_lt hlt),Heap.get?_push_ne _ _ _ (Nat.ne_of_lt hlt)]
   exact eb
  ·rw [zl,List.length_map,sizeLine_eq];omega
  ·rw [he,Array.toArray_toList]
def Src (K:PySem.W.Frag) (H:Hp) (p:Addr) (ys:List V):Prop:=SqL K H p ys∨∃kvv:List (Key×V),Rd H p (.dK kvv)∧ys=kvv.map fun kv=>kV kv.1
theorem call_sortP (hc:X.calm=true) (hZ:Z.Ok):CallR X (.builtin "sorted") (fun xs H Q=>∃(p:Addr) (ys:List V) (O:Ow) (ka:List Z.κ.α),xs=[.ref p]∧Src X.K H p ys∧RepAll X.K X.mg O H (ka.map Z.kd) ys∧ka.Nodup∧ka.length < 64∧
  ∀l zs,H l=none→RepAll X.K X.mg O H ((sortB Z.κ.blt (ka.zip (ka.map Z.kd))).map (·.2)) zs→Q (.ref l) (upd H l (.lst zs))):=by
 rintro pins s σ H xs us Q I rv ⟨p,ys,O,ka,ex,hS,ra,hn,h64,q⟩
 subst ex
 obtain ⟨u,rfl,r1⟩:=vals1 rv
 cases r1
 have lx:ys.length=ka.length:=by rw [ra.len,List.length_map]
 refine call_function_entry_kw kind_sorted plain_sorted entry_sorted (args_sorted1 _) ?_
 unfold Builtin.«sorted»
 refine wpAny_bind (m:=checkCount "sorted" 1 1 _) (wpAny_pure ?_)
 rcases hS with hS | ⟨kvv,hS,rfl⟩
 ·obtain ⟨vs,rvs,pl,_⟩:=I.list hS
  have lv:vs.length=ka.length:=by rw [←rvs.length,lx]
  refine wpAny_bind (collect_list pl.isList ?_ (by rw [sizeLine_eq];omega))
  refine sort_plain hZ (I.kept (t':=s.toks) fun b o e=>?_) ra rvs hn h64 q
  have hlt:=Heap.lt_size e
  rw [Heap.get?_update_ne _ _ _ _ (Nat.ne_of_lt hlt),Heap.get?_push_ne _ _ _ (Nat.ne_of_lt hlt)]
  exact e
 ·obtain ⟨_,hsys,vs,kv,o,es,ep,hd⟩:=dk_rd I.hok hS
  rw [List.length_map] at lx
  have lv:kvv.length=vs.length:=Paired.length kv
  refine wpAny_bind (PySem.W.kdu_collect (PySem.W.kdl_dict (kvs:=vs) (ep:=ep) hsys) (show X.A.in1.handled=none from I.ok.hd hc) ⟨o,es,hd⟩ (by rw [sizeLine_eq];omega) fun h' tk acc keep items=>?_)
  refine sort_plain hZ (I.kept (t':=tk) keep) ra (vals_of_get ?_ fun i x u h1 h2=>?_) hn h64 q
  ·rw [List.length_map];exact lv.trans (items.1.symm.trans Array.length_toList.symm)
  ·obtain ⟨k,z,e1,e2⟩:=items.2 i u (by simpa using h2)
   rw [List.getElem?_map] at h1
   obtain ⟨p,e3,rfl⟩:=Option.map_eq_some_iff.mp h1
   obtain ⟨q',e4,r⟩:=paired_get kv e3
   rw [e1] at e4
   cases e4
   rw [r.1]
   exact key_rel e2
end
section
variable {K:PySem.W.Frag} {mg:Str→Option Value} {Z:KO}
theorem kvs_keys {O:Ow} {H:Hp}:∀{kvs:List (Key×D)} {kvv:List (Key×V)},RepKV K mg O H kvs kvv→RepAll K mg O H (kvs.map fun kv=>kD kv.1) (kvv.map fun kv=>kV kv.1)
 | [],kvv,h=>by
  have:kvv=[]:=List.length_eq_zero_iff.mp h.len
  subst this
  exact rfl
 | p :: kvs,kvv,h=>by
  obtain ⟨q,r,rfl,e1,e2,h'⟩:=h.cons
  refine ⟨kV q.1,_,rfl,?_,kvs_keys h'⟩
  show Rep K mg O H (kD p.1) (kV q.1)
  rw [e1]
  cases q.1 <;> exact rfl
theorem src_rep {O:Ow} {H:Hp} {x:R} {v:V} {ds:List D} (hx:RepR K mg O H x v) (e:srcD x=some ds):∃p ys,v = .ref p∧Src K H p ys∧RepAll K mg O H ds ys:=by
 cases x with
 | dv kvs=>
  cases e
  obtain ⟨a,kvv,rfl,l,rk⟩:=hx
  exact ⟨a,_,rfl,.inr ⟨kvv,l,rfl⟩,kvs_keys rk⟩
 | v d=>obtain ⟨a,ys,rfl,l,ra⟩:=R.lis_rep hx e;exact ⟨a,ys,rfl,.inl l,ra⟩
 | fr d=>obtain ⟨a,ys,rfl,l,ra⟩:=R.lis_rep hx e;exact ⟨a,ys,rfl,.inl l,ra⟩
 | vw d=>obtain ⟨a,ys,rfl,l,ra⟩:=R.lis_rep hx e;exact ⟨a,ys,rfl,.inl l,ra⟩
 | mv d=>obtain ⟨a,ys,rfl,l,ra⟩:=R.lis_rep hx e;exact ⟨a,ys,rfl,.inl l,ra⟩
theorem kSortP (hZ:Z.Ok):BinC K mg (fun xs H Q=>∃(p:Addr) (ys:List V) (O:Ow) (ka:List Z.κ.α),xs=[.ref p]∧Src K H p ys∧RepAll K mg O H (ka.map Z.kd) ys∧ka.Nodup∧ka.length < 64∧
  ∀l zs,H l=none→RepAll K mg O H ((sortB Z.κ.blt (ka.zip (ka.map Z.kd))).map (·.2)) zs→Q (.ref l) (upd H l (.lst zs))) (fSortP Z):=fun O σ S σV H vs rs r' S' Q st hr h q=>by
 unfold fSortP at h
 split at h
 ·rename_i x
  obtain ⟨v,rfl,hx⟩:=reps1 hr
  split at h
  ·rename_i ds e
   split at h
   ·rename_i ka e2
    by_cases c:apartK Z.κ.blt ka=true∧ds.length < 64
    ·rw [if_pos c] at h
     cases h
     obtain ⟨a,ys,rfl,l,ra⟩:=src_rep hx e
     have ed:=unAll_spec hZ.un_kd e2
     subst ed
     refine ⟨a,ys,O,ka,rfl,l,ra,apartK_nodup Z.κ.toKeyOrd c.1,by have:=c.2;rwa [List.length_map] at this,fun p zs hp rz=>?_⟩
     refine q (updO O p .tmp) _ _ (Go.new hp) (st.new hp) ⟨p,zs,rfl,upd_same,updO_same,rz.go (Go.new hp)⟩ fun b eb=>?_
     cases eb
     exact hp
    ·rw [if_neg c] at h;cases h
   ·cases h
  ·cases h
 ·cases h
end
omit [L2.TabP] in
theorem e_sortP {Z:KO} {x:R}:fSortP Z [x]=match srcD x with
  | some ds=>match unAll Z ds with
   | some ka=>if apartK Z.κ.blt ka=true∧ds.length < 64 then pure (.fr ((sortB Z.κ.blt (ka.zip ds)).map (·.2))) else bad
   | none=>bad
  | none=>bad:=rfl
end L3
namespace L3
open PySem PyProof.Rows
theorem slot_setit_next:PySem.Slot "set_iterator" "__next__" "set_iterator.__next__":=
 .of (owner:="set_iterator") (n:="__next__") (by rw [typeLookup_type,builtinLookup_eq_fast];kernel_rfl) (by decide +kernel) (by decide +kernel) (by decide +kernel)
  (by first | exact .inl (by decide +kernel) | exact .inr (by decide +kernel)) (by rw [isSubtype_type];kernel_rfl)
theorem slot_setit_iter:PySem.Slot "set_iterator" "__iter__" "set_iterator.__iter__":=
 .of (owner:="set_iterator") (n:="__iter__") (by rw [typeLookup_type,builtinLookup_eq_fast];kernel_rfl) (by decide +kernel) (by decide +kernel) (by decide +kernel)
  (by first | exact .inl (by decide +kernel) | exact .inr (by decide +kernel)) (by rw [isSubtype_type];kernel_rfl)
theorem entry_setit_next:entryFor table "set_iterator.__next__"=some Builtin.«set_iterator.__next__»:=entryFor_of_fast (by kernel_rfl)
theorem entry_setit_iter:entryFor table "set_iterator.__iter__"=some Builtin.«dict_keyiterator.__iter__»:=
 entryFor_alias (id':="dict_keyiterator.__iter__") (by kernel_rfl) rfl (by decide +kernel) (by kernel_rfl)
theorem entry_set_iter:entryFor table "set.__iter__"=some Builtin.«frozenset.__iter__»:=
 entryFor_alias (id':="frozenset.__iter__") (by kernel_rfl) rfl (by decide +kernel) (by kernel_rfl)
theorem args_setit_next (a:Value):argsOk "set_iterator.__next__" ⟨[a],[]⟩:=by unfold argsOk;kernel_rfl
theorem args_setit_iter (a:Value):argsOk "set_iterator.__iter__" ⟨[a],[]⟩:=by unfold argsOk;kernel_rfl
end L3
namespace L3
open PySem PyProof.Rows
structure SetAt (h:Heap) (a:Addr) (es:Array (Int×Value)) (ep:Nat) (t:SetTable):Prop where
 ex:∃o,h.get? a=some o∧o.cls = .type "set"∧o.data = .set es ep t
 fit:t.fits es.size=true
def IsSetIt (h:Heap) (it:Addr) (first:Value) (i:Nat) (a:Addr) (n ep:Nat):Prop:=∃o,h.get? it=some o∧o.cls = .type "set_iterator"∧o.data = .fields #[first,.int i 0,.ref a,.int n 0,.int ep 0]
section
variable {prog:Program} {w:World} {A:Around} {E:Value→Shared→Prop} {s:Shared} {it a:Addr} {es:Array (Int×Value)} {ep n i:Nat} {t:SetTable} {first:Value}
theorem SetAt.typeIs (h:SetAt s.heap a es ep t):s.TypeIs (.ref a) "set":=by obtain ⟨o,e,c,_⟩:=h.ex;exact ⟨o,e,c⟩
theorem IsSetIt.typeIs (h:IsSetIt s.heap it first i a n ep):s.TypeIs (.ref it) "set_iterator":=by obtain ⟨o,e,c,_⟩:=h;exact ⟨o,e,c⟩
theorem SetAt.st {Q:Array (Int×Value)×Nat×SetTable→Shared→Prop} (h:SetAt s.heap a es ep t) (q:Q (es,ep,t) s):wpAny (model prog w) A (setState a) Q E s:=by
 obtain ⟨o,ho,_,hd⟩:=h.ex
 exact wpAny_setState_of ho hd h.fit q
theorem next_T {slot slot':Nat} {x:Value} {Q:Option Value→Shared→Prop} (hit:IsSetIt s.heap it (.int slot 0) i a n ep) (hs:SetAt s.heap a es ep t) (hn:es.size=n)
  (hN:∀(A:Around) (E:Value→Shared→Prop) (Q:Option (Value×Nat)→Shared→Prop),Q (some (x,slot')) s→wpAny (model prog w) A (setNext a slot i ep) Q E s)
  (hQ:∀h',IsSetIt h' it (.int slot' 0) (i + 1) a n ep→Heap.SameBut it s.heap h'→Q (some x) { s with heap:=h' }):wpAny (model prog w) A (pyNext (.ref it)) Q E s:=by
 obtain ⟨o,ho,hc,hd⟩:=id hit
 unfold pyNext
 refine wpAny_bind (wpAny_attempt (wpAny_callSpecial?_slot (name:=Str.ofString "__next__") hit.typeIs slot_setit_next
  (wpAny_call_entry slot_setit_next hit.typeIs entry_setit_next ?_ (args_setit_next _))))
 unfold Builtin.«set_iterator.__next__»
 refine wpAny_bind (wpAny_of_eq (a:=(Value.ref it,[])) rfl ?_)
 refine wpAny_bind (wpAny_fieldsOf ho hd ?_)
 show wpAny _ _ (setEntries a >>= _) _ _ s
 refine wpAny_bind (wpAny_bind (hs.st (wpAny_pure ?_)))
 dsimp only
 rw [if_neg (by rw [hn];simp)]
 refine wpAny_bind (hN _ _ _ ?_)
 have ho1:=Heap.get?_update_self (Obj.mapFields (·.setIfInBounds 0 (.int slot' 0))) ho (Obj.isFreed_of_fields (Obj.data_mapFields hd _))
 refine wpAny_bind (wpAny_setField ho hd (by simp) ?_)
 refine wpAny_bind (wpAny_setField ho1 (Obj.data_mapFields hd _) (by simp) (wpAny_pure ⟨x,rfl,wpAny_pure (hQ _ ?_ ?_)⟩))
 ·exact ⟨_,Heap.get?_update_self _ ho1 (Obj.isFreed_of_fields (Obj.data_mapFields (Obj.data_mapFields hd _) _)),((Obj.cls_mapFields ..).trans (Obj.cls_mapFields ..)).trans hc,by
   rw [Obj.data_mapFields (Obj.data_mapFields hd _)];simp [rawInt]⟩
 ·exact (Heap.SameBut.update ..).trans (Heap.SameBut.update ..)
theorem stop_it {α:Type} {P:α→Shared→Prop} {X:Value→Shared→Prop} (hh:A.handled=none) (h:∀e h',(∀b o,s.heap.get? b=some o→h'.get? b=some o)→Shared.TypeIs { s with heap:=h' } (.ref e) "StopIteration"→X (.ref e) { s with heap:=h' }) :
  wpAny (model prog w) A (newExc (.type "StopIteration") [] >>= fun e=>(raiseNew e:Sem α)) P X s:=by
 refine wpAny_bind ?_
 simp only [newExc,newTuple]
 refine wpAny_bind (wpAny_newObj_type ?_ (by size_fits))
 refine wpAny_bind (m:=firstArgMember _ _) (wpAny_of_eq (a:=Value.none) (by first | rfl | (simp only [firstArgMember];rfl)) ?_)
 refine wpAny_newObj_type ?_ (by size_fits)
 simp only [raiseNew]
 refine wpAny_bind (wpAny_handled ?_)
 rw [hh]
 refine wpAny_bind (wpAny_pure (wpAny_throw ?_))
 exact h _ _ (fun b o e=>Heap.get?_push_of_some _ (Heap.get?_push_of_some _ e)) ⟨_,Heap.get?_push_size _ rfl,rfl⟩
theorem next_end {Q:Option Value→Shared→Prop} (hh:A.handled=none) (hit:IsSetIt s.heap it first i a n ep) (hs:SetAt s.heap a es ep t) (hn:es.size=n)
  (hf:(∃slot:Nat,first = .int slot 0∧∀(A:Around) (E:Value→Shared→Prop) (Q:Option (Value×Nat)→Shared→Prop),Q none s→wpAny (model prog w) A (setNext a slot i ep) Q E s)∨∃T o ps k,first = .ref T∧s.heap.get? T=some o∧o.data = .seq ps k∧ps.size≤i)
  (hQ:∀h',Heap.ExtBut it s.heap h'→Q none { s with heap:=h' }):wpAny (model prog w) A (pyNext (.ref it)) Q E s:=by
 obtain ⟨o,ho,hc,hd⟩:=id hit
 unfold pyNext
 refine wpAny_bind (wpAny_attempt (wpAny_callSpecial?_slot (name:=Str.ofString "__next__") hit.typeIs slot_setit_next
  (wpAny_call_entry slot_setit_next hit.typeIs entry_setit_next ?_ (args_setit_next _))))
 unfold Builtin.«set_iterator.__next__»
 refine wpAny_bind (wpAny_of_eq (a:=(Value.ref it,[])) rfl ?_)
 refine wpAny_bind (wpAny_fieldsOf ho hd ?_)
 show wpAny _ _ (setEntries a >>= _) _ _ s
 refine wpAny_bind (wpAny_bind (hs.st (wpAny_pure ?_)))
 dsimp only
 rw [if_neg (by rw [hn];simp)]
 rcases hf with ⟨slot,rfl,hN⟩ | ⟨T,oT,ps,k,rfl,hT,hdT,hps⟩
 ·refine wpAny_bind (hN _ _ _ ?_)
  refine wpAny_bind (wpAny_setField ho hd (by simp) ?_)
  refine stop_it (A:=A.in1) hh fun e h' k ty=>?_
  refine wpAny_bind (wpAny_isInstance (T:="StopIteration") (b:=true) ty isSubtype_stop ?_)
  exact wpAny_pure (hQ _ fun b o hb e=>k b o ((Heap.SameBut.update ..).extBut b o hb e))
 ·refine wpAny_bind (wpAny_seqItems hT hdT ?_)
  simp only [Int.toNat_natCast,Array.getElem?_eq_none hps]
  have ho1:=Heap.get?_update_self (Obj.mapFields (·.setIfInBounds 0 (rawInt 0))) ho (Obj.isFreed_of_fields (Obj.data_mapFields hd _))
  refine wpAny_bind (wpAny_setField ho hd (by simp) ?_)
  refine wpAny_bind (wpAny_setField ho1 (Obj.data_mapFields hd _) (by simp) ?_)
  refine stop_it (A:=A.in1) hh fun e h' k ty=>?_
  refine wpAny_bind (wpAny_isInstance (T:="StopIteration") (b:=true) ty isSubtype_stop ?_)
  exact wpAny_pure (hQ _ fun b o hb e=>k b o (((Heap.SameBut.update ..).trans (Heap.SameBut.update ..)).extBut b o hb e))
theorem next_D {T:Addr} {o:Obj} {ps:Array Value} {k j:Nat} {x:Int×Value} {Q:Option Value→Shared→Prop} (hit:IsSetIt s.heap it (.ref T) i a n ep) (hs:SetAt s.heap a es ep t) (hn:es.size=n) (hT:s.heap.get? T=some o) (hdT:o.data = .seq ps k) (hj:ps[i]? = some (.int j 0)) (hx:es[j]? = some x)
  (hQ:∀h',IsSetIt h' it (.ref T) (i + 1) a n ep→Heap.SameBut it s.heap h'→Q (some x.2) { s with heap:=h' }):wpAny (model prog w) A (pyNext (.ref it)) Q E s:=by
 obtain ⟨oi,ho,hc,hd⟩:=id hit
 unfold pyNext
 refine wpAny_bind (wpAny_attempt (wpAny_callSpecial?_slot (name:=Str.ofString "__next__") hit.typeIs slot_setit_next
  (wpAny_call_entry slot_setit_next hit.typeIs entry_setit_next ?_ (args_setit_next _))))
 unfold Builtin.«set_iterator.__next__»
 refine wpAny_bind (wpAny_of_eq (a:=(Value.ref it,[])) rfl ?_)
 refine wpAny_bind (wpAny_fieldsOf ho hd ?_)
 show wpAny _ _ (setEntries a >>= _) _ _ s
 refine wpAny_bind (wpAny_bind (hs.st (wpAny_pure ?_)))
 dsimp only
 rw [if_neg (by rw [hn];simp)]
 refine wpAny_bind (wpAny_seqItems hT hdT ?_)
 simp only [Int.toNat_natCast,hj]
 unfold setNextDrawn
 refine wpAny_bind (wpAny_bind (hs.st ?_))
 dsimp only
 rw [if_neg (by simp)]
 simp only [Int.toNat_natCast,hx]
 refine wpAny_pure ?_
 refine wpAny_bind (wpAny_setField ho hd (by simp) (wpAny_pure ⟨x.2,rfl,wpAny_pure (hQ _ ?_ (Heap.SameBut.update ..))⟩))
 exact ⟨_,Heap.get?_update_self _ ho (Obj.isFreed_of_fields (Obj.data_mapFields hd _)),(Obj.cls_mapFields ..).trans hc,by rw [Obj.data_mapFields hd];simp [rawInt]⟩
end
end L3
namespace L3
open PySem PyProof.Rows
section
variable {prog:Program} {w:World} {A:Around} {E:Value→Shared→Prop} {s:Shared} {it a:Addr} {es:Array (Int×Value)} {ep n i:Nat} {t:SetTable} {first:Value}
theorem choose_ok {src:Source} {n:Nat} {Q:Nat→Shared→Prop} (hn:n≠0) (h:∀k < n,Q k { s with drawn:=s.drawn.bump src }):wpAny (model prog w) A (choose src n) Q E s:=by
 intro Γ p hΓ
 exact ⟨hn,h _ (Nat.mod_lt _ (Nat.pos_of_ne_zero hn))⟩
theorem perm_erase {α:Type}:∀(l:List α) (k:Nat) (h:k < l.length),(l[k] :: l.eraseIdx k).Perm l
 | x :: xs,0,_=>List.Perm.refl _
 | x :: xs,k + 1,h=>(List.Perm.swap _ _ _).trans ((perm_erase xs k (Nat.lt_of_succ_lt_succ h)).cons x)
theorem draw_ok {α:Type}:∀(n:Nat) (xs:List α) (s:Shared) (Q:List α→Shared→Prop),xs.length=n→(∀ys d',ys.Perm xs→Q ys { s with drawn:=d' })→wpAny (model prog w) A (drawOrder n xs) Q E s
 | 0,xs,s,Q,hn,h=>by
  obtain rfl:=List.length_eq_zero_iff.mp hn
  exact wpAny_pure (h [] s.drawn (List.Perm.refl _))
 | n + 1,[],s,Q,hn,h=>by cases hn
 | n + 1,x :: xs,s,Q,hn,h=>by
  unfold drawOrder
  refine wpAny_bind (choose_ok (by simp) fun k hk=>?_)
  have e:(x :: xs)[k]? = some ((x :: xs)[k]):=List.getElem?_eq_getElem hk
  rw [e]
  refine wpAny_bind (draw_ok n ((x :: xs).eraseIdx k) _ _ (by rw [List.length_eraseIdx,if_pos hk,hn];rfl) fun ys d' p=>wpAny_pure ?_)
  exact h _ d' ((p.cons _).trans (perm_erase _ k hk))
theorem SetAt.keep {h h':Heap} (hs:SetAt h a es ep t) (k:∀o,h.get? a=some o→h'.get? a=some o):SetAt h' a es ep t:=by
 obtain ⟨⟨o,e,c,d⟩,f⟩:=hs
 exact ⟨⟨o,k o e,c,d⟩,f⟩
theorem iter_ok {Q:Value→Shared→Prop} (hs:SetAt s.heap a es ep t) (hn:es.size=n) (hl:n≤sizeLine)
  (hT:(w.params.followText "set-order"=true∨t.plain=true∨n≤1)→∀I h',IsSetIt h' I (.int 0 0) 0 a n ep→(∀b o,s.heap.get? b=some o→h'.get? b=some o)→s.heap.objs.size≤I→Q (.ref I) { s with heap:=h' })
  (hD:∀(ys:List Nat) I T h' d',ys.Perm (List.range n)→IsSetIt h' I (.ref T) 0 a n ep→(∃o,h'.get? T=some o∧o.data = .seq (ys.map fun i=>Value.int (i:Nat) 0).toArray 0)→(∀b o,s.heap.get? b=some o→h'.get? b=some o)→s.heap.objs.size≤I→s.heap.objs.size≤T→I≠T→Q (.ref I) { s with heap:=h',drawn:=d' }) :
  wpAny (model prog w) A (pyIter (.ref a)) Q E s:=by
 refine wpAny_pyIter_slot hs.typeIs PySem.F.slot_set_iter (wpAny_call_entry PySem.F.slot_set_iter hs.typeIs entry_set_iter ?_ (PySem.F.args_set_iter_1 _))
 unfold Builtin.«frozenset.__iter__»
 refine wpAny_bind (wpAny_of_eq (a:=a) rfl ?_)
 refine wpAny_bind (wpAny_bind (wpAny_bind (hs.st (wpAny_pure (wpAny_pure ?_)))))
 unfold setDrawn setsByText
 refine wpAny_bind (wpAny_bind (hs.st ?_))
 refine wpAny_bind (wpAny_bind (wpAny_askSetting (wpAny_pure ?_)))
 refine wpAny_pure ?_
 show wpAny _ _ (if (!w.params.followText "set-order" && (!t.plain && decide (es.size > 1)))=true then _ else _) _ _ s
 cases hb:(!w.params.followText "set-order" && (!t.plain && decide (es.size > 1))) with
 | true=>
  rw [if_pos rfl]
  refine wpAny_bind (draw_ok _ _ _ _ (by simp) fun ys d' p=>?_)
  have p:ys.Perm (List.range n):=by rw [←hn];exact p
  unfold newTuple
  refine wpAny_bind (wpAny_newObj_type ?_ ?_)
  ·unfold setEpoch
   refine wpAny_bind (wpAny_bind (SetAt.st (SetAt.keep hs fun o e=>Heap.get?_push_of_some _ e) (wpAny_pure ?_)))
   refine wpAny_bind (wpAny_newObj_type (wpAny_pure ⟨_,rfl,"set_iterator",_,⟨_,Heap.get?_push_size _ rfl,rfl⟩,slot_setit_next.lookup,hD ys _ s.heap.objs.size _ d' p ⟨_,Heap.get?_push_size _ rfl,rfl,?_⟩ ⟨_,Heap.get?_push_of_some _ (Heap.get?_push_size _ rfl),rfl⟩ (fun b o e=>Heap.get?_push_of_some _ (Heap.get?_push_of_some _ e)) ?_ (Nat.le_refl _) ?_⟩))
   ·rw [←hn];rfl
   ·rw [Heap.size_push];exact Nat.le_succ _
   ·rw [Heap.size_push];exact Nat.succ_ne_self _
  ·show (ys.map _).toArray.size≤sizeLine
   rw [List.size_toArray,List.length_map,p.length_eq,List.length_range];exact hl
 | false=>
  rw [if_neg Bool.false_ne_true]
  refine wpAny_bind (wpAny_pure ?_)
  unfold setEpoch
  refine wpAny_bind (wpAny_bind (hs.st (wpAny_pure ?_)))
  refine wpAny_bind (wpAny_newObj_type (wpAny_pure ⟨_,rfl,"set_iterator",_,⟨_,Heap.get?_push_size _ rfl,rfl⟩,slot_setit_next.lookup,hT ?_ _ _ ⟨_,Heap.get?_push_size _ rfl,rfl,?_⟩ (fun b o e=>Heap.get?_push_of_some _ e) (Nat.le_refl _)⟩))
  ·rw [←hn]
   revert hb
   cases w.params.followText "set-order" <;> cases t.plain <;> simp
  ·rw [←hn];rfl
end
end L3
namespace L3
open PySem PyProof.Rows
theorem pick_go {α:Type} (next:Nat→Nat):∀(fuel k:Nat) (left:List α) (out:Array α),left.length=fuel→∃p:List α,p.Perm left∧(pickOrder.go next fuel k left out).toList=out.toList ++ p
 | 0,k,left,out,h=>by
  obtain rfl:=List.length_eq_zero_iff.mp h
  exact ⟨[],List.Perm.refl _,(List.append_nil _).symm⟩
 | fuel + 1,k,left,out,h=>by
  have hk:next k % left.length < left.length:=Nat.mod_lt _ (by omega)
  have e:left[next k % left.length]? = some (left[next k % left.length]):=List.getElem?_eq_getElem hk
  obtain ⟨p,hp,ep⟩:=pick_go next fuel (k + 1) (left.eraseIdx (next k % left.length)) (out.push (left[next k % left.length])) (by rw [List.length_eraseIdx,if_pos hk,h];rfl)
  refine ⟨left[next k % left.length] :: p,(hp.cons _).trans (perm_erase left _ hk),?_⟩
  unfold pickOrder.go
  rw [e]
  dsimp only
  rw [ep,Array.toList_push,List.append_assoc]
  rfl
theorem pick_perm {α:Type} (next:Nat→Nat) (xs:Array α):(pickOrder next xs).toList.Perm xs.toList:=by
 obtain ⟨p,hp,e⟩:=pick_go next xs.size 0 xs.toList #[] (by simp)
 unfold pickOrder
 rw [e]
 exact hp
section
variable {prog:Program} {w:World} {A:Around} {E:Value→Shared→Prop} {s:Shared} {a:Addr} {es:Array (Int×Value)} {ep i slot:Nat} {t:SetTable}
theorem next_text {Q:Option (Value×Nat)→Shared→Prop} (hs:SetAt s.heap a es ep t) (hb:w.params.followText "set-order"=true) (h:Q (((pickOrder (w.params.setOrder a ep) es)[i]?).map fun e=>(e.2,slot)) s):wpAny (model prog w) A (setNext a slot i ep) Q E s:=by
 unfold setNext setsByText
 refine wpAny_bind (hs.st ?_)
 refine wpAny_bind (wpAny_bind (wpAny_askSetting (wpAny_pure ?_)))
 show wpAny _ _ (if w.params.followText "set-order"=true then _ else _) _ _ s
 rw [if_pos hb]
 dsimp only
 rw [if_neg (by simp)]
 unfold setWalk setsByText
 refine wpAny_bind (wpAny_bind (hs.st ?_))
 refine wpAny_bind (wpAny_bind (wpAny_askSetting (wpAny_pure ?_)))
 show wpAny _ _ (if w.params.followText "set-order"=true then _ else _) _ _ s
 rw [if_pos hb]
 refine wpAny_bind (wpAny_askSetting (wpAny_pure ?_))
 exact wpAny_pure h
theorem next_tab {Q:Option (Value×Nat)→Shared→Prop} (hs:SetAt s.heap a es ep t) (hb:w.params.followText "set-order"=false) (hl:t.led=true) (hp:t.plain=true∨es.size≤1)
  (h:Q (match es[SetTable.below t.place slot]?,t.place[SetTable.below t.place slot]? with | some (_,x),some j=>some (x,j + 1) | _,_=>none) s):wpAny (model prog w) A (setNext a slot i ep) Q E s:=by
 unfold setNext setsByText
 refine wpAny_bind (hs.st ?_)
 refine wpAny_bind (wpAny_bind (wpAny_askSetting (wpAny_pure ?_)))
 show wpAny _ _ (if w.params.followText "set-order"=true then _ else _) _ _ s
 rw [if_neg (by rw [hb];exact Bool.false_ne_true)]
 show wpAny _ _ (if (!t.plain && decide (es.size > 1))=true then _ else _) _ _ s
 rw [if_neg (by rcases hp with hp | hp;rw [hp];simp;simp;omega)]
 refine wpAny_bind ?_
 show wpAny _ _ (if (!t.led && !es.isEmpty)=true then _ else _) _ _ s
 rw [if_neg (by rw [hl];simp)]
 exact wpAny_pure (wpAny_pure h)
end
end L3
namespace L3
open PySem PyProof.Rows
def TupAt (h:Heap) (T:Addr) (ps:List Nat):Prop:=∃o,h.get? T=some o∧o.data = .seq (ps.map fun i=>Value.int (i:Nat) 0).toArray 0
section
variable {prog:Program} {w:World} {A:Around} {E:Value→Shared→Prop} {s:Shared} {I a T:Addr} {es:Array (Int×Value)} {ep n:Nat} {t:SetTable} {vals:List Value}
theorem IsSetIt.at' {h h':Heap} {first:Value} {i:Nat} (x:IsSetIt h I first i a n ep) (k:∀o,h.get? I=some o→h'.get? I=some o):IsSetIt h' I first i a n ep:=by
 obtain ⟨o,e,r⟩:=x
 exact ⟨o,k o e,r⟩
theorem iter_self {first:Value} {i:Nat} {Q:Value→Shared→Prop} (hit:IsSetIt s.heap I first i a n ep) (h:Q (.ref I) s):wpAny (model prog w) A (pyIter (.ref I)) Q E s:=by
 refine wpAny_pyIter_slot hit.typeIs slot_setit_iter (wpAny_call_entry slot_setit_iter hit.typeIs entry_setit_iter ?_ (args_setit_iter _))
 show wpAny _ _ (ret (.ref I)) _ _ s
 exact wpAny_pure ⟨_,rfl,"set_iterator",_,hit.typeIs,slot_setit_next.lookup,h⟩
theorem walk_T {slots:Nat→Nat} (hh:A.handled=none) (hne:a≠I) (hn:es.size=n) (hv:vals.length=n)
  (hN:∀(s:Shared) (A:Around) (E:Value→Shared→Prop) (Q:Option (Value×Nat)→Shared→Prop) (i:Nat),SetAt s.heap a es ep t→i≤n→Q ((vals[i]?).map fun x=>(x,slots (i + 1))) s→wpAny (model prog w) A (setNext a (slots i) i ep) Q E s) :
  Walks prog w A I [I,a] [I] n (fun i v=>vals[i]? = some v) (fun i h=>SetAt h a es ep t∧IsSetIt h I (.int (slots i) 0) i a n ep) where
 sub:=fun b hb=>by simp at hb;simp [hb]
 frame:=fun _ _ _ st hk=>⟨st.1.keep fun o e=>hk a (by simp) o e,st.2.at' fun o e=>hk I (by simp) o e⟩
 item:=fun i s Q E hi st hQ=>by
  have e:vals[i]? = some (vals[i]'(by omega)):=List.getElem?_eq_getElem _
  refine next_T st.2 st.1 hn (fun A E Q q=>hN s A E Q i st.1 (Nat.le_of_lt hi) (by rw [e];exact q)) fun h' it' sb=>?_
  exact hQ _ h' s.toks e ⟨st.1.keep fun o e=>sb.extBut a o hne e,it'⟩ fun b o hb e=>sb.extBut b o (fun h=>hb (by simp [h])) e
 done:=fun s Q E st hQ=>next_end hh st.2 st.1 hn (.inl ⟨_,rfl,fun A E Q q=>hN s A E Q n st.1 (Nat.le_refl _) (by rw [List.getElem?_eq_none (by omega)];exact q)⟩) fun h' he=>hQ h' s.toks fun b o hb e=>he b o (fun h=>hb (by simp [h])) e
 self:=fun _ _ _ _ st hQ=>iter_self st.2 hQ
theorem walk_D {ps:List Nat} (hh:A.handled=none) (hne:a≠I) (hne2:T≠I) (hn:es.size=n) (hp:ps.length=n) (hlt:∀j∈ps,j < n) :
  Walks prog w A I [I,a,T] [I] n (fun i v=>(ps.map fun j=>((es[j]?).map (·.2)).getD .none)[i]? = some v) (fun i h=>(SetAt h a es ep t∧TupAt h T ps)∧IsSetIt h I (.ref T) i a n ep) where
 sub:=fun b hb=>by simp at hb;simp [hb]
 frame:=fun _ _ _ st hk=>⟨⟨st.1.1.keep fun o e=>hk a (by simp) o e,let ⟨o,e,r⟩:=st.1.2;⟨o,hk T (by simp) o e,r⟩⟩,st.2.at' fun o e=>hk I (by simp) o e⟩
 item:=fun i s Q E hi st hQ=>by
  obtain ⟨o,hT,hdT⟩:=st.1.2
  have hi':i < ps.length:=by omega
  have hj:=hlt ps[i] (List.getElem_mem hi')
  have hx:es[ps[i]]? = some (es[ps[i]]'(by omega)):=Array.getElem?_eq_getElem _
  refine next_D st.2 st.1.1 hn hT hdT (j:=ps[i]) (by simp [hi']) hx fun h' it' sb=>?_
  exact hQ _ h' s.toks (by rw [List.getElem?_map,List.getElem?_eq_getElem hi',Option.map_some,hx];rfl) ⟨⟨st.1.1.keep fun o e=>sb.extBut a o hne e,⟨o,sb.extBut T o hne2 hT,hdT⟩⟩,it'⟩ fun b o hb e=>sb.extBut b o (fun h=>hb (by simp [h])) e
 done:=fun s Q E st hQ=>by
  obtain ⟨o,hT,hdT⟩:=st.1.2
  exact next_end hh st.2 st.1.1 hn (.inr ⟨T,o,_,0,rfl,hT,hdT,by simp;omega⟩) fun h' he=>hQ h' s.toks fun b o hb e=>he b o (fun h=>hb (by simp [h])) e
 self:=fun _ _ _ _ st hQ=>iter_self st.2 hQ
theorem hint_set {Q:Bool→Shared→Prop} (hT:s.TypeIs (.ref a) "set") (h:Q false s):wpAny (model prog w) A (Builtin.List.listLengthHint (.ref a)) Q E s:=by
 unfold Builtin.List.listLengthHint
 refine wpAny_bind (wpAny_specialOf hT PySem.F.slot_set_len.lookup ?_)
 generalize hid:("set.__len__":String)=id0
 wp_delta
 rw [show splitId id0=some ("set","__len__") from by subst hid;decide +kernel]
 subst hid
 refine wpAny_bind (wpAny_isInstance (T:="set") (b:=true) hT (by rw [isSubtype_type];kernel_rfl) ?_)
 refine wpAny_ite_split (fun hab=>absurd hab (by decide)) (fun _=>?_)
 refine wpAny_ite_split (fun _=>?_) (fun hab=>absurd (by decide +kernel) hab)
 refine wpAny_bind (wpAny_typeOf hT ?_)
 exact wpAny_pure h
end
end L3
namespace L3
open PySem PyProof.Rows
section
variable {prog:Program} {w:World} {A:Around} {E:Value→Shared→Prop} {s:Shared} {a:Addr} {es:Array (Int×Value)} {ep n:Nat} {t:SetTable}
structure Wk (w:World) (es:Array (Int×Value)) (t:SetTable):Prop where
 led:t.led = !w.params.followText "set-order"
 tab:w.params.followText "set-order"=false→(t.plain=true∨es.size≤1)→∃slots:Nat→Nat,slots 0=0∧∀i≤es.size,SetTable.below t.place (slots i)=i∧(t.place[i]?).map (· + 1)=if i < es.size then some (slots (i + 1)) else none
theorem walked {Q:Value→Shared→Prop} (hh:A.handled=none) (hs:SetAt s.heap a es ep t) (hn:es.size≤sizeLine) (k:Wk w es t)
  (h:∀(I:Addr) (fp:List Addr) (vals:List Value) (St:Nat→Heap→Prop) h' d',vals.Perm (es.toList.map (·.2))→Walks prog w A I fp [I] es.size (fun i v=>vals[i]? = some v) St→St 0 h'→(∀b o,s.heap.get? b=some o→h'.get? b=some o)→(∀b∈fp,b=a∨s.heap.objs.size≤b)→s.heap.objs.size≤I→Q (.ref I) { s with heap:=h',drawn:=d' }) :
  wpAny (model prog w) A (pyIter (.ref a)) Q E s:=by
 have ha:a < s.heap.objs.size:=by obtain ⟨o,e,_⟩:=hs.ex;exact Heap.lt_size e
 refine iter_ok hs rfl hn (fun hm I h' it kp hI=>?_) fun ys I T h' d' p it tp kp hI hT hIT=>?_
 ·cases hb:w.params.followText "set-order" with
  | true=>
   have pp:=pick_perm (w.params.setOrder a ep) es
   refine h I [I,a] ((pickOrder (w.params.setOrder a ep) es).toList.map (·.2)) _ h' s.drawn (pp.map _) (walk_T (slots:=fun _=>0) hh (Nat.ne_of_lt (Nat.lt_of_lt_of_le ha hI)) rfl (by rw [List.length_map,pp.length_eq,Array.length_toList]) fun s A E Q i st _ q=>next_text st hb ?_) ⟨hs.keep fun o e=>kp a o e,it⟩ kp (fun b hb=>?_) hI
   ·rw [List.getElem?_map,Array.getElem?_toList] at q
    simpa [Option.map_map,Function.comp_def] using q
   ·simp only [List.mem_cons,List.not_mem_nil,or_false] at hb
    rcases hb with rfl | rfl
    ·exact .inr hI
    ·exact .inl rfl
  | false=>
   have hl:t.led=true:=by rw [k.led,hb];rfl
   have hp:t.plain=true∨es.size≤1:=hm.resolve_left (by rw [hb];exact Bool.false_ne_true)
   obtain ⟨slots,s0,sl⟩:=k.tab hb hp
   refine h I [I,a] (es.toList.map (·.2)) _ h' s.drawn (List.Perm.refl _) (walk_T (slots:=slots) hh (Nat.ne_of_lt (Nat.lt_of_lt_of_le ha hI)) rfl (by rw [List.length_map,Array.length_toList]) fun s A E Q i st hi q=>next_tab st hb hl hp ?_) ⟨hs.keep fun o e=>kp a o e,by rw [s0];exact it⟩ kp (fun b hb=>?_) hI
   ·obtain ⟨b1,b2⟩:=sl i hi
    rw [b1]
    rw [List.getElem?_map,Array.getElem?_toList] at q
    by_cases c:i < es.size
    ·rw [if_pos c] at b2
     rw [Array.getElem?_eq_getElem c] at q ⊢
     cases e:t.place[i]? with
     | none=>rw [e] at b2;cases b2
     | some j=>
      rw [e] at b2
      have b2:j + 1=slots (i + 1):=Option.some.inj b2
      rw [←b2] at q
      exact q
    ·rw [Array.getElem?_eq_none (Nat.le_of_not_lt c)] at q ⊢
     exact q
   ·simp only [List.mem_cons,List.not_mem_nil,or_false] at hb
    rcases hb with rfl | rfl
    ·exact .inr hI
    ·exact .inl rfl
 ·refine h I [I,a,T] (ys.map fun j=>((es[j]?).map (·.2)).getD .none) _ h' d' ?_ (walk_D hh (Nat.ne_of_lt (Nat.lt_of_lt_of_le ha hI)) hIT.symm rfl (by rw [p.length_eq,List.length_range]) fun j hj=>List.mem_range.mp (p.mem_iff.mp hj)) ⟨⟨hs.keep fun o e=>kp a o e,tp⟩,it⟩ kp (fun b hb=>?_) hI
  ·refine (p.map _).trans (List.Perm.of_eq ?_)
   apply List.ext_getElem?
   intro i
   rw [List.getElem?_map,List.getElem?_map]
   by_cases c:i < es.size
   ·rw [List.getElem?_range c]
    simp [c]
   ·rw [List.getElem?_eq_none (show (List.range es.size).length≤i by rw [List.length_range];omega)]
    rw [List.getElem?_eq_none (show es.toList.length≤i by rw [Array.length_toList];omega)];rfl
  ·simp only [List.mem_cons,List.not_mem_nil,or_false] at hb
   rcases hb with rfl | rfl | rfl
   ·exact .inr hI
   ·exact .inl rfl
   ·exact .inr hT
theorem ext_loop {R:Result→Shared→Prop} {I S:Addr} {fp:List Addr} {P:Nat→Value→Prop} {St:Nat→Heap→Prop} {hx:Heap} {tk c₁:Nat} {d':Drawn} (W:Walks prog w A.in1 I fp [I] n P St) (hn:n≤sizeLine) (res:Value) (hSf:S∉fp) (_:True) (hst:St 0 hx) (hS:hx.get? S=some { cls:=.type "list",data:=.seq #[] c₁ })
  (hR:∀h2 tk2 acc c,(∀b o,b≠S→b≠I→hx.get? b=some o→h2.get? b=some o)→h2.get? S=some { cls:=.type "list",dict:=none,data:=.seq acc c,slots:=#[] }→ItemsOf P acc n→R (.ok (.ret res)) { s with heap:=h2,toks:=tk2,drawn:=d' }) :
  codeAny (model prog w) A (.builtin "list.extend.loop" ⟨[.ref S,.ref I,res],[]⟩) R { s with heap:=hx,toks:=tk,drawn:=d' }:=by
 refine codeAny_extend_loopS W.toS hn S hSf res n 0 _ #[] c₁ rfl (Nat.zero_le _) hst hS (ItemsOf.nil _) fun s' acc' c' hm hS' hacc=>?_
 rw [Moved.eq_with hm]
 refine hR s'.heap s'.toks acc' c' (fun b o hb hI e=>hm.heap b o (fun hmem=>?_) e) hS' hacc
 rcases List.mem_cons.mp hmem with e' | hmem
 ·exact hb e'
 ·exact hI (List.mem_singleton.mp hmem)
theorem collect_set {Q:List Value→Shared→Prop} (hh:A.handled=none) (hs:SetAt s.heap a es ep t) (hn:es.size≤sizeLine) (k:Wk w es t)
  (hQ:∀(vs:List Value) h' tk d',vs.Perm (es.toList.map (·.2))→(∀b o,s.heap.get? b=some o→h'.get? b=some o)→Q vs { s with heap:=h',toks:=tk,drawn:=d' }):wpAny (model prog w) A (collect (.ref a)) Q E s:=by
 have ha:a < s.heap.objs.size:=by obtain ⟨o,e,_⟩:=hs.ex;exact Heap.lt_size e
 unfold collect
 refine wpAny_bind (wpAny_runValue (codeAny_builtin F.entry_proto_collect ?_))
 rw [Around.under_plainId F.plain_proto_collect _]
 show wpAny _ A.in1 (newList [] >>= fun l=>again (.builtin "list.__iadd__" ⟨[l,.ref a],[]⟩)) _ _ s
 refine wpAny_bind (wpAny_newObj_type ?_)
 refine wpAny_pure ⟨plainId_quiet F.plain_list_iadd _,codeAny_builtin F.entry_list_iadd ?_⟩
 rw [Around.under_plainId F.plain_list_iadd _]
 show wpAny _ A.in1 (Builtin.List.listExtendWith (.ref s.heap.objs.size) (.ref a) (.ref s.heap.objs.size)) _ _ _
 have hS:(s.heap.push { cls:=.type "list",data:=.seq ([]:List Value).toArray }).get? s.heap.objs.size=some { cls:=.type "list",data:=.seq ([]:List Value).toArray }:=Heap.get?_push_size _ rfl
 have hs1:SetAt (s.heap.push { cls:=.type "list",data:=.seq ([]:List Value).toArray }) a es ep t:=hs.keep fun o e=>Heap.get?_push_of_some _ e
 unfold Builtin.List.listExtendWith
 refine wpAny_bind (wpAny_typeOf (T:="set") hs1.typeIs ?_)
 have h1:Builtin.List.listSameRef (.ref s.heap.objs.size) (.ref a)=false:=by simp [Builtin.List.listSameRef,Nat.ne_of_gt ha]
 have h2:(Value.type "set" == Value.type "list")=false:=by decide
 have h3:(Value.type "set" == Value.type "tuple")=false:=by decide
 simp only [h1,h2,h3,Bool.or_false,Bool.false_eq_true,if_false]
 refine wpAny_bind (walked (A:=A.in1) hh hs1 hn k fun I fp vals St h' d' pv W st kp hf hI=>?_)
 rw [Heap.size_push] at hI
 have hSf:s.heap.objs.size∉fp:=fun hm=>by
  rcases hf _ hm with e | e
  ·exact absurd e (Nat.ne_of_gt ha)
  ·rw [Heap.size_push] at e;exact absurd e (Nat.not_succ_le_self _)
 have hSh:h'.get? s.heap.objs.size=some { cls:=.type "list",data:=.seq ([]:List Value).toArray }:=kp _ _ hS
 refine wpAny_bind (wpAny_holding (hint_set (SetAt.typeIs (s:={ s with heap:=h',drawn:=d' }) (hs1.keep fun o e=>kp a o e)) ?_))
 have fin:∀(hx h2:Heap) (tk2 c:Nat) (acc:Array Value),(∀b o,b≠s.heap.objs.size→h'.get? b=some o→hx.get? b=some o)→(∀b o,b≠s.heap.objs.size→b≠I→hx.get? b=some o→h2.get? b=some o)→ItemsOf (fun i v=>vals[i]? = some v) acc es.size→Q acc.toList { s with heap:=h2,toks:=tk2,drawn:=d' }:=fun hx h2 tk2 c acc k1 k2 it=>by
  refine hQ acc.toList h2 tk2 d' ?_ fun b o e=>?_
  ·have:acc.toList=vals:=by
    apply List.ext_getElem?
    intro i
    by_cases c:i < es.size
    ·have hsz:=it.1
     have e:acc[i]? = some (acc[i]'(by omega)):=Array.getElem?_eq_getElem _
     rw [Array.getElem?_toList,e]
     exact (it.2 i _ e).symm
    ·have hv:vals.length=es.size:=by rw [pv.length_eq,List.length_map,Array.length_toList]
     have hsz:=it.1
     rw [List.getElem?_eq_none (by rw [Array.length_toList];omega),List.getElem?_eq_none (by omega)]
   rw [this];exact pv
  ·have bl:=Heap.lt_size e
   exact k2 b o (Nat.ne_of_lt bl) (fun z=>Nat.not_lt.mpr (Nat.le_of_succ_le hI) (z ▸ bl)) (k1 b o (Nat.ne_of_lt bl) (kp b o (Heap.get?_push_of_some _ e)))
 refine wpAny_ite_split (fun _=>?_) (fun _=>wpAny_pure ⟨plainId_quiet F.plain_extend_loop _,ext_loop W hn _ hSf trivial st hSh fun h2 tk2 acc c k2 hS2 it=>?_⟩)
 ·refine wpAny_bind (wpAny_rule ?_)
  refine wpAny_bind ?_
  show wpAny _ _ (updateSeq s.heap.objs.size (·.push .none) >>= fun _=>updateSeq s.heap.objs.size (·.pop)) _ _ _
  refine wpAny_bind (wpAny_updateSeq hSh rfl ?_)
  have hS₂:=Heap.get?_update_self (Obj.mapSeq (·.push Value.none)) hSh rfl
  refine wpAny_updateSeq (hz:=by seq_fits) hS₂ rfl ?_
  have hS₃:=Heap.get?_update_self (Obj.mapSeq (·.pop)) hS₂ rfl
  have oth:∀b o,b≠s.heap.objs.size→h'.get? b=some o→((h'.update s.heap.objs.size (Obj.mapSeq (·.push Value.none))).update s.heap.objs.size (Obj.mapSeq (·.pop))).get? b=some o:=fun b o hb e=>(Heap.get?_update_other _ _ (Ne.symm hb)).trans ((Heap.get?_update_other _ _ (Ne.symm hb)).trans e)
  refine wpAny_pure ⟨plainId_quiet F.plain_extend_loop _,ext_loop W hn _ hSf trivial (W.frame 0 _ _ st fun b hb o e=>oth b o (fun z=>hSf (z ▸ hb)) e) hS₃ fun h2 tk2 acc c k2 hS2 it=>?_⟩
  show wpAny _ A (load s.heap.objs.size >>= _) _ _ _
  refine wpAny_bind (wpAny_load hS2 ?_)
  exact wpAny_pure (fin _ h2 tk2 c acc oth k2 it)
 ·show wpAny _ A (load s.heap.objs.size >>= _) _ _ _
  refine wpAny_bind (wpAny_load hS2 ?_)
  exact wpAny_pure (fin _ h2 tk2 c acc (fun _ _ _ e=>e) k2 it)
end
end L3
namespace L3
open PySem PyProof.Rows
def relD (t:SetTable) (es:Array (Int×Value)) (wasDummy:Bool):Array (Int×Value)×SetTable:=if (!wasDummy && t.tooFull)=true then ((relayAll t es (SetTable.grown es.size)).1,(relayAll t es (SetTable.grown es.size)).2.1) else (es,t)
def addSt (t:SetTable) (es:Array (Int×Value)) (h:Int) (x:Value):Array (Int×Value)×SetTable:=
 relD (if ((layNew t es h x).2.1.plain && !plainKind x)=true then { (layNew t es h x).2.1 with plain:=false } else (layNew t es h x).2.1) (layNew t es h x).1 (layNew t es h x).2.2.1
section
variable {prog:Program} {w:World} {K:Type} [DecidableEq K] [BEq K] [LawfulBEq K] {knd:KeyKind prog w K} {A:Around} {E:Value→Shared→Prop} {s:Shared} {a:Addr} {es:Array (Int×Value)} {ep:Nat} {t:SetTable} {k:K} {x:Value}
structure SetX (knd:KeyKind prog w K) (h:Heap) (a:Addr) (es:Array (Int×Value)) (ep:Nat) (t:SetTable):Prop where
 at':SetAt h a es ep t
 el:ElemsOf knd es.toList
theorem rel_perm {b:Bool}:(relD t es b).1.toList.Perm es.toList:=by
 unfold relD
 split
 ·exact relayAll_perm ..
 ·exact List.Perm.refl _
theorem tail_x {g:Bool→Sem Unit} (hg:∀(b:Bool) (s₁:Shared) (Q':Unit→Shared→Prop),Q' () s₁→wpAny (model prog w) A (g b) Q' E s₁)
  {o:Obj} (ho:s.heap.get? a=some o) (hc:o.cls = .type "set") (hd:o.data = .set es ep t)
  {es1:Array (Int×Value)} {t2:SetTable} (hel1:ElemsOf knd es1.toList) (hb1:es1.size < scanBound) (hf2:t2.fits es1.size=true) {wd:Bool} {R:Option Bool→Shared→Prop}
  (h:∀h' ep',Heap.SameBut a s.heap h'→SetX knd h' a (relD t2 es1 wd).1 ep' (relD t2 es1 wd).2→R (some true) { s with heap:=h' }) :
  wpAny (model prog w) A (do
    storeSet a es1 t2
    if (!wd && t2.tooFull)=true then do
      g (relayAll t2 es1 (SetTable.grown es1.size)).2.2
      storeSet a (relayAll t2 es1 (SetTable.grown es1.size)).1 (relayAll t2 es1 (SetTable.grown es1.size)).2.1
      pure (some true)
     else pure (some true)) R E s:=by
 have put:∀(hp:Heap) (o:Obj) (es:Array (Int×Value)) (ep:Nat) (t:SetTable) (es':Array (Int×Value)) (t':SetTable),hp.get? a=some o→o.data = .set es ep t→(hp.update a (Obj.putSet es' t')).get? a=some { o with data:=.set es' (ep + 1) t' }:=fun hp o es ep t es' t' ho hd=>by
  have:=Heap.get?_update_self (Obj.putSet es' t') ho (by rw [putSet_of es' t' hd];rfl)
  rw [putSet_of es' t' hd] at this;exact this
 refine wpAny_bind (wpAny_storeSet_of ho hd ?_ (fits_of_scanBound hb1))
 have ho1:=put _ o es ep t es1 t2 ho hd
 have hsb1:=Heap.SameBut.update s.heap a (Obj.putSet es1 t2)
 unfold relD at h
 split
 ·rename_i c
  rw [if_pos c] at h
  have hp:=relayAll_perm t2 es1 (SetTable.grown es1.size)
  have hfr:=relayAll_fits t2 es1 (SetTable.grown es1.size)
  generalize relayAll t2 es1 (SetTable.grown es1.size)=Rl at hp hfr h ⊢
  obtain ⟨es2,t3,gave2⟩:=Rl
  dsimp only at hp hfr h ⊢
  have hb2:es2.size < scanBound:=by rw [←Array.length_toList,hp.length_eq,Array.length_toList];exact hb1
  refine wpAny_bind (hg _ _ _ ?_)
  refine wpAny_bind (wpAny_storeSet_of ho1 rfl ?_ (fits_of_scanBound hb2))
  have ho2:=put _ _ es1 (ep + 1) t2 es2 t3 ho1 rfl
  exact wpAny_pure (h _ _ (hsb1.trans (Heap.SameBut.update _ a _)) ⟨⟨⟨_,ho2,hc,rfl⟩,hfr⟩,hel1.perm hp⟩)
 ·rename_i c
  rw [if_neg c] at h
  exact wpAny_pure (h _ _ hsb1 ⟨⟨⟨_,ho1,hc,rfl⟩,hf2⟩,hel1⟩)
theorem add_x {Q:Bool→Shared→Prop} (hkey:knd.is k x=true) (hsc:x.scannable=true) (hS:SetX knd s.heap a es ep t) (hb:es.size + 1 < scanBound) (hno:∀e∈es.toList,knd.is k e.2=false)
  (h:∀h' ep',Heap.SameBut a s.heap h'→SetX knd h' a (addSt t es (knd.hash k) x).1 ep' (addSt t es (knd.hash k) x).2→Q true { s with heap:=h' }) :
  wpAny (model prog w) A (setAddHashed a x (knd.hash k)) Q E s:=by
 obtain ⟨⟨⟨o,ho,hc,hd⟩,hf⟩,hel⟩:=hS
 unfold setAddHashed setAddHashedIn
 refine wpAny_holding (wpAny_bind (wpAny_setState_of ho hd hf ?_))
 dsimp only
 rw [byScan_of hsc (by omega) hel]
 simp only [↓reduceIte]
 unfold setAddByScan
 refine wpAny_bind ?_
 refine wpAny_bind (wpAny_rule ?_)
 refine wpAny_bind (wpAny_setScan_of hkey ho hd hf hel ?_)
 rw [List.findIdx?_eq_none_iff.mpr fun e he=>by rw [hno e he]]
 dsimp only
 have hgw:∀(b:Bool) {s₁:Shared} {Q':Unit→Shared→Prop},Q' () s₁→wpAny (model prog w) A (match b with | true=>rule "set.scan.the-table-gave-way" | false=>pure ()) Q' E s₁:=
  fun b s₁ Q' hq=>by cases b <;> first | exact wpAny_pure hq | exact wpAny_rule hq
 have hperm:=layNew_perm t es (knd.hash k) x
 have hfits:=layNew_fits t es (knd.hash k) x
 have h:∀h' ep',Heap.SameBut a s.heap h'→SetX knd h' a (relD (if ((layNew t es (knd.hash k) x).2.1.plain && !plainKind x)=true then { (layNew t es (knd.hash k) x).2.1 with plain:=false } else (layNew t es (knd.hash k) x).2.1) (layNew t es (knd.hash k) x).1 (layNew t es (knd.hash k) x).2.2.1).1 ep' (relD (if ((layNew t es (knd.hash k) x).2.1.plain && !plainKind x)=true then { (layNew t es (knd.hash k) x).2.1 with plain:=false } else (layNew t es (knd.hash k) x).2.1) (layNew t es (knd.hash k) x).1 (layNew t es (knd.hash k) x).2.2.1).2→Q true { s with heap:=h' }:=h
 generalize layNew t es (knd.hash k) x=L at hperm hfits h ⊢
 obtain ⟨es1,t1,wd,gave⟩:=L
 dsimp only at hperm hfits h ⊢
 rw [Array.toList_push] at hperm
 have hel1:ElemsOf knd es1.toList:=(hel.push hkey hsc).perm hperm
 have hb1:es1.size < scanBound:=by rw [←Array.length_toList,hperm.length_eq,List.length_append,Array.length_toList];simpa using hb
 refine wpAny_bind (hgw _ ?_)
 by_cases hp:t1.plain=true
 ·rw [if_pos hp]
  refine wpAny_bind ?_
  rw [hashByValue_scannable 8 hsc]
  refine wpAny_pure ?_
  have e:(if (t1.plain && !plainKind x)=true then { t1 with plain:=false } else t1)=(if plainKind x=true then t1 else { t1 with plain:=false }):=by rw [hp];cases plainKind x <;> rfl
  rw [e] at h
  refine tail_x (knd:=knd) ?_ ho hc hd hel1 hb1 ?_ ?_
  ·intro b s₁ Q' hq;cases b <;> first | exact wpAny_pure hq | exact wpAny_rule hq
  ·split
   ·exact hfits
   ·exact SetTable.fits_plain_off hfits
  ·intro h' ep' hsb hS';dsimp only;exact wpAny_pure (h h' ep' hsb hS')
 ·rw [if_neg hp]
  refine wpAny_bind (wpAny_pure ?_)
  simp only [↓reduceIte]
  have e:(if (t1.plain && !plainKind x)=true then { t1 with plain:=false } else t1)=t1:=by rw [Bool.not_eq_true] at hp;rw [hp];rfl
  rw [e] at h
  refine tail_x (knd:=knd) ?_ ho hc hd hel1 hb1 hfits ?_
  ·intro b s₁ Q' hq;cases b <;> first | exact wpAny_pure hq | exact wpAny_rule hq
  ·intro h' ep' hsb hS';dsimp only;exact wpAny_pure (h h' ep' hsb hS')
end
end L3
namespace L3
open PySem PyProof.Rows
def grow (led:Bool) (l:List (Int×Value)):Array (Int×Value)×SetTable:=l.foldl (fun st p=>addSt st.2 st.1 p.1 p.2) (#[],.fresh 0 0 led)
theorem grow_snoc {led:Bool} {l:List (Int×Value)} {p:Int×Value}:grow led (l ++ [p])=addSt (grow led l).2 (grow led l).1 p.1 p.2:=by
 unfold grow;rw [List.foldl_append];rfl
theorem snoc_ind {α:Type} {P:List α→Prop} (h0:P []) (h1:∀l a,P l→P (l ++ [a])):∀l,P l:=by
 have h:∀l:List α,P l.reverse:=fun l=>by
  induction l with
  | nil=>exact h0
  | cons a r ih=>rw [List.reverse_cons];exact h1 _ _ ih
 intro l
 have:=h l.reverse
 rwa [List.reverse_reverse] at this
theorem addSt_perm {t:SetTable} {es:Array (Int×Value)} {h:Int} {x:Value}:(addSt t es h x).1.toList.Perm (es.toList ++ [(h,x)]):=by
 unfold addSt
 refine rel_perm.trans ?_
 have:=layNew_perm t es h x
 rwa [Array.toList_push] at this
theorem grow_perm (led:Bool) (l:List (Int×Value)):(grow led l).1.toList.Perm l:=by
 induction l using snoc_ind with
 | h0=>exact List.Perm.refl _
 | h1 l a ih=>rw [grow_snoc];exact addSt_perm.trans (ih.append_right _)
theorem laid_led {mask finger moves:Nat} {led plain:Bool} {hs:Array Int} {r:SetTable×Array Nat} (h:SetTable.laid mask finger moves led plain hs=some r):r.1.led=led∧r.1.plain=plain:=by
 unfold SetTable.laid at h
 cases e:SetTable.layClean mask hs with
 | none=>rw [e] at h;cases h
 | some o=>rw [e] at h;cases h;exact ⟨rfl,rfl⟩
theorem relay_led {t:SetTable} {es:Array (Int×Value)} {n:Nat}:(relayAll t es n).2.1.led=t.led∧(t.plain=false→(relayAll t es n).2.1.plain=false):=by
 unfold relayAll
 cases e:t.relaid (es.map (·.1)) n with
 | none=>exact ⟨rfl,fun _=>rfl⟩
 | some r=>
  obtain ⟨h1,h2⟩:=laid_led e
  dsimp only
  split
  ·exact ⟨h1,fun h=>h2.trans h⟩
  ·exact ⟨rfl,fun _=>rfl⟩
theorem relD_led {t:SetTable} {es:Array (Int×Value)} {b:Bool}:(relD t es b).2.led=t.led∧(t.plain=false→(relD t es b).2.plain=false):=by
 unfold relD
 split
 ·exact relay_led
 ·exact ⟨rfl,id⟩
theorem lay_led {t:SetTable} {es:Array (Int×Value)} {h:Int} {x:Value}:(layNew t es h x).2.1.led=t.led∧(t.plain=false→(layNew t es h x).2.1.plain=false):=by
 unfold layNew
 cases e:t.freeSlot h with
 | none=>exact ⟨rfl,fun _=>rfl⟩
 | some r=>
  obtain ⟨sl,wd⟩:=r
  dsimp only
  unfold SetTable.orStandIn
  split
  ·exact ⟨rfl,id⟩
  ·exact ⟨rfl,fun _=>rfl⟩
theorem addSt_led {t:SetTable} {es:Array (Int×Value)} {h:Int} {x:Value}:(addSt t es h x).2.led=t.led∧(plainKind x=false→(addSt t es h x).2.plain=false):=by
 unfold addSt
 obtain ⟨l1,l2⟩:=lay_led (t:=t) (es:=es) (h:=h) (x:=x)
 refine ⟨relD_led.1.trans ?_,fun hx=>relD_led.2 ?_⟩
 ·split
  ·exact l1
  ·exact l1
 ·rw [hx]
  cases e:(layNew t es h x).2.1.plain with
  | true=>rfl
  | false=>exact e
theorem grow_led (led:Bool) (l:List (Int×Value)):(grow led l).2.led=led:=by
 induction l using snoc_ind with
 | h0=>rfl
 | h1 l a ih=>rw [grow_snoc];exact addSt_led.1.trans ih
theorem grow_str (led:Bool) (l:List (Int×Value)) (h:∀e∈l,plainKind e.2=false):l=[]∨(grow led l).2.plain=false:=by
 induction l using snoc_ind with
 | h0=>exact .inl rfl
 | h1 l a ih=>rw [grow_snoc];exact .inr (addSt_led.2 (h a (by simp)))
theorem tab_small {es:Array (Int×Value)} {t:SetTable} (hf:t.fits es.size=true) (hn:es.size≤1):∃slots:Nat→Nat,slots 0=0∧∀i≤es.size,SetTable.below t.place (slots i)=i∧(t.place[i]?).map (· + 1)=if i < es.size then some (slots (i + 1)) else none:=by
 have hs:t.place.size=es.size:=by
  unfold SetTable.fits at hf
  rw [Bool.and_eq_true,beq_iff_eq] at hf
  exact hf.1
 generalize t.place=pl at hs ⊢
 obtain ⟨pl⟩:=pl
 rw [←hs] at hn ⊢
 match pl,hn with
 | [],_=>
  refine ⟨fun _=>0,rfl,fun i hi=>?_⟩
  obtain rfl:i=0:=Nat.le_zero.mp hi
  exact ⟨rfl,rfl⟩
 | [p],_=>
  refine ⟨fun i=>if i=0 then 0 else p + 1,rfl,fun i hi=>?_⟩
  match i,hi with
  | 0,_=>exact ⟨rfl,rfl⟩
  | 1,_=>
   refine ⟨?_,rfl⟩
   show SetTable.below.go #[p] (p + 1) 1 0 1=1
   unfold SetTable.below.go
   rw [if_pos Nat.one_pos]
   show (if p < p + 1 then SetTable.below.go #[p] (p + 1) 0 1 1 else _)=1
   rw [if_pos (Nat.lt_succ_self p)]
   rfl
theorem wk_str {w:World} {l:List (Int×Value)} (h:∀e∈l,plainKind e.2=false) (hf:(grow (!w.params.followText "set-order") l).2.fits (grow (!w.params.followText "set-order") l).1.size=true):Wk w (grow (!w.params.followText "set-order") l).1 (grow (!w.params.followText "set-order") l).2:=by
 refine ⟨grow_led _ _,fun _ hp=>tab_small hf ?_⟩
 rcases hp with hp | hp
 ·rcases grow_str (!w.params.followText "set-order") l h with rfl | hq
  ·exact Nat.zero_le _
  ·rw [hq] at hp;cases hp
 ·exact hp
def subs:List Int→List (List Int)
 | []=>[[]]
 | a :: r=>(subs r).map (a :: ·) ++ subs r
theorem inc_mem:∀(n:Nat) (lo:Int) (ks:List Int),ks.Pairwise (· < ·)→(∀k∈ks,lo≤k∧k < lo + n)→ks∈subs ((List.range n).map fun i:Nat=>lo + (i:Int))
 | 0,lo,ks,_,h=>by
  match ks with
  | []=>exact List.mem_singleton.mpr rfl
  | k :: r=>have:=h k (by simp);omega
 | n + 1,lo,ks,hp,h=>by
  have e:(List.range (n + 1)).map (fun i:Nat=>lo + (i:Int))=lo :: (List.range n).map fun i:Nat=>(lo + 1) + (i:Int):=by
   rw [List.range_succ_eq_map,List.map_cons,List.map_map]
   refine congr (congrArg _ (by simp)) (List.map_congr_left fun i _=>?_)
   simp only [Function.comp_apply];push_cast;omega
  rw [e]
  unfold subs
  rw [List.mem_append]
  match ks,hp,h with
  | [],_,_=>exact .inr (inc_mem n _ [] List.Pairwise.nil fun k hk=>by cases hk)
  | k :: r,hp,h=>
   rw [List.pairwise_cons] at hp
   have hk:=h k (by simp)
   by_cases c:k=lo
   ·subst c
    refine .inl (List.mem_map_of_mem (inc_mem n _ r hp.2 fun x hx=>?_))
    have:=hp.1 x hx;have:=h x (by simp [hx]);push_cast at *;omega
   ·refine .inr (inc_mem n _ (k :: r) (List.pairwise_cons.mpr hp) fun x hx=>?_)
    have h2:=h x hx
    rcases List.mem_cons.mp hx with rfl | hx
    ·push_cast at *;omega
    ·have:=hp.1 x hx;push_cast at *;omega
end L3
namespace L3
open PySem PyProof.Rows
def intsAs (f:Int→Tok) (ks:List Int):List (Int×Value):=ks.map fun k=>(k,.int k (f k))
def six:List Int:=(List.range 6).map fun i:Nat=>0 + (i:Int)
theorem tab_all (f:Int→Tok) (led:Bool):((subs six).map fun ks=>(grow led (intsAs f ks)).2.place)=(subs six).map fun ks=>(ks.map Int.toNat).toArray:=by kernel_rfl
theorem below_all:((subs six).all fun ks=>(List.range (ks.length + 1)).all fun i=>SetTable.below (ks.map Int.toNat).toArray (if i=0 then 0 else (ks.map Int.toNat).getD (i - 1) 0 + 1) == i)=true:=by decide +kernel
theorem wk_int {w:World} {f:Int→Tok} {ks:List Int} (hp:ks.Pairwise (· < ·)) (hk:∀k∈ks,0≤k∧k < 6):Wk w (grow (!w.params.followText "set-order") (intsAs f ks)).1 (grow (!w.params.followText "set-order") (intsAs f ks)).2:=by
 have hm:ks∈subs six:=inc_mem 6 0 ks hp fun k h=>by have:=hk k h;omega
 refine ⟨grow_led _ _,fun _ _=>?_⟩
 generalize (!w.params.followText "set-order")=led
 have e1:(grow led (intsAs f ks)).2.place=(ks.map Int.toNat).toArray:=List.map_inj_left.mp (tab_all f led) ks hm
 have e2:(grow led (intsAs f ks)).1.size=ks.length:=by
  rw [←Array.length_toList,(grow_perm led _).length_eq];unfold intsAs;rw [List.length_map]
 rw [e1,e2]
 refine ⟨fun i=>if i=0 then 0 else (ks.map Int.toNat).getD (i - 1) 0 + 1,rfl,fun i hi=>⟨?_,?_⟩⟩
 ·have:=List.all_eq_true.mp (List.all_eq_true.mp below_all ks hm) i (List.mem_range.mpr (Nat.lt_succ_of_le hi))
  exact beq_iff_eq.mp this
 ·rw [List.getElem?_toArray]
  by_cases c:i < ks.length
  ·rw [if_pos c]
   show _=some ((ks.map Int.toNat).getD i 0 + 1)
   simp [c]
  ·rw [if_neg c,List.getElem?_eq_none (by rw [List.length_map];omega)];rfl
end L3
namespace L3
open PySem PyProof.Rows
section
variable {prog:Program} {w:World} {K:Type} [DecidableEq K] [BEq K] [LawfulBEq K] {knd:KeyKind prog w K} {A:Around} {E:Value→Shared→Prop} {s:Shared}
abbrev newSt (w:World):Obj:={ cls:=.type "set",dict:=none,data:=.set #[] 0 (.fresh 0 0 (!w.params.followText "set-order")) }
theorem new_set_1 (a:Value) {Q₁:Value→Shared→Prop} (h:Q₁ (.ref s.heap.objs.size) { s with heap:=s.heap.push (newSt w) }) :
  codeAny (model prog w) A (.call (.builtin "set.__new__") ⟨[.type "set",a],[]⟩) (wants Q₁ E) s:=by
 refine codeAny_of_tree ?_
 show wpAny _ A.in1 (do checkBuiltinCall "set.__new__" ⟨[.type "set",a],[]⟩;again (.builtin "set.__new__" ⟨[.type "set",a],[]⟩)) _ _ s
 refine wpAny_bind (wpAny_of_eq (F.newCall_set_1 a) (wpAny_pure ⟨plainId_quiet F.plain_set_new _,codeAny_builtin F.entry_set_new ?_⟩))
 rw [Around.under_plainId F.plain_set_new _]
 unfold Builtin.«set.__new__» Builtin.Frozenset.newClass
 have hsub:=sub_set_self
 obtain ⟨hp,g,d,tk,os⟩:=s
 dsimp only
 wp_walk
 refine wpAny_askSetting (wpAny_pure ?_)
 dsimp only
 simp only [newObj]
 refine wpAny_bind (wpAny_alloc (wpAny_pure ?_))
 exact wpAny_pure h
theorem upd_loop {R:Result→Shared→Prop} {I:Addr} {fp wr:List Addr} {G:Array GenState→Array GenState→Prop} {n:Nat} {St:Nat→Shared→Prop} {vs:List Value} {keys:List K}
  (W:WalksS prog w A.in1 I fp wr G n (fun i v=>vs[i]? = some v) St) (S:Addr) (hSf:S∉fp) (hn:vs.length=n) (hkn:keys.length=n) (hb:n + 1 < scanBound)
  (hk:∀(i:Nat) v k,vs[i]? = some v→keys[i]? = some k→knd.is k v=true∧v.scannable=true) (hd:keys.Nodup) (led:Bool) :
  ∀(k i:Nat) (s:Shared),n - i=k→i≤n→St i s→(∃ep,SetX knd s.heap S (grow led (((keys.map knd.hash).zip vs).take i)).1 ep (grow led (((keys.map knd.hash).zip vs).take i)).2)→
   (∀s' ep,Moved (S :: wr) G s s'→SetX knd s'.heap S (grow led ((keys.map knd.hash).zip vs)).1 ep (grow led ((keys.map knd.hash).zip vs)).2→R (.ok (.ret .none)) s')→
   codeAny (model prog w) A (.builtin "set.update.loop" ⟨[.ref S,.ref I],[]⟩) R s:=by
 have hSw:S∉wr:=fun h=>hSf (W.sub _ h)
 have hsub:∀b∈wr,b∈S :: wr:=fun b hb=>List.mem_cons_of_mem _ hb
 have hz:((keys.map knd.hash).zip vs).length=n:=by rw [List.length_zip,List.length_map,hkn,hn,Nat.min_self]
 intro k
 induction k with
 | zero=>
  intro i s hk hi hst hS hR
  have hin:i=n:=by omega
  subst hin
  obtain ⟨ep,hS⟩:=hS
  rw [List.take_of_length_le (by rw [hz];exact Nat.le_refl _)] at hS
  refine codeAny_builtin F.entry_set_update_loop ?_
  rw [Around.under_plainId F.plain_set_update_loop _]
  show wpAny _ A.in1 (pyNext (.ref I) >>= _) _ _ s
  refine wpAny_bind (W.done s _ _ hst fun s' hm=>?_)
  show wpAny _ A.in1 (ret Value.none) _ _ s'
  exact wpAny_pure (hR s' ep (hm.mono hsub) ⟨hS.at'.keep fun o e=>hm.heap S _ hSw e,hS.el⟩)
 | succ k ih=>
  intro i s hk' hi hst hS hR
  have hlt:i < n:=by omega
  obtain ⟨ep,hS⟩:=hS
  refine codeAny_builtin F.entry_set_update_loop ?_
  rw [Around.under_plainId F.plain_set_update_loop _]
  show wpAny _ A.in1 (pyNext (.ref I) >>= _) _ _ s
  refine wpAny_bind (W.item i s _ _ hlt hst fun v s' hP hst' hm=>?_)
  have hki:keys[i]? = some (keys[i]'(by omega)):=List.getElem?_eq_getElem _
  generalize keys[i]'(by omega)=ki at hki
  obtain ⟨h1,h2⟩:=hk i v ki hP hki
  have hS':SetX knd s'.heap S (grow led (((keys.map knd.hash).zip vs).take i)).1 ep (grow led (((keys.map knd.hash).zip vs).take i)).2:=⟨hS.at'.keep fun o e=>hm.heap S _ hSw e,hS.el⟩
  show wpAny _ A.in1 (holding [v] (setAdd S v) >>= _) _ _ s'
  refine wpAny_bind (wpAny_holding ?_)
  unfold setAdd
  refine wpAny_holding ?_
  refine wpAny_bind (knd.pyHash (k:=ki) h1 ?_)
  have hpm:=grow_perm led (((keys.map knd.hash).zip vs).take i)
  have hsz:(grow led (((keys.map knd.hash).zip vs).take i)).1.size≤i:=by
   rw [←Array.length_toList,hpm.length_eq,List.length_take];exact Nat.min_le_left _ _
  refine add_x (knd:=knd) (s:={ s' with toks:=s'.toks + 1 }) h1 h2 hS' (by omega) (fun e he=>?_) fun h' ep' hsb hX=>?_
  ·have he:=hpm.mem_iff.mp he
   obtain ⟨j,hj,ej⟩:=List.mem_iff_getElem.mp he
   rw [List.length_take] at hj
   have hj1:j < i:=by omega
   rw [List.getElem_take,List.getElem_zip] at ej
   subst ej
   dsimp only
   cases hc:knd.is ki (vs[j]'(by omega)) with
   | false=>rfl
   | true=>
    have hj2:keys[j]? = some (keys[j]'(by omega)):=List.getElem?_eq_getElem _
    obtain ⟨h3,_⟩:=hk j _ _ (List.getElem?_eq_getElem (by omega)) hj2
    have e:=knd.inj _ _ _ hc h3
    rw [e] at hki
    exact absurd ((List.getElem?_inj (i:=i) (j:=j) (by omega) hd).mp (hki.trans hj2.symm)) (by omega)
  ·have et:((keys.map knd.hash).zip vs).take (i + 1)=((keys.map knd.hash).zip vs).take i ++ [(knd.hash ki,v)]:=by
    rw [List.take_succ]
    congr 1
    have:((keys.map knd.hash).zip vs)[i]? = some (knd.hash ki,v):=by
     rw [List.getElem?_zip_eq_some]
     exact ⟨by rw [List.getElem?_map,hki];rfl,hP⟩
    rw [this];rfl
   have hX1:SetX knd h' S (grow led (((keys.map knd.hash).zip vs).take (i + 1))).1 ep' (grow led (((keys.map knd.hash).zip vs).take (i + 1))).2:=by rw [et,grow_snoc];exact hX
   refine wpAny_pure ⟨plainId_quiet F.plain_set_update_loop _,ih (i + 1) _ (by omega) hlt (W.frame _ s' _ _ hst' (Nat.le_succ _) fun b hb o e=>?_) ⟨ep',hX1⟩ fun s'' ep'' hm'' hS''=>?_⟩
   ·rw [hsb.2 b (fun h:b=S=>hSf (by rw [←h];exact hb))];exact e
   ·refine hR s'' ep'' (Moved.trans W.gtrans ((hm.mono hsub).then_heap (Nat.le_succ _) fun b o hb e=>?_) hm'') hS''
    rw [hsb.2 b (fun h:b=S=>hb (by rw [h];exact List.mem_cons_self))];exact e
set_option maxHeartbeats 3200000 in
theorem set_of {l:Addr} {vs:List Value} {keys:List K} {Q:Value→Shared→Prop} (hh:A.handled=none) (hl:s.heap.IsList l vs.toArray) (hkn:keys.length=vs.length) (hb:vs.length + 1 < scanBound)
  (hk:∀(i:Nat) v k,vs[i]? = some v→keys[i]? = some k→knd.is k v=true∧v.scannable=true) (hd:keys.Nodup)
  (h:∀(h':Heap) (tk ep:Nat),SetX knd h' s.heap.objs.size (grow (!w.params.followText "set-order") ((keys.map knd.hash).zip vs)).1 ep (grow (!w.params.followText "set-order") ((keys.map knd.hash).zip vs)).2→
   (∀b o,s.heap.get? b=some o→h'.get? b=some o)→Q (.ref s.heap.objs.size) { s with heap:=h',toks:=tk }) :
  wpAny (model prog w) A (call (.type "set") [.ref l]) Q E s:=by
 obtain ⟨c,tl,hmro⟩:=F.called_set.mro
 have hmade:=F.called_set.made
 have hsub:=F.called_set.sub
 refine wpAny_call (codeAny_of_tree ?_)
 show wpAny _ _ (callAny (.type "set") _) _ _ _
 refine wpAny_pure ⟨Code.quiet_builtin _ (by decide +kernel),codeAny_builtin F.entry_type_call ?_⟩
 rw [Around.under_plain (weight_type_call_type "set" [.ref l] []) rfl]
 have h1:=F.called_set.notType
 have h2:=F.called_set.canCreate
 have hct:=F.typeCall_set_1 (.ref l)
 repeat (any_goals (first | assumption | wp_step))
 refine codeAny_mono (new_set_1 (.ref l) (E:=E) (Q₁:=fun obj s₁=>obj = .ref s.heap.objs.size∧s₁={ s with heap:=s.heap.push (newSt w) }) ⟨rfl,rfl⟩) fun r s₁ hr=>?_
 cases r with
 | error e=>exact hr
 | ok fl=>
  cases fl with
  | ret obj=>
   obtain ⟨rfl,rfl⟩:=hr
   have hS:(s.heap.push (newSt w)).get? s.heap.objs.size=some (newSt w):=Heap.get?_push_size _ rfl
   have hT:Shared.TypeIs { s with heap:=s.heap.push (newSt w) } (.ref s.heap.objs.size) "set":=⟨_,hS,rfl⟩
   have hli:=F.called_set.init.lookup
   have hbi:=F.called_set.init.bind (.ref s.heap.objs.size)
   repeat (any_goals (first | assumption | wp_step))
   refine codeAny_mono (codeAny_call_builtin (R:=wants (fun r s₂=>r = .none∧∃h' tk ep,s₂={ s with heap:=h',toks:=tk }∧
     SetX knd h' s.heap.objs.size (grow (!w.params.followText "set-order") ((keys.map knd.hash).zip vs)).1 ep (grow (!w.params.followText "set-order") ((keys.map knd.hash).zip vs)).2∧
     (∀b o,s.heap.get? b=some o→h'.get? b=some o)) E) F.called_set.init.plain F.entry_set_init (check_set_init_1 hT ?_)) fun r₂ s₂ hr₂=>?_
   ·obtain ⟨ol,hol,hcl,nl,hdl⟩:=hl
    obtain ⟨ocls,odict,odata,oslots⟩:=ol
    simp only at hcl hdl
    subst hcl;subst hdl
    have hol':(s.heap.push (newSt w)).get? l=some { cls:=.type "list",dict:=odict,data:=.seq vs.toArray nl,slots:=oslots }:=Heap.get?_push_of_some _ hol
    have hsls:=F.sub_list_set
    have hslf:=F.sub_list_frozenset
    have hne:(Value.type "list" == Value.type "dict")=false:=by decide
    have hl1:(s.heap.push (newSt w)).IsList l vs.toArray:=⟨_,hol',rfl,nl,rfl⟩
    unfold Builtin.«set.__init__» noKeywords Builtin.Frozenset.updateFrom
    generalize hPI:pyIter=PI
    wp_walk
    subst hPI
    refine wpAny_pyIter_list hl1 ?_
    refine wpAny_bind (wpAny_runValue ?_)
    have hlS:l < s.heap.objs.size:=Heap.lt_size hol
    have hh3:A.in1.in1.in1.handled=none:=by simp [hh]
    have hneI:l≠(s.heap.push (newSt w)).objs.size:=by
     rw [Heap.size_push];exact Nat.ne_of_lt (Nat.lt_succ_of_lt hlS)
    have hSf:s.heap.objs.size∉[(s.heap.push (newSt w)).objs.size,l]:=by
     rw [Heap.size_push];simp only [List.mem_cons,List.mem_singleton,List.not_mem_nil,or_false,not_or]
     exact ⟨Nat.ne_of_lt (Nat.lt_succ_self _),Nat.ne_of_gt hlS⟩
    refine upd_loop (knd:=knd) (vs:=vs) (keys:=keys) (n:=vs.toArray.size) (((Walks.list hh3 _ l hneI vs.toArray).weaken fun i v hv=>by simpa using hv).toS) s.heap.objs.size
     hSf (by simp) (by simpa using hkn) (by simpa using hb) hk hd (!w.params.followText "set-order") (vs.toArray.size - 0) 0 _ (by omega) (Nat.zero_le _)
     ⟨⟨_,Heap.get?_push_size _ rfl,rfl,rfl⟩,(hl1.push _)⟩ ⟨0,⟨⟨⟨_,Heap.get?_push_of_some _ hS,rfl,rfl⟩,rfl⟩,fun e he=>by cases he⟩⟩ ?hR
    case hR=>
     intro s' ep hm hS'
     obtain ⟨h',g',d',tk',os'⟩:=s'
     have eg:g'=s.gens:=hm.gens
     have ed:d'=s.drawn:=hm.drawn
     have eo:os'=s.os:=hm.os
     subst eg;subst ed;subst eo
     show wpAny _ _ _ _ _ _
     refine wpAny_pure ?_
     show wpAny _ _ (ret Value.none) _ _ _
     refine wpAny_pure ⟨rfl,h',tk',ep,rfl,hS',fun b o e=>?_⟩
     have hb:=Heap.lt_size e
     have hb1:b≠s.heap.objs.size:=Nat.ne_of_lt hb
     have hb2:b≠(s.heap.push (newSt w)).objs.size:=by
      rw [Heap.size_push];exact Nat.ne_of_lt (Nat.lt_succ_of_lt hb)
     exact hm.heap b o (by simp only [List.mem_cons,List.mem_singleton,List.not_mem_nil,or_false,not_or];exact ⟨hb1,hb2⟩) (Heap.get?_push_of_some _ (Heap.get?_push_of_some _ e))
   ·cases r₂ with
    | error e=>exact hr₂
    | ok fl₂=>
     cases fl₂ with
     | ret r=>
      obtain ⟨rfl,h',tk,ep,rfl,hS',hk'⟩:=hr₂
      repeat (any_goals (first | assumption | wp_step))
      exact h _ _ _ hS' hk'
     | _=>exact hr₂.elim
  | _=>exact hr.elim
end
end L3
namespace L3
open PySem PySem.Spec L2 PyProof.Rows
variable [L2.TabP]
theorem perm3 {K:PySem.W.Frag} {mg:Str→Option Value} {O:Ow} {H:Hp} {Z:KO} {us us':List Value} (p:us'.Perm us):∀{ka:List Z.κ.α} {xs:List V},RepAll K mg O H (ka.map Z.kd) xs→Vals xs us→∃(ka':List Z.κ.α) (xs':List V),ka'.Perm ka∧RepAll K mg O H (ka'.map Z.kd) xs'∧Vals xs' us':=by
 induction p with
 | nil=>intro ka xs ra rv;exact ⟨ka,xs,.refl _,ra,rv⟩
 | cons a p ih=>
  intro ka xs ra rv
  cases rv with
  | cons r1 r2=>
   cases ka with
   | nil=>cases ra
   | cons k ka=>
    obtain ⟨x,r,e,h1,h2⟩:=ra
    cases e
    obtain ⟨ka',xs',q1,q2,q3⟩:=ih h2 r2
    exact ⟨k :: ka',_,q1.cons k,⟨_,_,rfl,h1,q2⟩,.cons r1 q3⟩
 | swap a b l=>
  intro ka xs ra rv
  cases rv with
  | cons r1 r2=>
   cases r2 with
   | cons r2 r3=>
    match ka,ra with
    | k1 :: k2 :: ka,ra=>
     obtain ⟨x,r,e,h1,h2⟩:=ra
     cases e
     obtain ⟨x,r,e,h2,h3⟩:=h2
     cases e
     exact ⟨k2 :: k1 :: ka,_,.swap _ _ _,⟨_,_,rfl,h2,_,_,rfl,h1,h3⟩,.cons r2 (.cons r1 r3)⟩
    | [k1],ra=>
     obtain ⟨x,r,e,h1,h2⟩:=ra
     cases e
     cases h2
    | [],ra=>cases ra
 | trans p q i1 i2=>
  intro ka xs ra rv
  obtain ⟨k1,x1,a1,a2,a3⟩:=i2 ra rv
  obtain ⟨k2,x2,b1,b2,b3⟩:=i1 a2 a3
  exact ⟨k2,x2,b1.trans a1,b2,b3⟩
omit [L2.TabP] in
theorem sortB_any {Z:KO} {ka ka':List Z.κ.α} (p:ka'.Perm ka) (hn:ka.Nodup):sortB Z.κ.blt (ka'.zip (ka'.map Z.kd))=sortB Z.κ.blt (ka.zip (ka.map Z.kd)):=by
 have z:∀l:List Z.κ.α,l.zip (l.map Z.kd)=l.map fun k=>(k,Z.kd k):=fun l=>by
  induction l with
  | nil=>rfl
  | cons a l ih=>rw [List.map_cons,List.map_cons,List.zip_cons_cons,ih]
 have n:∀l:List Z.κ.α,(l.map fun k=>(k,Z.kd k)).map (·.1)=l:=fun l=>by rw [List.map_map];exact List.map_id _
 rw [z,z]
 refine sort_one Z.κ.toKeyOrd (by rw [n];exact hn) ((sortB_perm _ _).trans (p.map _)) (sortB_sorted Z.κ.toKeyOrd _ ?_)
 rw [n];exact p.nodup_iff.mpr hn
omit [L2.TabP] in
def SetKO (Z:KO) (ok:List Z.κ.α→Prop):Prop:=∀{prog:Program} {w:World} {A:Around} {E:Value→Shared→Prop} {s:Shared} {l:Addr} {us:List Value} {ka:List Z.κ.α} {Q:Value→Shared→Prop},us.map Z.κ.keyOf=ka.map some→ok ka→ka.Nodup→ka.length < 64→A.handled=none→s.heap.IsList l us.toArray→
 (∀h' tk ep es t,SetAt h' s.heap.objs.size es ep t→Wk w es t→(es.toList.map (·.2)).Perm us→(∀b o,s.heap.get? b=some o→h'.get? b=some o)→Q (.ref s.heap.objs.size) { s with heap:=h',toks:=tk })→
 wpAny (model prog w) A (call (.type "set") [.ref l]) Q E s
omit [L2.TabP] in
theorem zip_snd {α β:Type}:∀{as:List α} {bs:List β},as.length=bs.length→(as.zip bs).map (·.2)=bs
 | [],[],_=>rfl
 | a :: as,b :: bs,h=>by rw [List.zip_cons_cons,List.map_cons,zip_snd (Nat.succ.inj h)]
omit [L2.TabP] in
theorem set_str:SetKO koStr (fun _=>True):=fun {prog w A E s l us ka Q} hk _ hn h64 hh hl hQ=>by
 have lu:us.length=ka.length:=by have:=congrArg List.length hk;simpa using this
 have iss:∀(i:Nat) v k,us[i]? = some v→ka[i]? = some k→∃t,v = .str ⟨k.toArray⟩ t:=fun i v k h1 h2=>by
  have:=congrArg (·[i]?) hk
  simp only [List.getElem?_map,h1,h2,Option.map_some,Option.some.injEq] at this
  cases v <;> simp only [PyProof.Rows.strKind,reduceCtorEq,Option.some.injEq] at this
  rename_i x t
  subst this
  exact ⟨t,rfl⟩
 refine set_of (knd:=PySem.strKind prog w) (keys:=ka.map fun k=>(⟨k.toArray⟩:Str)) hh hl (by rw [List.length_map];exact lu.symm) (by unfold scanBound;omega) (fun i v k h1 h2=>?_) (List.Pairwise.map _ (fun a b ne e=>ne (by simpa using e)) hn) fun h' tk ep hX kp=>?_
 ·rw [List.getElem?_map] at h2
  obtain ⟨k',e1,rfl⟩:=Option.map_eq_some_iff.mp h2
  obtain ⟨t,rfl⟩:=iss i v k' h1 e1
  exact ⟨strKind_is _ _ _ _,rfl⟩
 ·have lz:((ka.map fun k=>(⟨k.toArray⟩:Str)).map (PySem.strKind prog w).hash).length=us.length:=by simp [lu]
  refine hQ h' tk ep _ _ hX.at' (wk_str (fun e he=>?_) hX.at'.fit) ?_ kp
  ·obtain ⟨i,hi,ei⟩:=List.mem_iff_getElem.mp he
   rw [List.length_zip,lz,Nat.min_self] at hi
   rw [List.getElem_zip] at ei
   subst ei
   obtain ⟨t,e⟩:=iss i us[i] (ka[i]'(by omega)) (List.getElem?_eq_getElem _) (List.getElem?_eq_getElem _)
   dsimp only
   rw [e];rfl
  ·refine ((grow_perm _ _).map _).trans (.of_eq (zip_snd lz))
end L3
namespace L3
open PySem PySem.Spec L2 PyProof.Rows
theorem toks_of:∀{ks:List Int} {us:List Value},us.map intKK.keyOf=ks.map some→ks.Nodup→∃f:Int→Tok,us=ks.map fun k=>.int k (f k)
 | [],us,h,_=>by
  have:us=[]:=List.map_eq_nil_iff.mp h
  exact ⟨fun _=>0,this⟩
 | k :: ks,us,h,hn=>by
  cases us with
  | nil=>cases h
  | cons u us=>
   rw [List.map_cons,List.map_cons,List.cons.injEq] at h
   rw [List.nodup_cons] at hn
   obtain ⟨f,e⟩:=toks_of h.2 hn.2
   have h1:=h.1
   cases u <;> simp only [intKK,reduceCtorEq,Option.some.injEq] at h1
   rename_i i t
   subst h1
   refine ⟨fun x=>if x=i then t else f x,?_⟩
   rw [List.map_cons,e]
   dsimp only
   rw [if_pos rfl]
   congr 1
   refine List.map_congr_left fun x hx=>?_
   have ne:x≠i:=fun z=>hn.1 (z ▸ hx)
   show Value.int x (f x) = .int x (if x=i then t else f x)
   rw [if_neg ne]
theorem hash_small {k:Int} (h:0≤k∧k < 6):hashInt k=k:=by
 have:k=0∨k=1∨k=2∨k=3∨k=4∨k=5:=by omega
 rcases this with rfl | rfl | rfl | rfl | rfl | rfl <;> decide +kernel
theorem set_int:SetKO koInt (fun ks=>ks.Pairwise (· < ·)∧∀k∈ks,0≤k∧k < 6):=fun {prog w A E s l us ka Q} hk ok hn h64 hh hl hQ=>by
 have hk:us.map intKK.keyOf=ka.map some:=hk
 obtain ⟨f,rfl⟩:=toks_of hk hn
 refine set_of (knd:=intKind prog w) (keys:=ka) hh hl (by rw [List.length_map]) (by unfold scanBound;rw [List.length_map];omega) (fun i v k h1 h2=>?_) hn fun h' tk ep hX kp=>?_
 ·rw [List.getElem?_map,h2] at h1
  cases h1
  exact ⟨intKind_is _ _ _ _,rfl⟩
 ·have ez:(ka.map (intKind prog w).hash).zip (ka.map fun k=>Value.int k (f k))=intsAs f ka:=by
   unfold intsAs
   rw [List.zip_map',]
   refine List.map_congr_left fun k hk=>?_
   show (hashInt k,_)=_
   rw [hash_small (ok.2 k hk)]
  rw [ez] at hX
  refine hQ h' tk ep _ _ hX.at' (wk_int ok.1 ok.2) ?_ kp
  refine ((grow_perm _ _).map _).trans (.of_eq ?_)
  unfold intsAs
  rw [List.map_map];rfl
theorem bt_setS:bootBuiltins "set"=some (.type "set"):=by decide +kernel
variable [L2.TabP]
section
variable {X:Cx} {pins:List (Addr×Obj)} {σ:L2.St} {H:Hp} {s:Shared} {O:Ow} {Z:KO} {ka:List Z.κ.α} {xs:List V} {us:List Value} {e:Expr} {t:TA} {ms:MA} {p p' pos pos':Pos} {ok:List Z.κ.α→Prop}
omit [L2.TabP] in
theorem Inv.drew {h':Heap} {tk:Nat} {d':Drawn} (I:Inv X pins σ H { s with heap:=h',toks:=tk }):Inv X pins σ H { s with heap:=h',toks:=tk,drawn:=d' }:=⟨I.ok,I.os,I.bare,I.base,I.loc,I.cell,I.free,I.freeC,I.pin,I.hok,I.len⟩
def rSS (K:PySem.W.Frag) (mg:Str→Option Value) (Z:KO) (ok:List Z.κ.α→Prop):List V→Hp→VK→Prop:=fun xs H1 Q=>∃(p:Addr) (ys:List V) (O:Ow) (ka:List Z.κ.α),xs=[.ref p]∧SqL K H1 p ys∧RepAll K mg O H1 (ka.map Z.kd) ys∧ok ka∧ka.Nodup∧ka.length < 64∧
  ∀l zs,H1 l=none→RepAll K mg O H1 ((sortB Z.κ.blt (ka.zip (ka.map Z.kd))).map (·.2)) zs→Q (.ref l) (upd H1 l (.lst zs))
theorem pe_sortSet (hc:X.calm=true) (hZ:Z.Ok) (hS:SetKO Z ok) (hg:Gl X "sorted") (hm:X.mg "sorted"=none) (hg':Gl X "set") (hm':X.mg "set"=none) (ha:PA X [e] t)
  (hs:starEach [e] X.env=(false,eval e X.env) :: starEach [] X.env:=by rfl) (hs':starEach [.Call (.Name "set" p') [e] [] pos'] X.env=(false,eval (.Call (.Name "set" p') [e] [] pos') X.env) :: starEach [] X.env:=by rfl) :
  PE X (.Call (.Name "sorted" p) [.Call (.Name "set" p') [e] [] pos'] [] pos) (tCB (rSS X.K X.mg Z ok) t):=by
 intro pins s σ H Q I h
 refine wpAny_Call_Name_kw (ld_blt I hg hm bt_sorted ?_ (by decide) (by decide))
 refine PyProof.Rows.callWith_builtin1 ?_ hs' rfl
 rw [hs']
 show wpAny _ _ (spliced ((false,eval (.Call (.Name "set" p') [e] [] pos') X.env) :: backTo pos (starEach [] X.env))) _ _ s
 refine Calls.spliced_cons ?_
 refine wpAny_Call_Name_kw (ld_blt I hg' hm' bt_setS ?_ (by decide) (by decide))
 refine PyProof.Rows.callWith_type1 (thn (ha pos' pins s σ H _ I h) fun us s1 zz=>?_) hs rfl
 obtain ⟨vs,H1,I1,r1,q1⟩:=zz
 ·obtain ⟨a,ys,O,ka,rfl,hq,ra,o,hn,h64,q⟩:=q1
  obtain ⟨u,rfl,rx⟩:=vals1 r1
  cases rx
  obtain ⟨vs,rvs,pl,_⟩:=I1.list hq
  refine hS (keys_are hZ ra rvs) o hn h64 (I1.ok.hd hc) pl.isList fun h' tk ep es t hA hW pm kp=>?_
  refine Calls.spliced_nil ?_
  have lv:vs.length=ka.length:=by rw [←rvs.length,ra.len,List.length_map]
  have le:es.size=ka.length:=by have:=pm.length_eq;rw [List.length_map,Array.length_toList] at this;omega
  refine call_function_entry_kw kind_sorted plain_sorted entry_sorted (args_sorted1 _) ?_
  unfold Builtin.«sorted»
  refine wpAny_bind (m:=checkCount "sorted" 1 1 _) (wpAny_pure ?_)
  have ho:X.A.in1.handled=none:=I1.ok.hd hc
  refine wpAny_bind (collect_set (s:={ s1 with heap:=h',toks:=tk }) ho hA (by rw [sizeLine_eq];omega) hW fun us' h2 tk2 d2 pm2 kp2=>?_)
  obtain ⟨ka',xs',p1,p2,p3⟩:=perm3 (pm2.trans pm) ra rvs
  have I2:Inv X pins σ H1 { s1 with heap:=h2,toks:=tk2,drawn:=d2 }:=Inv.drew (I1.kept (t':=tk2) fun b o e=>kp2 b o (kp b o e))
  refine sort_plain hZ I2 p2 p3 (p1.nodup_iff.mpr hn) (by rw [p1.length_eq];exact h64) fun l zs hl rz=>q l zs hl (by rw [←sortB_any p1 hn];exact rz)
def fSortS (Z:KO) (okb:List Z.κ.α→Bool):List R→M R
 | [x]=>match x.lis with
  | some ds=>match unAll Z ds with
   | some ka=>if okb ka=true∧apartK Z.κ.blt ka=true∧ds.length < 64 then pure (.fr ((sortB Z.κ.blt (ka.zip ds)).map (·.2))) else bad
   | none=>bad
  | none=>bad
 | _=>bad
theorem kSortS {K:PySem.W.Frag} {mg:Str→Option Value} {okb:List Z.κ.α→Bool} (hZ:Z.Ok) (hok:∀ka,okb ka=true→ok ka):BinC K mg (rSS K mg Z ok) (fSortS Z okb):=fun O σ S σV H vs rs r' S' Q st hr h q=>by
 unfold fSortS at h
 split at h
 ·rename_i x
  obtain ⟨v,rfl,hx⟩:=reps1 hr
  split at h
  ·rename_i ds e
   split at h
   ·rename_i ka e2
    by_cases c:okb ka=true∧apartK Z.κ.blt ka=true∧ds.length < 64
    ·rw [if_pos c] at h
     cases h
     obtain ⟨a,ys,rfl,l,ra⟩:=R.lis_rep hx e
     have ed:=unAll_spec hZ.un_kd e2
     subst ed
     refine ⟨a,ys,O,ka,rfl,l,ra,hok _ c.1,apartK_nodup Z.κ.toKeyOrd c.2.1,by have:=c.2.2;rwa [List.length_map] at this,fun p zs hp rz=>?_⟩
     refine q (updO O p .tmp) _ _ (Go.new hp) (st.new hp) ⟨p,zs,rfl,upd_same,updO_same,rz.go (Go.new hp)⟩ fun b eb=>?_
     cases eb
     exact hp
    ·rw [if_neg c] at h;cases h
   ·cases h
  ·cases h
 ·cases h
def okStr:List (List Nat)→Bool:=fun _=>true
def okInt:List Int→Bool:=fun ks=>ks.all (fun k=>decide (0≤k) && decide (k < 6)) && decide (ks.Pairwise (· < ·))
theorem ce_sortSS (hc:X.calm=true) (hg:Gl X "sorted") (hm:X.mg "sorted"=none) (hg':Gl X "set") (hm':X.mg "set"=none) (ha:CA X [e] ms)
  (hs:starEach [e] X.env=(false,eval e X.env) :: starEach [] X.env:=by rfl) (hs':starEach [.Call (.Name "set" p') [e] [] pos'] X.env=(false,eval (.Call (.Name "set" p') [e] [] pos') X.env) :: starEach [] X.env:=by rfl) :
  CE X (.Call (.Name "sorted" p) [.Call (.Name "set" p') [e] [] pos'] [] pos) (cB (fSortS koStr okStr) ms):=pe_imp (pe_sortSet hc koStr_ok set_str hg hm hg' hm' ha hs hs') (cB_read (kSortS koStr_ok fun _ _=>trivial))
theorem ce_sortSI (hc:X.calm=true) (hg:Gl X "sorted") (hm:X.mg "sorted"=none) (hg':Gl X "set") (hm':X.mg "set"=none) (ha:CA X [e] ms)
  (hs:starEach [e] X.env=(false,eval e X.env) :: starEach [] X.env:=by rfl) (hs':starEach [.Call (.Name "set" p') [e] [] pos'] X.env=(false,eval (.Call (.Name "set" p') [e] [] pos') X.env) :: starEach [] X.env:=by rfl) :
  CE X (.Call (.Name "sorted" p) [.Call (.Name "set" p') [e] [] pos'] [] pos) (cB (fSortS koInt okInt) ms):=pe_imp (pe_sortSet hc koInt_ok set_int hg hm hg' hm' ha hs hs') (cB_read (kSortS koInt_ok fun ka h=>by
   unfold okInt at h
   rw [Bool.and_eq_true,decide_eq_true_eq,List.all_eq_true] at h
   exact ⟨h.2,fun k hk=>by have:=h.1 k hk;simpa using this⟩))
theorem we_sortSS (hc:X.calm=true) (hg:Gl X "sorted") (hm:X.mg "sorted"=none) (hg':Gl X "set") (hm':X.mg "set"=none) (ha:WA X [e] ms)
  (hs:starEach [e] X.env=(false,eval e X.env) :: starEach [] X.env:=by rfl) (hs':starEach [.Call (.Name "set" p') [e] [] pos'] X.env=(false,eval (.Call (.Name "set" p') [e] [] pos') X.env) :: starEach [] X.env:=by rfl) :
  WE X (.Call (.Name "sorted" p) [.Call (.Name "set" p') [e] [] pos'] [] pos) (cB (fSortS koStr okStr) ms):=⟨ce_sortSS hc hg hm hg' hm' ha.un hs hs'⟩
theorem we_sortSI (hc:X.calm=true) (hg:Gl X "sorted") (hm:X.mg "sorted"=none) (hg':Gl X "set") (hm':X.mg "set"=none) (ha:WA X [e] ms)
  (hs:starEach [e] X.env=(false,eval e X.env) :: starEach [] X.env:=by rfl) (hs':starEach [.Call (.Name "set" p') [e] [] pos'] X.env=(false,eval (.Call (.Name "set" p') [e] [] pos') X.env) :: starEach [] X.env:=by rfl) :
  WE X (.Call (.Name "sorted" p) [.Call (.Name "set" p') [e] [] pos'] [] pos) (cB (fSortS koInt okInt) ms):=⟨ce_sortSI hc hg hm hg' hm' ha.un hs hs'⟩
end
omit [L2.TabP] in
theorem e_sortS {Z:KO} {okb:List Z.κ.α→Bool} {x:R}:fSortS Z okb [x]=match x.lis with
  | some ds=>match unAll Z ds with
   | some ka=>if okb ka=true∧apartK Z.κ.blt ka=true∧ds.length < 64 then pure (.fr ((sortB Z.κ.blt (ka.zip ds)).map (·.2))) else bad
   | none=>bad
  | none=>bad:=rfl
end L3
namespace L3
open PySem PySem.Spec L2 PyProof.Rows
variable [L2.TabP]
abbrev MKD:=List D→M (List (Key×D))
def tsKd (K:PySem.W.Frag) (mg:Str→Option Value) (j:Nat) (m:MS):TS:=fun Dn σV H=>∃O σ S σ' S' kvs,S3 K mg O σ S σV H∧(m σ).run S = .ok (.nx σ') S'∧σ'[j]? = some (.dct kvs)∧∀O' a xs H',Gs O O' H H'→Dom O' H'→S'=[]→O' a = .loc j→H' a=some (.dK xs)→RepKV K mg O' H' kvs xs→Dn.rt (.ref a) H'
abbrev CSk (X:Cx) (j:Nat) (sts:List Stmt) (m:MS):Prop:=PSs X sts (tsKd X.K X.mg j m)
theorem csk_ret {X:Cx} {pos p:Pos} (i:Nat) {x:Str} (hN:X.N[i]? = some x:=by rfl) (hv:Vis X.env.scope x:=by first | exact Or.inl rfl | exact Or.inr (Or.inl rfl) | exact Or.inr (Or.inr rfl)) (hd:(x == ("__debug__":Str))=false:=by decide)
  (hcd:(x == ("__classdict__":Str))=false:=by decide):CSk X i [.Return (some (.Name x p)) pos] cPass:=pss_imp (pss_one (ps_ret (pe_var hN hv hd hcd))) fun D σV H zz0=>by
 obtain ⟨O,σ,S,σ',S',kvs,st,h,e,q⟩:=zz0
 cases h
 obtain ⟨a,xs,e1,e2,e3,e5⟩:=st.loc i _ e
 refine ⟨.ref a,?_,q O a xs H (Gs.refl _ _) st.dom st.emp e2 e3 e5⟩
 cases w:σV[i]? with
 | none=>rw [w] at e1;cases e1
 | some y=>rw [w] at e1;exact congrArg some e1
theorem csk_cons {X:Cx} {st:Stmt} {rest:List Stmt} {a b:MS} {j:Nat} (h1:CS X st a) (h2:CSk X j rest b):CSk X j (st :: rest) (cSeq a b):=pss_imp (pss_cons h1 h2) fun D σV H zz0=>by
 obtain ⟨O,σ,S,σ',S',t,st,h,e,q⟩:=zz0
 obtain ⟨f1,S1,h1,h⟩:=M.inv h
 refine ⟨O,σ,S,f1,S1,st,h1,?_⟩
 cases f1 with
 | nx σ1=>exact fun O1 σV1 H1 g1 st1 k1=>⟨O1,σ1,S1,σ',S',t,st1,h,e,fun O' v xs H' g d eS r1 r2 r3=>q O' v xs H' (g1.trans g) d eS r1 r2 r3⟩
 | rt r=>cases h
 | bk σ1=>cases h
 | ct σ1=>cases h
def fnKD (n N j:Nat) (b:MS):MKD:=fun ds=>if ds.length=n then do
  let fl ←b (ds.map slotOf ++ List.replicate (N - n) .emp)
  match fl with
  | .nx σ'=>(match σ'[j]? with
   | some (.dct kvs)=>pure kvs
   | _=>bad)
  | _=>bad
 else bad
def spKD (K:PySem.W.Frag) (mg:Str→Option Value) (mf:MKD):Sp:=fun vs H Q _=>∃O ds kvs S',Dom O H∧ArgAll K mg O H ds vs∧(mf ds).run [] = .ok kvs S'∧∀O' a xs H',Go O O' H H'→Dom O' H'→S'=[]→H a=none→O' a = .tmp→H' a=some (.dK xs)→RepKV K mg O' H' kvs xs→Q (.ref a) H'
theorem has_kd {P:Program} {w:World} {K:PySem.W.Frag} {mg:Str→Option Value} {base:Heap} {x:Str} {st:Stmt} {ps N:List Str} {k:Nat} {mb:MS} {n nl jr:Nat} (Df:Df K mg x st ps) (Sc:FnScope N ps (defScope st)) (hn:ps.length=n) (hl:N.length=nl)
  (hb:∀(f:Addr) (cdv:Value) (A:Around) (outer:List Env) (s:Shared) (H:Hp) (E:XK),Room k (A.deeper (PyProof.Rows.envOfC x (defScope st) s.heap.objs.size f cdv))→
   CSk (cxOf CX0 P w K mg base N x (defScope st) f cdv A outer s H E).nox jr (defBody st) mb):Has P w K mg base x ps (k + 1) (spKD K mg (fnKD n nl jr mb)):=by
 subst hn hl
 obtain ⟨f,fd,F,bd,m⟩:=Df.ex
 have flen:∀{ds:List D} {t:List (Key×D)} {S S':Store},(fnKD ps.length N.length jr mb ds).run S = .ok t S'→ds.length=ps.length:=fun {ds t S S'} h=>by
  unfold fnKD at h
  by_cases c:ds.length=ps.length
  ·exact c
  ·rw [if_neg c] at h;cases h
 refine ⟨f,fd,F.ok Sc ?_ ?_,bd,F.kp,m⟩
 ·rintro vs H Q E ⟨O,ds,t,S',dm,ra,h,q⟩
  rw [ra.len];exact flen h
 rintro cdv A outer s H vs Q E hr ⟨O,ds,t,S',dm,ar,h,q⟩
 refine ⟨_,hb f cdv A outer s H E hr,?_⟩
 have hl:=flen h
 have hlv:=ar.len
 unfold fnKD at h
 rw [if_pos hl] at h
 obtain ⟨fl,S1,h1,h⟩:=M.inv h
 have st0:S3 K mg (blk O) (ds.map slotOf ++ List.replicate (N.length - ps.length) .emp) [] (L2.start N vs) H:=by
  refine ⟨⟨fun a ha=>dm.has a fun z=>ha (blk_free.mpr z),dm.tabs⟩,?_,fun i s e=>?_,rfl⟩
  ·unfold L2.start
   rw [List.length_append,List.length_append,List.length_map,List.length_map,List.length_replicate,List.length_replicate,hlv,hl]
  ·by_cases hi:i < ds.length
   ·rw [List.getElem?_append_left (by rw [List.length_map];exact hi),List.getElem?_map] at e
    cases ed:ds[i]? with
    | none=>rw [ed] at e;cases e
    | some d=>
     rw [ed] at e
     cases e
     obtain ⟨v,ev,rv⟩:=ar.get ed
     unfold L2.start
     rw [List.getElem?_append_left (by rw [List.length_map,hlv];exact hi),List.getElem?_map,ev]
     exact slot_arg rv
   ·rw [List.getElem?_append_right (by rw [List.length_map];omega),List.getElem?_replicate] at e
    split at e
    ·cases e;exact trivial
    ·cases e
 cases fl with
 | bk σ'=>cases h
 | ct σ'=>cases h
 | rt r'=>cases h
 | nx σ'=>
  dsimp only at h
  split at h
  ·rename_i t' et
   cases h
   refine ⟨blk O,_,[],σ',_,t,st0,h1,et,fun O' a xs H' g d eS oa ha rp=>?_⟩
   have old:∀b,H b≠none→blk O b = .free∨blk O b = .out:=fun b _=>blk_cases O b
   have own:∀{b:Addr},H b≠none→O' b=blk O b:=fun {b} hb=>g.own b hb (blk_cases O b)
   have hn:H a=none:=by
    cases e:H a with
    | none=>rfl
    | some o=>
     exfalso
     have q1:=own (b:=a) (by rw [e];intro z;cases z)
     rcases blk_cases O a with z | z <;> rw [z] at q1 <;> rw [q1] at oa <;> cases oa
   let O2:Ow:=fun b=>match H b with | some _=>O b | none=>(match O' b with | .free=>.free | _=>.tmp)
   have o2o:∀{b:Addr},H b≠none→O2 b=O b:=fun {b} hb=>by
    show (match H b with | some _=>O b | none=>_)=O b
    cases e:H b with
    | none=>exact absurd e hb
    | some o=>rfl
   have o2n:∀{b:Addr},H b=none→O2 b=(match O' b with | .free=>.free | _=>.tmp):=fun {b} hb=>by
    show (match H b with | some _=>O b | none=>_)=_
    rw [hb]
   have fre:Fre O' O2:=⟨fun b hb=>by
    by_cases hb1:H b=none
    ·rw [o2n hb1,hb]
    ·rw [o2o hb1];exact blk_free.mp ((own hb1).symm.trans hb)⟩
   have go:Go O O2 H H':=⟨⟨fun b o e n=>g.cells b o e ((old b (by rw [e];intro z;cases z)).elim .inl fun z=>.inr (.inl z)) n,g.tb,g.gd⟩,fun b hb=>o2o hb⟩
   have dom:Dom O2 H':=⟨fun b hb=>by
    by_cases hb1:H b=none
    ·refine d.has b fun z=>hb ?_
     rw [o2n hb1,z]
    ·exact g.has b hb1,d.tabs⟩
   exact q O2 a xs H' go dom eS hn (by rw [o2n hn,oa]) ha (rp.fre fre)
  ·cases h
def cKSet (i:Nat) (mf:MKD) (ms:MA):MS:=fun σ=>do
 let rs ←ms σ
 let kvs ←mf (rs.map R.arg)
 pure (.nx (σ.set i (.dct kvs)))
theorem S3.ownK {K:PySem.W.Frag} {mg:Str→Option Value} {O:Ow} {σ:En} {S:Store} {σV:L2.St} {H:Hp} {i:Nat} {a:Addr} {kvs:List (Key×D)} {xs:List (Key×V)} (st:S3 K mg O σ S σV H) (ht:O a = .tmp) (hl:H a=some (.dK xs)) (hr:RepKV K mg O H kvs xs) :
  S3 K mg (updO O a (.loc i)) (σ.set i (.dct kvs)) S (σV.set i (some (.ref a))) H:=by
 have ne:∀{b:Addr} {w:Own},O b=w→w≠.tmp→updO O a (.loc i) b=w:=fun {b w} h hw=>by
  rw [updO_ne];exact h
  rintro rfl;exact hw (h.symm.trans ht)
 have fre:Fre O (updO O a (.loc i)):=⟨fun b h=>ne h (by intro z;cases z)⟩
 have st1:S3 K mg (updO O a (.loc i)) σ S σV H:=by
  refine ⟨⟨fun b hb=>?_,st.dom.tabs⟩,st.len,fun j s e=>(st.loc j s e).fre fre (fun b h=>ne h (by intro z;cases z)) (fun b h=>ne h (by intro z;cases z)) (fun b p h=>ne h (by intro z;cases z)),st.emp⟩
  by_cases e:b=a
  ·rw [e,hl];intro z;cases z
  ·rw [updO_ne e] at hb;exact st.dom.has b hb
 exact st1.set ⟨a,xs,rfl,updO_same,hl,hr.fre fre⟩
theorem cs_kset {X:Cx} {x y:Str} {ps:List Str} {k i:Nat} {mf:MKD} {p pos pos' spos:Pos} {e:Expr} {es:List Expr} {ms:MA} (h:Has X.prog X.w X.K X.mg X.base x ps k (spKD X.K X.mg mf)) (hr:Room k X.A) (hg:Gl X x) (ha:CA X (e :: es) ms) (hN:X.N.Nodup) (hi:X.N[i]? = some y) (hx:Loc X.env.scope y) (hdb:(x == ("__debug__":Str))=false:=by decide)
  (he:starEach (e :: es) X.env=(false,eval e X.env) :: starEach es X.env:=by rfl) (hpl:(backTo pos (starEach es X.env)).any (·.1)=false:=by rfl) (hs:swapsWith (.Call (.Name x p) (e :: es) [] pos) (some (.Name y pos')) spos.line X.env=pure false:=by rfl) (hf:X.fn y=true∨X.env.scope.names.lookup y=some .local:=by first | exact .inl rfl | exact .inr rfl | assumption) :
  CS X (.Assign [.Name y pos'] (.Call (.Name x p) (e :: es) [] pos) spos) (cKSet i mf ms):=
 ps_imp (ps_set hN hi hx (pe_fn h hr hg ha hdb he hpl) hs hf) fun D σV H zz0=>by
  obtain ⟨O,σ,S,fl,S',st,h,q⟩:=zz0
  obtain ⟨rs,S1,h1,h⟩:=M.inv h
  obtain ⟨kvs,S2,h2,h⟩:=M.inv h
  cases h
  refine ⟨O,σ,S,rs,S1,st,h1,fun O1 vs H1 g1 st1 rr nn=>?_⟩
  have eS:=st1.emp
  subst eS
  refine ⟨O1,_,kvs,S',st1.dom,args_of rr,h2,fun O' a xs H' g d e ha ot hl rp=>?_⟩
  subst e
  exact q _ _ H' ((g1.trans g).gs.trans (Gs.tmp ot)) ((st1.go g d).ownK ot hl rp) (Kp.set fun xs z=>by cases z)
def cKCall (mf:MKD) (ms:MA):ME:=fun σ=>do
 let rs ←ms σ
 let kvs ←mf (rs.map R.arg)
 pure (.dv kvs)
theorem ce_kcall {X:Cx} {x:Str} {ps:List Str} {k:Nat} {mf:MKD} {p pos:Pos} {e:Expr} {es:List Expr} {ms:MA} (h:Has X.prog X.w X.K X.mg X.base x ps k (spKD X.K X.mg mf)) (hr:Room k X.A) (hg:Gl X x) (ha:CA X (e :: es) ms) (hdb:(x == ("__debug__":Str))=false:=by decide)
  (he:starEach (e :: es) X.env=(false,eval e X.env) :: starEach es X.env:=by rfl) (hpl:(backTo pos (starEach es X.env)).any (·.1)=false:=by rfl):CE X (.Call (.Name x p) (e :: es) [] pos) (cKCall mf ms):=
 pe_imp (pe_fn h hr hg ha hdb he hpl) fun σV H Q zz0=>by
  obtain ⟨O,σ,S,r,S',st,h,q⟩:=zz0
  obtain ⟨rs,S1,h1,h⟩:=M.inv h
  obtain ⟨kvs,S2,h2,h⟩:=M.inv h
  cases h
  refine ⟨O,σ,S,rs,S1,st,h1,fun O1 vs H1 g1 st1 rr nn=>?_⟩
  have eS:=st1.emp
  subst eS
  refine ⟨O1,_,kvs,S',st1.dom,args_of rr,h2,fun O' a xs H' g d e ha ot hl rp=>?_⟩
  subst e
  exact q O' _ H' (g1.trans g) (st1.go g d) ⟨a,xs,rfl,.inl hl,rp⟩ trivial
def ddropD (kvs:List (Key×D)) (k:Key):List (Key×D):=kvs.filter fun kv=>decide (kv.1≠k)
def cDPop (i j:Nat) (mk mx:ME):MS:=fun σ=>do
 let k ←mk σ
 let z ←mx σ
 match σ[j]?,k,z with
 | some (.dct kvs),.v kd,.v zd=>match keyD kd with
  | some key=>match (dvalD kvs key).getD zd with
   | .int n=>pure (.nx ((σ.set j (.dct (ddropD kvs key))).set i (.val (.int n))))
   | _=>bad
  | none=>bad
 | _,_,_=>bad
section
variable {K:PySem.W.Frag} {mg:Str→Option Value} {O:Ow} {H:Hp}
theorem RepKV.drop (k:Key):∀{kvs:List (Key×D)} {kvv:List (Key×V)},RepKV K mg O H kvs kvv→RepKV K mg O H (ddropD kvs k) (dropK kvv k)
 | [],kvv,h=>by
  have:kvv=[]:=List.length_eq_zero_iff.mp h.len
  subst this
  exact h
 | p :: kvs,kvv,h=>by
  obtain ⟨q,r,rfl,e1,e2,h'⟩:=h.cons
  unfold ddropD dropK
  by_cases c:p.1=k
  ·rw [List.filter_cons_of_neg (by simpa using c),List.filter_cons_of_neg (by rw [←e1];simpa using c)]
   exact RepKV.drop k h'
  ·rw [List.filter_cons_of_pos (by simpa using c),List.filter_cons_of_pos (by rw [←e1];simpa using c)]
   exact RepKV.mk' e1 e2 (RepKV.drop k h')
theorem drop_none {kvs:List (Key×D)} {k:Key} (h:dvalD kvs k=none):ddropD kvs k=kvs:=by
 unfold dvalD at h
 unfold ddropD
 rw [Option.map_eq_none_iff,List.find?_eq_none] at h
 exact List.filter_eq_self.mpr fun p hp=>by have:=h p hp;simpa using this
end
theorem cs_dpop {X:Cx} {i j:Nat} {x y:Str} {ek ex:Expr} {mk mx:ME} {p apos cpos pos' pos:Pos} (hN:X.N[j]? = some x) (hv:Vis X.env.scope x) (hNd:X.N.Nodup) (hi:X.N[i]? = some y) (hy:Loc X.env.scope y) (hk:CE X ek mk) (hx:CE X ex mx)
  (hd:(x == ("__debug__":Str))=false:=by decide) (hcd:(x == ("__classdict__":Str))=false:=by decide) (h2:M2 X (.Name x p) "pop" apos ek ex cpos:=by exact ⟨rfl,rfl,rfl,rfl⟩)
  (hs:swapsWith (.Call (.Attribute (.Name x p) "pop" apos) [ek,ex] [] cpos) (some (.Name y pos')) pos.line X.env=pure false:=by rfl) (hfn:X.fn y=true∨X.env.scope.names.lookup y=some .local:=by first | exact .inl rfl | exact .inr rfl | assumption) :
  CS X (.Assign [.Name y pos'] (.Call (.Attribute (.Name x p) "pop" apos) [ek,ex] [] cpos) pos) (cDPop i j mk mx):=
 ps_imp (ps_set hNd hi hy (pe_dpop2 (pe_var hN hv hd hcd) hk hx h2) hs hfn) fun D σV H zz0=>by
  obtain ⟨O,σ,S,fl,S',st,h,q⟩:=zz0
  obtain ⟨k,S1,h1,ha⟩:=M.inv h
  clear h
  obtain ⟨z,S2,h2,h⟩:=M.inv ha
  clear ha
  split at h
  ·rename_i kvs kd zd ej
   split at h
   ·rename_i key ek
    split at h
    ·rename_i n en
     cases h
     obtain ⟨a,kvv,e1,e2,e3,e4⟩:=st.loc j _ ej
     have ev:σV[j]? = some (some (.ref a)):=by
      cases w:σV[j]? with
      | none=>rw [w] at e1;cases e1
      | some y=>rw [w] at e1;exact congrArg some e1
     refine ⟨.ref a,ev,a,rfl,isD_of (.inl e3),O,σ,S,_,S1,st,h1,fun O1 vk H1 g1 st1 ry ny=>?_⟩
     refine ⟨O1,σ,S1,_,_,st1,h2,fun O2 vz H2 g2 st2 rz nz=>?_⟩
     have g:=g1.trans g2
     have e3':=g.same.at' _ _ e3
     have e2':O2 a = .loc j:=(g.own a (by rw [e3];intro z;cases z)).trans e2
     have e4':=e4.go g
     have nf:∀w:Own,w≠.loc j→O2 a≠w:=fun w hw z=>hw (z.symm.trans e2')
     have vv:=e4'.val key
     refine ⟨kvv,key,e3',keyD_rep ry ek,fun v lv=>?_,fun lv=>?_⟩
     ·cases ed:dvalD kvs key with
      | none=>rw [ed] at vv;rw [vv] at lv;cases lv
      | some d=>
       rw [ed] at vv en
       obtain ⟨v',q1,q2⟩:=vv
       cases lv.symm.trans q1
       have en:d = .int n:=en
       subst en
       have q2:v=V.int n:=q2
       subst q2
       exact q O2 _ _ (g.gs.trans (Gs.updK (nf _ (by intro z;cases z)) (nf _ (by intro z;cases z)) e3')) ((st2.updK ej e1 e2' e3' (e4'.drop key)).set ⟨_,rfl,rfl⟩) ((Kp.put ej (fun xs z=>by cases z) (fun _ z=>by cases z) (fun _ _ z=>by cases z)).trans (Kp.set fun xs z=>by cases z))
     ·cases ed:dvalD kvs key with
      | some d=>rw [ed] at vv;obtain ⟨v',q1,q2⟩:=vv;rw [lv] at q1;cases q1
      | none=>
       rw [ed] at en
       have en:zd = .int n:=en
       subst en
       have rz:vz=V.int n:=rz
       subst rz
       rw [drop_none ed] at q
       have hlt:j < σ.length:=(List.getElem?_eq_some_iff.mp ej).1
       have es:σ.set j (.dct kvs)=σ:=by
        rw [←(List.getElem?_eq_some_iff.mp ej).2]
        exact List.set_getElem_self hlt
       rw [es] at q
       exact q O2 _ _ g.gs (st2.set ⟨_,rfl,rfl⟩) (Kp.set fun xs z=>by cases z)
    ·cases h
   ·cases h
  ·cases h
end L3
namespace L3
open PySem PySem.Spec L2 PyProof.Rows
def sameV (ka kb:List (Key×V)):Bool:=ka.all fun p=>match valV kb p.1,p.2 with
 | some (.int m),.int n=>decide (n=m)
 | _,_=>false
def intsV (ka:List (Key×V)):Prop:=∀p∈ka,∃n,p.2 = .int n
def rNeD:R2:=fun x y H Q=>∃a b ka kb,x = .ref a∧y = .ref b∧Rd H a (.dK ka)∧Rd H b (.dK kb)∧intsV ka∧intsV kb∧Q (.bl (!(ka.length == kb.length && sameV ka kb))) H
theorem valV_mem {kb:List (Key×V)} {k:Key} {v:V} (h:valV kb k=some v):∃p∈kb,p.2=v:=by
 unfold valV at h
 obtain ⟨p,e,rfl⟩:=Option.map_eq_some_iff.mp h
 exact ⟨p,List.mem_of_find?_eq_some e,rfl⟩
theorem ne_hits {A:Around} {s:Shared} {kb:List (Key×V)} {vb:List (Key×Value)} (rb:KV kb vb) (ib:intsV kb):∀{ka:List (Key×V)} {va:List (Key×Value)},KV ka va→intsV ka→PySem.W.KeqHits A s vb va (sameV ka kb):=by
 intro ka va ra
 induction ra with
 | nil=>intro _;exact .nil
 | @cons p q ps qs r _ ih=>
  intro ia
  obtain ⟨k,v⟩:=p
  obtain ⟨k',u⟩:=q
  obtain ⟨e,r⟩:=r
  cases (show k=k' from e)
  have ih:=ih fun p hp=>ia p (List.mem_cons_of_mem _ hp)
  obtain ⟨n,en⟩:=ia (k,v) List.mem_cons_self
  have en:v=V.int n:=en
  subst en
  obtain ⟨t,rfl⟩:=(show ∃t,u=Value.int n t from r)
  have vk:=rb.val k
  unfold sameV
  rw [List.all_cons]
  dsimp only
  cases e:valV kb k with
  | none=>
   rw [e] at vk
   have h:=RelO.none_of vk
   exact .miss h
  | some w=>
   rw [e] at vk
   obtain ⟨w',hw,rw'⟩:=RelO.some_of vk
   obtain ⟨p,hp,e2⟩:=valV_mem e
   obtain ⟨m,em⟩:=ib p hp
   rw [e2] at em
   subst em
   obtain ⟨t',rfl⟩:=(show ∃t,w'=Value.int m t from rw')
   refine .hit hw ?_ ih
   have h:=SeqAt.EqAt.int_int (A:=A) (s:=s) n t m t'
   have e:(n == m)=decide (n=m):=by
    by_cases c:n=m
    ·subst c;simp
    ·rw [decide_eq_false c];simpa using c
   rw [e] at h
   exact h
theorem or_neD {X:Cx} (hu:X.A.units + 64 < cLine):OpR X (compareOp .NotEq) rNeD:=by
 rintro pins s σ H x y v u Q I rx ry ⟨a,b,ka,kb,rfl,rfl,ha,hb,ia,ib,q⟩
 obtain rfl:v=Value.ref a:=rx
 obtain rfl:u=Value.ref b:=ry
 obtain ⟨_,sa,va,ra,da⟩:=dk_rd I.hok ha
 obtain ⟨_,sb,vb,rb,db⟩:=dk_rd I.hok hb
 refine PySem.W.keq_ne sa sb da db (by omega) (fun _=>ne_hits rb ib ra ia) ⟨.bl (!(va.length == vb.length && sameV ka kb)),H,I,rfl,?_⟩
 rw [←ra.length,←rb.length]
 exact q
variable [L2.TabP]
def sameD (ka kb:List (Key×D)):Bool:=ka.all fun p=>match dvalD kb p.1,p.2 with
 | some (.int m),.int n=>decide (n=m)
 | _,_=>false
def intsD (ka:List (Key×D)):Bool:=ka.all fun p=>match p.2 with
 | .int _=>true
 | _=>false
def oNeD:R→R→M R
 | .dv ka,.dv kb=>if intsD ka=true∧intsD kb=true then pure (.v (.bl (!(ka.length == kb.length && sameD ka kb)))) else bad
 | _,_=>bad
section
variable {K:PySem.W.Frag} {mg:Str→Option Value} {O:Ow} {H:Hp}
theorem intsD_rep:∀{ka:List (Key×D)} {kv:List (Key×V)},RepKV K mg O H ka kv→intsD ka=true→intsV kv
 | [],kv,h,_=>by
  have:kv=[]:=List.length_eq_zero_iff.mp h.len
  subst this
  intro p hp;cases hp
 | p :: ka,kv,h,e=>by
  obtain ⟨q,r,rfl,e1,e2,h'⟩:=h.cons
  unfold intsD at e
  rw [List.all_cons,Bool.and_eq_true] at e
  obtain ⟨k,d⟩:=p
  intro z hz
  rcases List.mem_cons.mp hz with rfl | hz
  ·have e:=e.1
   cases d <;> first | cases e | skip
   rename_i i
   exact ⟨i,e2⟩
  ·exact intsD_rep h' e.2 z hz
theorem sameD_rep {kb:List (Key×D)} {kv':List (Key×V)} (hb:RepKV K mg O H kb kv') (ib:intsD kb=true):∀{ka:List (Key×D)} {kv:List (Key×V)},RepKV K mg O H ka kv→intsD ka=true→sameV kv kv'=sameD ka kb
 | [],kv,h,_=>by
  have:kv=[]:=List.length_eq_zero_iff.mp h.len
  subst this
  rfl
 | p :: ka,kv,h,e=>by
  obtain ⟨q,r,rfl,e1,e2,h'⟩:=h.cons
  unfold intsD at e
  rw [List.all_cons,Bool.and_eq_true] at e
  have ih:=sameD_rep hb ib h' e.2
  unfold sameV sameD at ih ⊢
  rw [List.all_cons,List.all_cons,ih]
  congr 1
  obtain ⟨k,d⟩:=p
  obtain ⟨k',v⟩:=q
  cases (show k=k' from e1)
  have e:=e.1
  cases d <;> first | cases e | skip
  rename_i n
  have e2:v=V.int n:=e2
  subst e2
  have vv:=hb.val k
  dsimp only
  cases ed:dvalD kb k with
  | none=>rw [ed] at vv;rw [vv]
  | some d=>
   rw [ed] at vv
   obtain ⟨w,q1,q2⟩:=vv
   rw [q1]
   obtain ⟨p,hp,ep⟩:∃p∈kb,p.2=d:=by
    unfold dvalD at ed
    obtain ⟨p,e,rfl⟩:=Option.map_eq_some_iff.mp ed
    exact ⟨p,List.mem_of_find?_eq_some e,rfl⟩
   have ii:=List.all_eq_true.mp ib p hp
   rw [ep] at ii
   cases d <;> first | cases ii | skip
   rename_i m
   have q2:w=V.int m:=q2
   subst q2
   rfl
end
theorem bNeD {K:PySem.W.Frag} {mg:Str→Option Value}:Bin K mg rNeD oNeD:=fun O σ S σV H x y rx ry r' S' Q st hx hy h q=>by
 unfold oNeD at h
 split at h
 ·rename_i ka kb
  by_cases c:intsD ka=true∧intsD kb=true
  ·rw [if_pos c] at h
   cases h
   obtain ⟨a,kva,rfl,la,ra⟩:=hx
   obtain ⟨b,kvb,rfl,lb,rb⟩:=hy
   refine ⟨a,b,kva,kvb,rfl,rfl,la,lb,intsD_rep ra c.1,intsD_rep rb c.2,?_⟩
   rw [ra.len,rb.len,sameD_rep rb c.2 ra c.1]
   exact q O _ H (Go.refl _ _) st rfl trivial
  ·rw [if_neg c] at h;cases h
 ·cases h
end L3
namespace L3
open PySem PySem.Spec L2 PyProof.Rows
variable [L2.TabP]
section
variable (X:Cx)
structure WSk (j:Nat) (e:List Stmt) (m:MS):Prop where
 un:CSk X j e m
end
theorem wsk_ret {X:Cx} {pos p:Pos} (i:Nat) {x:Str} (hN:X.N[i]? = some x:=by rfl) (hv:Vis X.env.scope x:=by first | exact Or.inl rfl | exact Or.inr (Or.inl rfl) | exact Or.inr (Or.inr rfl)) (hd:(x == ("__debug__":Str))=false:=by decide)
  (hcd:(x == ("__classdict__":Str))=false:=by decide):WSk X i [.Return (some (.Name x p)) pos] cPass:=⟨csk_ret i hN hv hd hcd⟩
theorem wsk_cons {X:Cx} {st:Stmt} {rest:List Stmt} {a b:MS} {j:Nat} (h1:WS X st a) (h2:WSk X j rest b):WSk X j (st :: rest) (cSeq a b):=⟨csk_cons h1.un h2.un⟩
theorem ws_kset {X:Cx} {x y:Str} {ps:List Str} {k i:Nat} {mf:MKD} {p pos pos' spos:Pos} {e:Expr} {es:List Expr} {ms:MA} (h:Has X.prog X.w X.K X.mg X.base x ps k (spKD X.K X.mg mf)) (hr:Room k X.A) (hg:Gl X x) (ha:WA X (e :: es) ms) (hN:X.N.Nodup) (hi:X.N[i]? = some y) (hx:Loc X.env.scope y) (hdb:(x == ("__debug__":Str))=false:=by decide)
  (he:starEach (e :: es) X.env=(false,eval e X.env) :: starEach es X.env:=by rfl) (hpl:(backTo pos (starEach es X.env)).any (·.1)=false:=by rfl) (hs:swapsWith (.Call (.Name x p) (e :: es) [] pos) (some (.Name y pos')) spos.line X.env=pure false:=by rfl) (hf:X.fn y=true∨X.env.scope.names.lookup y=some .local:=by first | exact .inl rfl | exact .inr rfl | assumption) :
  WS X (.Assign [.Name y pos'] (.Call (.Name x p) (e :: es) [] pos) spos) (cKSet i mf ms):=⟨cs_kset h hr hg ha.un hN hi hx hdb he hpl hs hf⟩
omit [L2.TabP] in
@[simp] theorem e_kset {i:Nat} {mf:MKD} {ms:MA} {σ:En}:cKSet i mf ms σ=(do
 let rs ←ms σ
 let kvs ←mf (rs.map R.arg)
 pure (.nx (σ.set i (.dct kvs)))):=rfl
theorem ws_dpop {X:Cx} {i j:Nat} {x y:Str} {ek ex:Expr} {mk mx:ME} {p apos cpos pos' pos:Pos} (hN:X.N[j]? = some x) (hv:Vis X.env.scope x) (hNd:X.N.Nodup) (hi:X.N[i]? = some y) (hy:Loc X.env.scope y) (hk:WE X ek mk) (hx:WE X ex mx)
  (hd:(x == ("__debug__":Str))=false:=by decide) (hcd:(x == ("__classdict__":Str))=false:=by decide) (h2:M2 X (.Name x p) "pop" apos ek ex cpos:=by exact ⟨rfl,rfl,rfl,rfl⟩)
  (hs:swapsWith (.Call (.Attribute (.Name x p) "pop" apos) [ek,ex] [] cpos) (some (.Name y pos')) pos.line X.env=pure false:=by rfl) (hfn:X.fn y=true∨X.env.scope.names.lookup y=some .local:=by first | exact .inl rfl | exact .inr rfl | assumption) :
  WS X (.Assign [.Name y pos'] (.Call (.Attribute (.Name x p) "pop" apos) [ek,ex] [] cpos) pos) (cDPop i j mk mx):=⟨cs_dpop hN hv hNd hi hy hk.un hx.un hd hcd h2 hs hfn⟩
theorem we_kcall {X:Cx} {x:Str} {ps:List Str} {k:Nat} {mf:MKD} {p pos:Pos} {e:Expr} {es:List Expr} {ms:MA} (h:Has X.prog X.w X.K X.mg X.base x ps k (spKD X.K X.mg mf)) (hr:Room k X.A) (hg:Gl X x) (ha:WA X (e :: es) ms) (hdb:(x == ("__debug__":Str))=false:=by decide)
  (he:starEach (e :: es) X.env=(false,eval e X.env) :: starEach es X.env:=by rfl) (hpl:(backTo pos (starEach es X.env)).any (·.1)=false:=by rfl):WE X (.Call (.Name x p) (e :: es) [] pos) (cKCall mf ms):=⟨ce_kcall h hr hg ha.un hdb he hpl⟩
omit [L2.TabP] in
@[simp] theorem e_kcall {mf:MKD} {ms:MA} {σ:En}:cKCall mf ms σ=(do
 let rs ←ms σ
 let kvs ←mf (rs.map R.arg)
 pure (.dv kvs)):=rfl
omit [L2.TabP] in
@[simp] theorem e_dpop {i j:Nat} {mk mx:ME} {σ:En}:cDPop i j mk mx σ=(do
 let k ←mk σ
 let z ←mx σ
 match σ[j]?,k,z with
 | some (.dct kvs),.v kd,.v zd=>match keyD kd with
  | some key=>match (dvalD kvs key).getD zd with
   | .int n=>pure (.nx ((σ.set j (.dct (ddropD kvs key))).set i (.val (.int n))))
   | _=>bad
  | none=>bad
 | _,_,_=>bad):=rfl
omit [L2.TabP] in
@[simp] theorem e_neD {ka kb:List (Key×D)}:oNeD (.dv ka) (.dv kb)=if intsD ka=true∧intsD kb=true then pure (.v (.bl (!(ka.length == kb.length && sameD ka kb)))) else bad:=rfl
end L3
namespace L3
open PySem PySem.Spec L2 PyProof.Rows
def cutS (z:Str) (lo hi:Option Int):Str:=⟨(cutD z.cps.toList lo hi).toArray⟩
def oSlS:R→Option Int→Option Int→M R
 | .v (.str z),lo,hi=>if z.length≤sizeLine then pure (.v (.str (cutS z lo hi))) else bad
 | _,_,_=>bad
def cSlS (a:ME) (lo hi:MO):ME:=fun σ=>do
 let x ←a σ
 let l ←lo σ
 let h ←hi σ
 oSlS x l h
theorem part_of {v:Value} {o:Option Int} (h:IsPart v o):∃l:Option (Int×Tok),v=partValue l∧l.map (·.1)=o:=by
 cases h with
 | none=>exact ⟨none,rfl,rfl⟩
 | int i t=>exact ⟨some (i,t),rfl,rfl⟩
theorem sIx_le' (n d:Nat) (hd:d≤n) (o:Option Int):HT.sIx n d o≤n:=by
 unfold HT.sIx
 cases o with
 | none=>exact hd
 | some i=>simp only [];split <;> omega
theorem picked_cut (z:Str) (lo hi:Option Int):(Builtin.Str.strSliceIndices lo hi 1 z.length).filterMap (fun x=>z.cps[x]?)=cutD z.cps.toList lo hi∧(Builtin.Str.strSliceIndices lo hi 1 z.length).length=HT.sIx z.length z.length hi - HT.sIx z.length 0 lo:=by
 obtain ⟨h1,h2,h3⟩:=slice_bounds lo hi z.length
 have e:Builtin.Str.strSliceIndices lo hi 1 z.length=sliceRange (sliceBounds lo hi none z.length).1 (sliceBounds lo hi none z.length).2.1 1:=rfl
 rw [e,h1,h2,sliceRange_one]
 refine ⟨?_,by rw [List.length_map,List.length_range]⟩
 rw [pick_run]
 unfold cutD
 rw [show z.cps.toList.length=z.length from Array.length_toList]
theorem cutS_whole {z:Str} {lo hi:Option Int} (h:HT.sIx z.length z.length hi - HT.sIx z.length 0 lo=z.length):cutS z lo hi=z:=by
 have h1:=sIx_le' z.length 0 (Nat.zero_le _) lo
 have h2:=sIx_le' z.length z.length (Nat.le_refl _) hi
 have zl:z.cps.toList.length=z.length:=Array.length_toList
 unfold cutS cutD
 rw [zl]
 have ha:HT.sIx z.length 0 lo=0∨z.length=0:=by omega
 have:(z.cps.toList.drop (HT.sIx z.length 0 lo)).take (HT.sIx z.length z.length hi - HT.sIx z.length 0 lo)=z.cps.toList:=by
  rcases ha with ha | ha
  ·rw [ha,List.drop_zero,List.take_of_length_le (by omega)]
  ·have:z.cps.toList=[]:=List.eq_nil_of_length_eq_zero (by omega)
   rw [this];simp
 rw [this]
theorem cutS_len (z:Str) (lo hi:Option Int):(cutS z lo hi).length≤z.length:=by
 show (cutD z.cps.toList lo hi).toArray.size≤z.cps.size
 rw [List.size_toArray]
 unfold cutD
 rw [List.length_take,List.length_drop,Array.length_toList]
 omega
theorem sl_str {X:Cx}:SlR X (fun x lo hi H Q=>∃z,x = .str z∧z.length≤sizeLine∧Q (.str (cutS z lo hi)) H):=by
 rintro pins s σ H x v vl vu lo hi sl Q I rx hs pl pu ⟨z,ex,hz,q⟩
 subst ex
 obtain ⟨t,rfl⟩:=rx
 obtain ⟨l,rfl,el⟩:=part_of pl
 obtain ⟨u,rfl,eu⟩:=part_of pu
 refine ⟨"str",_,slot_str_getitem.lookup,typeIs_str s z t,?_⟩
 refine wpAny_getItem_str_slice (l:=l) (u:=u) (st:=none) hs rfl ?_
 obtain ⟨p1,p2⟩:=picked_cut z lo hi
 have ep:slicePicked z l u none=Builtin.Str.strSliceIndices lo hi 1 z.length:=by
  unfold slicePicked
  rw [el,eu];rfl
 unfold sliceMade
 rw [ep,p2]
 by_cases c:HT.sIx z.length z.length hi - HT.sIx z.length 0 lo=z.length
 ·rw [if_pos (by simp [c])]
  rw [cutS_whole c] at q
  exact ⟨.str z,H,I,⟨t,rfl⟩,q⟩
 ·rw [if_neg (by simp [c])]
  show _≤sizeLine∧_
  rw [p1]
  refine ⟨Nat.le_trans (cutS_len z lo hi) hz,.str (cutS z lo hi),H,?_,⟨s.toks,rfl⟩,q⟩
  exact I.kept (t':=s.toks + 1) fun b o e=>e
variable [L2.TabP]
section
variable {X:Cx} {e:Expr} {m:ME} {lo hi:Option Expr} {ml mh:MO} {pos p2:Pos}
theorem ce_sliceS (he:CE X e m) (hl:CO X lo ml) (hu:CO X hi mh):CE X (.Subscript e (.Slice lo hi none p2) pos) (cSlS m ml mh):=pe_imp (pe_slice sl_str he hl hu) fun σV H Q zz0=>by
 obtain ⟨O,σ,S,r,S',st,h,q⟩:=zz0
 obtain ⟨x,S1,h1,ha⟩:=M.inv h
 clear h
 obtain ⟨l,S2,h2,hb⟩:=M.inv ha
 clear ha
 obtain ⟨u,S3',h3,h⟩:=M.inv hb
 clear hb
 refine ⟨O,σ,S,x,S1,st,h1,fun O1 vx H1 g1 st1 rx nx=>?_⟩
 refine ⟨O1,σ,S1,l,S2,st1,h2,fun O2 H2 g2 st2=>?_⟩
 refine ⟨O2,σ,S2,u,S3',st2,h3,fun O3 H3 g3 st3=>?_⟩
 have g:=(g1.trans g2).trans g3
 unfold oSlS at h
 split at h
 ·rename_i z
  by_cases c:z.length≤sizeLine
  ·rw [if_pos c] at h
   cases h
   cases (show vx = .str z from rx)
   exact ⟨z,rfl,c,q O3 _ H3 g st3 rfl trivial⟩
  ·rw [if_neg c] at h;cases h
 ·cases h
theorem we_sliceS (he:WE X e m) (hl:WO X lo ml) (hu:WO X hi mh):WE X (.Subscript e (.Slice lo hi none p2) pos) (cSlS m ml mh):=⟨ce_sliceS he.un hl.un hu.un⟩
end
omit [L2.TabP] in
@[simp] theorem e_slS {a:ME} {lo hi:MO} {σ:En}:cSlS a lo hi σ=(do
 let x ←a σ
 let l ←lo σ
 let h ←hi σ
 oSlS x l h):=rfl
omit [L2.TabP] in
@[simp] theorem e_sls {z:Str} {lo hi:Option Int}:oSlS (.v (.str z)) lo hi=if z.length≤sizeLine then pure (.v (.str (cutS z lo hi))) else bad:=rfl
end L3
namespace L3
open PySem PySem.Spec L2 PyProof.Rows
structure FnTab (P:Program) (w:World) (K:PySem.W.Frag) (mg:Str→Option Value) (x:Str) (ps:List (Str×Str)):Prop where
 ex:∃(a:Addr) (es:Array DictEntry) (n:Nat),mg x=some (.ref a)∧List.lookup a K=some { cls:=.type "dict",data:=.dict es n }∧PySem.KeysOf (PySem.strKind P w) es∧
  ∀k fn,ps.lookup k=some fn→∃f,findBy Value.isStrOf es k=some (.ref f)∧mg fn=some (.ref f)
def cTab (ps:List (Str×Str)) (mk:ME):ME:=fun σ=>do
 let k ←mk σ
 match k with
 | .v (.str z)=>match ps.lookup z with
  | some fn=>pure (.v (.fn fn))
  | none=>bad
 | _=>bad
def cCallV (i:Nat) (fs:List (Str×MF)) (ms:MA):ME:=fun σ=>match σ[i]? with
 | some (.val (.fn f))=>match fs.lookup f with
  | some mf=>cCall mf ms σ
  | none=>bad
 | _=>bad
def tTab (mg:Str→Option Value) (ps:List (Str×Str)) (ty:TE):TE:=fun σ H Q=>ty σ H fun y H1=>∃z fn f,y = .str z∧ps.lookup z=some fn∧mg fn=some (.ref f)∧Q (.ref f) H1
variable [L2.TabP]
section
variable {X:Cx} {x:Str} {ps:List (Str×Str)} {i:Expr} {pos p:Pos} {ty:TE} {mk:ME} {j k:Nat} {e:Expr} {es:List Expr} {ms:MA} {pp:List Str} {fs:List (Str×MF)}
omit [L2.TabP] in
theorem pe_tab (T:FnTab X.prog X.w X.K X.mg x ps) (hg:Gl X x) (hi:PE X i ty) (hs:NoSl i) (hdb:(x == ("__debug__":Str))=false:=by decide):PE X (.Subscript (.Name x p) i pos) (tTab X.mg ps ty):=by
 intro pins s σ H Q I h
 obtain ⟨a,ds,n,hm,hl,hk,hf⟩:=T.ex
 refine subD_of PySem.F.slot_dict_getitem.lookup hs (ld_glob I hg hm ?_ hdb)
 refine thn (hi pins s σ H _ I h) fun iv s2 zz0=>?_
 obtain ⟨y,H2,I2,ry,z,fn,f,ey,el,em,q2⟩:=zz0
 subst ey
 obtain ⟨t,rfl⟩:=ry
 have ha:=I2.kIn a _ hl
 obtain ⟨f',e1,e2⟩:=hf z fn el
 rw [em] at e2
 cases e2
 refine ⟨⟨_,ha,rfl⟩,?_⟩
 refine wpAny_getItem_of (knd:=PySem.strKind X.prog X.w) (k:=z) (f:=findBy Value.isStrOf ds) (v:=.ref f) ?_ ?_ e1 ?_
 ·show (z == z)=true
  simp
 ·exact ⟨_,ds,n,ha,⟨rfl,rfl,rfl⟩,rfl,hk,fun _=>rfl⟩
 ·exact ⟨.ref f,H2,I2.tok _,rfl,q2⟩
theorem ce_tab (T:FnTab X.prog X.w X.K X.mg x ps) (hg:Gl X x) (hi:CE X i mk) (hs:NoSl i:=by exact fun _ _=>rfl) (hdb:(x == ("__debug__":Str))=false:=by decide) :
  CE X (.Subscript (.Name x p) i pos) (cTab ps mk):=pe_imp (pe_tab T hg hi hs hdb) fun σV H Q zz0=>by
 obtain ⟨O,σ,S,r,S',st,h,q⟩:=zz0
 obtain ⟨y,S1,h1,h⟩:=M.inv h
 split at h
 ·rename_i z
  split at h
  ·rename_i fn el
   cases h
   obtain ⟨_,_,_,_,_,_,hall⟩:=T.ex
   obtain ⟨f,_,em⟩:=hall z fn el
   refine ⟨O,σ,S,_,_,st,h1,fun O1 v H1 g1 st1 rr nn=>?_⟩
   exact ⟨z,fn,f,rr,el,em,q O1 _ H1 g1 st1 ⟨f,rfl,em⟩ trivial⟩
  ·cases h
 ·cases h
omit [L2.TabP] in
theorem pe_callV (hN:X.N[j]? = some x) (hv:Vis X.env.scope x) (hr:Room k X.A) {t:TA} (ha:PA X (e :: es) t) (hdb:(x == ("__debug__":Str))=false:=by decide) (hcd:(x == ("__classdict__":Str))=false:=by decide)
  (he:starEach (e :: es) X.env=(false,eval e X.env) :: starEach es X.env:=by rfl) (hpl:(backTo pos (starEach es X.env)).any (·.1)=false:=by rfl) :
  PE X (.Call (.Name x p) (e :: es) [] pos) (fun σ H Q=>∃(f:Addr) (fd:FuncData) (sp:Sp),σ[j]? = some (some (.ref f))∧FnOk X.prog X.w X.K X.mg X.base CX0 k f fd pp sp∧Binds X.K fd pp []∧PySem.W.keepIn X.K (.ref f)=true∧t σ H fun vs H1=>sp vs H1 Q E0):=by
 rintro pins s σ H Q I ⟨f,fd,sp,ev,F,b,kp,h⟩
 refine wpAny_Call_Name_kw (thn (pe_var hN hv hdb hcd pins s σ H (fun v H'=>v = .ref f∧H'=H) I ⟨.ref f,ev,rfl,rfl⟩) fun u s1 zz0=>?_)
 obtain ⟨v,H1,I1,r1,e1,e2⟩:=zz0
 subst e1 e2
 obtain rfl:u=Value.ref f:=r1
 refine PySem.W.callWith_K (h₀:=X.base) I.ok.mod.kin kp (thn (ha pos pins s1 σ H1 _ I1 h) fun us s2 ⟨vs,H2,I2,r,q⟩=>⟨I2.kIn,?_⟩) he hpl
 exact run_fn (dvs:=[]) (ds:=[]) F hr b .nil pass0 I2 r (by simpa only [List.append_nil] using q)
theorem ce_callV (hN:X.N[j]? = some x) (hv:Vis X.env.scope x) (hfs:∀f mf,fs.lookup f=some mf→Has X.prog X.w X.K X.mg X.base f pp k (spF X.K X.mg mf)) (hr:Room k X.A) (ha:CA X (e :: es) ms) (hdb:(x == ("__debug__":Str))=false:=by decide) (hcd:(x == ("__classdict__":Str))=false:=by decide)
  (he:starEach (e :: es) X.env=(false,eval e X.env) :: starEach es X.env:=by rfl) (hpl:(backTo pos (starEach es X.env)).any (·.1)=false:=by rfl):CE X (.Call (.Name x p) (e :: es) [] pos) (cCallV j fs ms):=
 pe_imp (pe_callV (pp:=pp) hN hv hr ha hdb hcd he hpl) fun σV H Q zz0=>by
  obtain ⟨O,σ,S,r,S',st,h,q⟩:=zz0
  unfold cCallV at h
  split at h
  ·rename_i f ej
   split at h
   ·rename_i mf el
    obtain ⟨fa,fd,F,b,kp,m⟩:=(hfs f mf el).ex
    obtain ⟨v,ev,a,rfl,em⟩:=st.loc j _ ej
    have:a=fa:=by
     rw [m] at em
     cases em
     rfl
    subst this
    have ev':σV[j]? = some (some (.ref a)):=by
     cases w:σV[j]? with
     | none=>rw [w] at ev;cases ev
     | some y=>rw [w] at ev;exact congrArg some ev
    exact ⟨a,fd,_,ev',F,b,kp,call_read σV H Q ⟨O,σ,S,r,S',st,h,q⟩⟩
   ·cases h
  ·cases h
theorem we_tab (T:FnTab X.prog X.w X.K X.mg x ps) (hg:Gl X x) (hi:WE X i mk) (hs:NoSl i:=by exact fun _ _=>rfl) (hdb:(x == ("__debug__":Str))=false:=by decide):WE X (.Subscript (.Name x p) i pos) (cTab ps mk):=⟨ce_tab T hg hi.un hs hdb⟩
theorem we_callV (hfs:∀f mf,fs.lookup f=some mf→Has X.prog X.w X.K X.mg X.base f pp k (spF X.K X.mg mf)) (hN:X.N[j]? = some x) (hv:Vis X.env.scope x) (hr:Room k X.A) (ha:WA X (e :: es) ms) (hdb:(x == ("__debug__":Str))=false:=by decide) (hcd:(x == ("__classdict__":Str))=false:=by decide)
  (he:starEach (e :: es) X.env=(false,eval e X.env) :: starEach es X.env:=by rfl) (hpl:(backTo pos (starEach es X.env)).any (·.1)=false:=by rfl):WE X (.Call (.Name x p) (e :: es) [] pos) (cCallV j fs ms):=⟨ce_callV hN hv hfs hr ha.un hdb hcd he hpl⟩
end
omit [L2.TabP] in
theorem lookup_all {α β:Type} [BEq α] [LawfulBEq α] {P:α→β→Prop}:∀{l:List (α×β)},(∀x∈l,P x.1 x.2)→∀a b,l.lookup a=some b→P a b
 | [],_,_,_,h=>by cases h
 | (c,d) :: l,hp,a,b,h=>by
  rw [List.lookup_cons] at h
  split at h
  ·rename_i e
   cases h
   rw [eq_of_beq e]
   exact hp _ List.mem_cons_self
  ·exact lookup_all (fun x hx=>hp x (List.mem_cons_of_mem _ hx)) a b h
omit [L2.TabP] in
theorem fntab_mk {P:Program} {w:World} {K:PySem.W.Frag} {h:Heap} {mg:Str→Option Value} {x:Str} {d:Addr} {es:Array DictEntry} {n:Nat} {ps:List (Str×Str)} (X:K.In h) (G:h.Ns mainGlobals mg)
  (a:PySem.W.nsIn K mainGlobals x=some (some (.ref d))) (l:List.lookup d K=some { cls:=.type "dict",data:=.dict es n }) (k:∀e∈es.toList,∃s,Value.isStrOf s e.key=true∧e.hash=hashStr w s)
  (f:∀p∈ps,∃f,PySem.W.nsIn K d p.1=some (some (.ref f))∧PySem.W.nsIn K mainGlobals p.2=some (some (.ref f))):FnTab P w K mg x ps:=by
 refine ⟨d,es,n,PySem.W.mg_of X G a,l,fun e he=>?_,lookup_all (P:=fun k fn=>∃f,findBy Value.isStrOf es k=some (.ref f)∧mg fn=some (.ref f)) fun p hp=>?_⟩
 ·obtain ⟨s,h1,h2⟩:=k e (by simpa using he)
  exact ⟨s,h1,h2⟩
 ·obtain ⟨f,h1,h2⟩:=f p hp
  exact ⟨f,PySem.W.find_K l h1,PySem.W.mg_of X G h2⟩
omit [L2.TabP] in
@[simp] theorem e_tab {ps:List (Str×Str)} {mk:ME} {σ:En}:cTab ps mk σ=(do
 let k ←mk σ
 match k with
 | .v (.str z)=>match ps.lookup z with
  | some fn=>pure (.v (.fn fn))
  | none=>bad
 | _=>bad):=rfl
omit [L2.TabP] in
@[simp] theorem e_callV {i:Nat} {fs:List (Str×MF)} {ms:MA} {σ:En}:cCallV i fs ms σ=match σ[i]? with
 | some (.val (.fn f))=>match fs.lookup f with
  | some mf=>cCall mf ms σ
  | none=>bad
 | _=>bad:=rfl
omit [L2.TabP] in
@[simp] theorem e_slotfn {f:Str}:slotOf (.fn f) = .val (.fn f):=rfl
omit [L2.TabP] in
theorem not_tab {K:PySem.W.Frag} {P P' c:Addr} {x y:Str} (ht:PySem.W.tabIn K y=some (c,P')) (ne:P'≠P) (h:isTab K P y=true):y=x:=by
 unfold isTab at h
 rw [ht] at h
 exact absurd (eq_of_beq h) ne
end L3
namespace L3
open PySem PySem.Spec L2 PyProof.Rows
def cIPut (j:Nat) (mk mv:ME):MS:=fun σ=>do
 let r ←mv σ
 let d ←r.dat
 let k ←mk σ
 match σ[j]?,k with
 | some (.ow p xs),.v (.int i)=>if 0≤i∧i < xs.length then pure (.nx (σ.set j (.ow p (xs.set i.toNat d)))) else bad
 | _,_=>bad
variable [L2.TabP]
section
variable {X:Cx} {pos tpos:Pos} {is:List Nat} {es:List Expr} {k:Nat} {iter:Expr} {it:MI} {body:List Stmt} {b:MS}
def cForL (is:List Nat) (it:MI) (b:MS):MS:=fun σ=>do
 let ds ←it σ
 fLoop (fun d σ=>match d with
  | .lst es=>if es.length=is.length then b (setsD is es σ) else bad
  | _=>bad) ds σ
end
omit [L2.TabP] in
@[simp] theorem e_iput {j:Nat} {mk mv:ME} {σ:En}:cIPut j mk mv σ=(do
 let r ←mv σ
 let d ←r.dat
 let k ←mk σ
 match σ[j]?,k with
 | some (.ow p xs),.v (.int i)=>if 0≤i∧i < xs.length then pure (.nx (σ.set j (.ow p (xs.set i.toNat d)))) else bad
 | _,_=>bad):=rfl
omit [L2.TabP] in
@[simp] theorem e_forL {is:List Nat} {it:MI} {b:MS} {σ:En}:cForL is it b σ=(do
 let ds ←it σ
 fLoop (fun d σ=>match d with
  | .lst es=>if es.length=is.length then b (setsD is es σ) else bad
  | _=>bad) ds σ):=rfl
end L3
namespace L3
open PySem PySem.W PyProof.Rows
structure Ord (n:Nat) (lt:Nat→Nat→Bool):Prop where
 tr:∀i j k,i < n→j < n→k < n→lt i j=true→lt j k=true→lt i k=true
 tot:∀i j,i < n→j < n→i≠j→lt i j=false→lt j i=true
 asy:∀i j,i < n→j < n→lt i j=true→lt j i=false
structure Row (n:Nat) (p:Array Nat):Prop where
 sz:p.size=n
 lt:∀i,i < n→p.getD i 0 < n
 ap:∀i j,i < n→j < n→i≠j→p.getD i 0≠p.getD j 0
 pm:p.toList.Perm (List.range n)
section
variable {n:Nat} {lt:Nat→Nat→Bool} (O:Ord n lt)
include O
end
end L3
namespace L3
open PySem PySem.Spec L2 PyProof.Rows
def unPl:D→Option Pl
 | .tup [.int e,.tup [.int n,.int i]]=>some (e,n,i)
 | _=>none
def pval (kvs:List (Pl×D)) (p:Pl):Option D:=(kvs.find? fun kv=>decide (kv.1=p)).map (·.2)
def pput (kvs:List (Pl×D)) (p:Pl) (d:D):List (Pl×D):=if (kvs.any fun kv=>decide (kv.1=p))=true then kvs.map fun kv=>if kv.1=p then (kv.1,d) else kv else kvs ++ [(p,d)]
end L3
namespace L3
open PySem PySem.Spec L2 PyProof.Rows
variable [L2.TabP]
section
variable {K:PySem.W.Frag} {mg:Str→Option Value} {O:Ow} {H:Hp} {l:Addr} {zs:List (Pl×Addr×Value)} {o:HO}
mutual
theorem Rep.updP (hl:H l=some (PD l zs)):∀{d:D} {v:V},Rep K mg O H d v→Rep K mg O (upd H l o) d v
 | .non,_,h=>h
 | .bl _,_,h=>h
 | .int _,_,h=>h
 | .str _,_,h=>h
 | .tup _,_,h=>by
  obtain ⟨a,ys,q,t,r⟩:=h
  refine ⟨a,ys,q,?_,RepAll.updP hl r⟩
  rcases t with (t | ⟨o,t⟩) | t
  ·exact .inl (.inl (by rw [upd_ne (ne_of t hl (by intro z;cases z))];exact t))
  ·exact .inl (.inr ⟨o,by rw [upd_ne (ne_of t hl (by intro z;cases z))];exact t⟩)
  ·exact .inr t
 | .lst _,_,h=>by
  obtain ⟨a,ys,q,t,r⟩:=h
  exact ⟨a,ys,q,⟨by rw [upd_ne (ne_of t.1 hl (by intro z;cases z))];exact t.1,t.2⟩,RepAll.updP hl r⟩
 | .dic _ _,_,h=>h
 | .fn _,_,h=>h
 | .ty _,_,h=>h
theorem RepAll.updP (hl:H l=some (PD l zs)):∀{ds:List D} {ys:List V},RepAll K mg O H ds ys→RepAll K mg O (upd H l o) ds ys
 | [],_,h=>h
 | _ :: _,_,h=>by obtain ⟨x,r,q,a,b⟩:=h;exact ⟨x,r,q,Rep.updP hl a,RepAll.updP hl b⟩
end
end
def cPNew (i:Nat):MS:=fun σ=>pure (.nx (σ.set i (.pd [])))
def pdOf:Option Slot→Option (List (Pl×D))
 | some (.pd kvs)=>some kvs
 | some (.vp kvs)=>some kvs
 | _=>none
def cPIx (j:Nat) (mk:ME):ME:=fun σ=>do
 let k ←mk σ
 match pdOf σ[j]?,k with
 | some kvs,.v kd=>match unPl kd with
  | some p=>match pval kvs p with
   | some d=>pure (.v d)
   | none=>bad
  | none=>bad
 | _,_=>bad
def cPGet2 (j:Nat) (mk mx:ME):ME:=fun σ=>do
 let k ←mk σ
 let z ←mx σ
 match pdOf σ[j]?,k,z with
 | some kvs,.v kd,.v zd=>match unPl kd with
  | some p=>pure (.v ((pval kvs p).getD zd))
  | none=>bad
 | _,_,_=>bad
def cPPut (i:Nat) (mk mv:ME):MS:=fun σ=>do
 let r ←mv σ
 let d ←r.dat
 let k ←mk σ
 match σ[i]?,k with
 | some (.pd kvs),.v kd=>match unPl kd with
  | some p=>if kvs.length < 1000 then pure (.nx (σ.set i (.pd (pput kvs p d)))) else bad
  | none=>bad
 | _,_=>bad
end L3
namespace L3
open PySem PySem.Spec L2 PyProof.Rows PySem.W
def plB (a b:Pl):Bool:=decide (a.1 < b.1∨a.1=b.1∧(a.2.1 < b.2.1∨a.2.1=b.2.1∧a.2.2 < b.2.2))
end L3
namespace L3
open PySem PySem.Spec L2 PyProof.Rows PySem.W
variable [L2.TabP]
def cSortPl (j:Nat):ME:=fun σ=>match pdOf σ[j]? with
 | some kvs=>if kvs.length < 64 then pure (.fr ((sortB plB (kvs.map fun kv=>(kv.1,plD kv.1))).map (·.2))) else bad
 | none=>bad
section
omit [L2.TabP]
@[simp] theorem e_pnew {i:Nat} {σ:En}:cPNew i σ=pure (.nx (σ.set i (.pd []))):=rfl
@[simp] theorem e_pdOf {kvs:List (Pl×D)}:pdOf (some (.pd kvs))=some kvs:=rfl
@[simp] theorem e_vpOf {kvs:List (Pl×D)}:pdOf (some (.vp kvs))=some kvs:=rfl
@[simp] theorem e_cppd {kvs:List (Pl×D)}:cpSlot (some (.pd kvs)) = .vp kvs:=rfl
@[simp] theorem e_unPl {a b c:Int}:unPl (.tup [.int a,.tup [.int b,.int c]])=some (a,b,c):=rfl
@[simp] theorem e_unPlD {p:Pl}:unPl (plD p)=some p:=rfl
@[simp] theorem e_pix {j:Nat} {mk:ME} {σ:En}:cPIx j mk σ=(do
 let k ←mk σ
 match pdOf σ[j]?,k with
 | some kvs,.v kd=>match unPl kd with
  | some p=>match pval kvs p with
   | some d=>pure (.v d)
   | none=>bad
  | none=>bad
 | _,_=>bad):=rfl
@[simp] theorem e_pget2 {j:Nat} {mk mx:ME} {σ:En}:cPGet2 j mk mx σ=(do
 let k ←mk σ
 let z ←mx σ
 match pdOf σ[j]?,k,z with
 | some kvs,.v kd,.v zd=>match unPl kd with
  | some p=>pure (.v ((pval kvs p).getD zd))
  | none=>bad
 | _,_,_=>bad):=rfl
@[simp] theorem e_pput {i:Nat} {mk mv:ME} {σ:En}:cPPut i mk mv σ=(do
 let r ←mv σ
 let d ←r.dat
 let k ←mk σ
 match σ[i]?,k with
 | some (.pd kvs),.v kd=>match unPl kd with
  | some p=>if kvs.length < 1000 then pure (.nx (σ.set i (.pd (pput kvs p d)))) else bad
  | none=>bad
 | _,_=>bad):=rfl
@[simp] theorem e_sortPl {j:Nat} {σ:En}:cSortPl j σ=match pdOf σ[j]? with
 | some kvs=>if kvs.length < 64 then pure (.fr ((sortB plB (kvs.map fun kv=>(kv.1,plD kv.1))).map (·.2))) else bad
 | none=>bad:=rfl
end
end L3
namespace L3
open PySem PySem.Spec L2
section
variable {P:List Value→Prop}
theorem us0 (h:P []):∀us:List Value,us.length=0→P us:=fun us e=>by rw [List.eq_nil_of_length_eq_zero e];exact h
theorem usS {n:Nat} (h:∀a,∀us:List Value,us.length=n→P (a :: us)):∀us:List Value,us.length=n + 1→P us:=fun us e=>by
 cases us with
 | nil=>cases e
 | cons a r=>exact h a r (Nat.succ.inj e)
theorem us1 (h:∀a,P [a]):∀us:List Value,us.length=1→P us:=usS fun a=>us0 (h a)
theorem us2 (h:∀a b,P [a,b]):∀us:List Value,us.length=2→P us:=usS fun a=>us1 (h a)
theorem us3 (h:∀a b c,P [a,b,c]):∀us:List Value,us.length=3→P us:=usS fun a=>us2 (h a)
theorem us4 (h:∀a b c d,P [a,b,c,d]):∀us:List Value,us.length=4→P us:=usS fun a=>us3 (h a)
end
end L3
namespace K17
open PySem PySem.Spec L2 L3
def top (i:Nat):Stmt:=PySem.Challenge.pw_oneslate_k17_whole_along.main.body.getD i (.Pass ⟨0,0,0,0⟩)
abbrev s_lease_of:Stmt:=top 1
theorem sc_lease_of:FnScope ["slate"] ["slate"] (defScope s_lease_of):=⟨rfl,rfl,rfl,by decide +kernel,rfl,by decide +kernel,by decide +kernel⟩
abbrev s_shut_of:Stmt:=top 2
theorem sc_shut_of:FnScope ["slate"] ["slate"] (defScope s_shut_of):=⟨rfl,rfl,rfl,by decide +kernel,rfl,by decide +kernel,by decide +kernel⟩
abbrev s_is_shut:Stmt:=top 3
theorem sc_is_shut:FnScope ["slate"] ["slate"] (defScope s_is_shut):=⟨rfl,rfl,rfl,by decide +kernel,rfl,by decide +kernel,by decide +kernel⟩
abbrev s_cell_of:Stmt:=top 4
theorem sc_cell_of:FnScope ["slate","name","cell"] ["slate","name"] (defScope s_cell_of):=⟨rfl,rfl,rfl,by decide +kernel,rfl,by decide +kernel,by decide +kernel⟩
abbrev s_with_cell:Stmt:=top 5
theorem sc_with_cell:FnScope ["slate","name","n","cells"] ["slate","name","n"] (defScope s_with_cell):=⟨rfl,rfl,rfl,by decide +kernel,rfl,by decide +kernel,by decide +kernel⟩
abbrev s_doing_of:Stmt:=top 6
theorem sc_doing_of:FnScope ["slate","asker","doing"] ["slate","asker"] (defScope s_doing_of):=⟨rfl,rfl,rfl,by decide +kernel,rfl,by decide +kernel,by decide +kernel⟩
abbrev s_with_doing:Stmt:=top 7
theorem sc_with_doing:FnScope ["slate","asker","number","answer","doings"] ["slate","asker","number","answer"] (defScope s_with_doing):=⟨rfl,rfl,rfl,by decide +kernel,rfl,by decide +kernel,by decide +kernel⟩
abbrev s_with_lease:Stmt:=top 8
theorem sc_with_lease:FnScope ["slate","fence","tenant"] ["slate","fence","tenant"] (defScope s_with_lease):=⟨rfl,rfl,rfl,by decide +kernel,rfl,by decide +kernel,by decide +kernel⟩
abbrev s_with_shut:Stmt:=top 9
theorem sc_with_shut:FnScope ["slate","shut"] ["slate","shut"] (defScope s_with_shut):=⟨rfl,rfl,rfl,by decide +kernel,rfl,by decide +kernel,by decide +kernel⟩
abbrev s_do_put:Stmt:=top 11
theorem sc_do_put:FnScope ["slate","asker","deed"] ["slate","asker","deed"] (defScope s_do_put):=⟨rfl,rfl,rfl,by decide +kernel,rfl,by decide +kernel,by decide +kernel⟩
abbrev s_do_add:Stmt:=top 12
theorem sc_do_add:FnScope ["slate","asker","deed","total"] ["slate","asker","deed"] (defScope s_do_add):=⟨rfl,rfl,rfl,by decide +kernel,rfl,by decide +kernel,by decide +kernel⟩
abbrev s_do_swap:Stmt:=top 13
theorem sc_do_swap:FnScope ["slate","asker","deed"] ["slate","asker","deed"] (defScope s_do_swap):=⟨rfl,rfl,rfl,by decide +kernel,rfl,by decide +kernel,by decide +kernel⟩
abbrev s_lent:Stmt:=top 14
theorem sc_lent:FnScope ["slate","fence","tenant"] ["slate","fence","tenant"] (defScope s_lent):=⟨rfl,rfl,rfl,by decide +kernel,rfl,by decide +kernel,by decide +kernel⟩
abbrev s_not_lent:Stmt:=top 15
theorem sc_not_lent:FnScope ["slate","lease"] ["slate"] (defScope s_not_lent):=⟨rfl,rfl,rfl,by decide +kernel,rfl,by decide +kernel,by decide +kernel⟩
abbrev s_do_take:Stmt:=top 16
theorem sc_do_take:FnScope ["slate","asker","deed"] ["slate","asker","deed"] (defScope s_do_take):=⟨rfl,rfl,rfl,by decide +kernel,rfl,by decide +kernel,by decide +kernel⟩
abbrev s_do_renew:Stmt:=top 17
theorem sc_do_renew:FnScope ["slate","asker","deed"] ["slate","asker","deed"] (defScope s_do_renew):=⟨rfl,rfl,rfl,by decide +kernel,rfl,by decide +kernel,by decide +kernel⟩
abbrev s_do_free:Stmt:=top 18
theorem sc_do_free:FnScope ["slate","asker","deed"] ["slate","asker","deed"] (defScope s_do_free):=⟨rfl,rfl,rfl,by decide +kernel,rfl,by decide +kernel,by decide +kernel⟩
abbrev s_do_sure:Stmt:=top 19
theorem sc_do_sure:FnScope ["slate","asker","deed"] ["slate","asker","deed"] (defScope s_do_sure):=⟨rfl,rfl,rfl,by decide +kernel,rfl,by decide +kernel,by decide +kernel⟩
abbrev s_do_move:Stmt:=top 20
theorem sc_do_move:FnScope ["slate","asker","deed"] ["slate","asker","deed"] (defScope s_do_move):=⟨rfl,rfl,rfl,by decide +kernel,rfl,by decide +kernel,by decide +kernel⟩
abbrev s_do_end:Stmt:=top 21
theorem sc_do_end:FnScope ["slate","asker","deed"] ["slate","asker","deed"] (defScope s_do_end):=⟨rfl,rfl,rfl,by decide +kernel,rfl,by decide +kernel,by decide +kernel⟩
abbrev s_outcome_of:Stmt:=top 23
theorem sc_outcome_of:FnScope ["slate","asker","deed","doer"] ["slate","asker","deed"] (defScope s_outcome_of):=⟨rfl,rfl,rfl,by decide +kernel,rfl,by decide +kernel,by decide +kernel⟩
abbrev s_done_on:Stmt:=top 24
theorem sc_done_on:FnScope ["slate","asker","number","deed","made"] ["slate","asker","number","deed"] (defScope s_done_on):=⟨rfl,rfl,rfl,by decide +kernel,rfl,by decide +kernel,by decide +kernel⟩
abbrev s_along:Stmt:=top 25
theorem sc_along:FnScope ["slate","rows","slates","row"] ["slate","rows"] (defScope s_along):=⟨rfl,rfl,rfl,by decide +kernel,rfl,by decide +kernel,by decide +kernel⟩
abbrev s_law_cell_at:Stmt:=top 27
theorem sc_law_cell_at:FnScope ["script","k"] ["script","k"] (defScope s_law_cell_at):=⟨rfl,rfl,rfl,by decide +kernel,rfl,by decide +kernel,by decide +kernel⟩
abbrev s_law_whole:Stmt:=top 28
theorem sc_law_whole:FnScope ["found"] ["found"] (defScope s_law_whole):=⟨rfl,rfl,rfl,by decide +kernel,rfl,by decide +kernel,by decide +kernel⟩
abbrev s_law_word:Stmt:=top 29
theorem sc_law_word:FnScope ["number","letters","rest","size","word","k"] ["number"] (defScope s_law_word):=⟨rfl,rfl,rfl,by decide +kernel,rfl,by decide +kernel,by decide +kernel⟩
abbrev s_law_near:Stmt:=top 30
theorem sc_law_near:FnScope ["word","number","letters","at"] ["word","number"] (defScope s_law_near):=⟨rfl,rfl,rfl,by decide +kernel,rfl,by decide +kernel,by decide +kernel⟩
abbrev s_law_pool:Stmt:=top 31
theorem sc_law_pool:FnScope ["script","first","pool"] ["script"] (defScope s_law_pool):=⟨rfl,rfl,rfl,by decide +kernel,rfl,by decide +kernel,by decide +kernel⟩
abbrev s_law_number:Stmt:=top 32
theorem sc_law_number:FnScope ["number","size"] ["number"] (defScope s_law_number):=⟨rfl,rfl,rfl,by decide +kernel,rfl,by decide +kernel,by decide +kernel⟩
abbrev s_law_plain:Stmt:=top 33
theorem sc_law_plain:FnScope ["thing","part"] ["thing"] (defScope s_law_plain):=⟨rfl,rfl,rfl,by decide +kernel,rfl,by decide +kernel,by decide +kernel⟩
abbrev s_law_deed:Stmt:=top 35
theorem sc_law_deed:FnScope ["number","mixed","pool","fence","kind","name","n","some"] ["number","mixed","pool","fence"] (defScope s_law_deed):=⟨rfl,rfl,rfl,by decide +kernel,rfl,by decide +kernel,by decide +kernel⟩
abbrev s_law_lent:Stmt:=top 36
theorem sc_law_lent:FnScope ["lease","asker","deed"] ["lease","asker","deed"] (defScope s_law_lent):=⟨rfl,rfl,rfl,by decide +kernel,rfl,by decide +kernel,by decide +kernel⟩
abbrev s_law_rows:Stmt:=top 37
theorem sc_law_rows:FnScope ["script","pool","rows","last","known","lease","k","mixed","asker","number","deed"] ["script","pool"] (defScope s_law_rows):=⟨rfl,rfl,rfl,by decide +kernel,rfl,by decide +kernel,by decide +kernel⟩
abbrev s_law_cells:Stmt:=top 38
theorem sc_law_cells:FnScope ["slate","cells","name","n"] ["slate"] (defScope s_law_cells):=⟨rfl,rfl,rfl,by decide +kernel,rfl,by decide +kernel,by decide +kernel⟩
abbrev s_law_form:Stmt:=top 39
theorem sc_law_form:FnScope ["slate","part","pair","doing","names","askers"] ["slate"] (defScope s_law_form):=⟨rfl,rfl,rfl,by decide +kernel,rfl,by decide +kernel,by decide +kernel⟩
abbrev s_law_leased:Stmt:=top 40
theorem sc_law_leased:FnScope ["ahead","slate","row","answer","fence","tenant","asker","number","deed","good"] ["ahead","slate","row","answer"] (defScope s_law_leased):=⟨rfl,rfl,rfl,by decide +kernel,rfl,by decide +kernel,by decide +kernel⟩
abbrev s_law_written:Stmt:=top 41
theorem sc_law_written:FnScope ["ahead","slate","row","answer","asker","number","deed","name","before","behind","had","has","good"] ["ahead","slate","row","answer"] (defScope s_law_written):=⟨rfl,rfl,rfl,by decide +kernel,rfl,by decide +kernel,by decide +kernel⟩
abbrev s_law_step:Stmt:=top 42
theorem sc_law_step:FnScope ["ahead","slate","row","asker","number","deed","doings","doing","answer","shut"] ["ahead","slate","row"] (defScope s_law_step):=⟨rfl,rfl,rfl,by decide +kernel,rfl,by decide +kernel,by decide +kernel⟩
abbrev s_law_walked:Stmt:=top 43
theorem sc_law_walked:FnScope ["told","rows","ahead","open_yet","last","done_rows","k","asker","number","deed"] ["told","rows"] (defScope s_law_walked):=⟨rfl,rfl,rfl,by decide +kernel,rfl,by decide +kernel,by decide +kernel⟩
abbrev s_law:Stmt:=top 44
theorem sc_law:FnScope ["script","pool","rows","handed","told","done_rows","total","lent_v","k","deed","answer","cut","again"] ["script"] (defScope s_law):=⟨rfl,rfl,rfl,by decide +kernel,rfl,by decide +kernel,by decide +kernel⟩
abbrev tab_DOERS:List (Str×Str):=[("put","do_put"),("add","do_add"),("swap","do_swap"),("take","do_take"),("renew","do_renew"),("free","do_free"),("sure","do_sure"),("move","do_move"),("end","do_end")]
structure Txt [L2.TabP] (P:Program) (w:World) (K:PySem.W.Frag) (mg:Str→Option Value) (base:Heap):Prop where
 d_lease_of:Df K mg "lease_of" s_lease_of ["slate"]
 d_shut_of:Df K mg "shut_of" s_shut_of ["slate"]
 d_is_shut:Df K mg "is_shut" s_is_shut ["slate"]
 d_cell_of:Df K mg "cell_of" s_cell_of ["slate","name"]
 d_with_cell:Df K mg "with_cell" s_with_cell ["slate","name","n"]
 d_doing_of:Df K mg "doing_of" s_doing_of ["slate","asker"]
 d_with_doing:Df K mg "with_doing" s_with_doing ["slate","asker","number","answer"]
 d_with_lease:Df K mg "with_lease" s_with_lease ["slate","fence","tenant"]
 d_with_shut:Df K mg "with_shut" s_with_shut ["slate","shut"]
 d_do_put:Df K mg "do_put" s_do_put ["slate","asker","deed"]
 d_do_add:Df K mg "do_add" s_do_add ["slate","asker","deed"]
 d_do_swap:Df K mg "do_swap" s_do_swap ["slate","asker","deed"]
 d_lent:Df K mg "lent" s_lent ["slate","fence","tenant"]
 d_not_lent:Df K mg "not_lent" s_not_lent ["slate"]
 d_do_take:Df K mg "do_take" s_do_take ["slate","asker","deed"]
 d_do_renew:Df K mg "do_renew" s_do_renew ["slate","asker","deed"]
 d_do_free:Df K mg "do_free" s_do_free ["slate","asker","deed"]
 d_do_sure:Df K mg "do_sure" s_do_sure ["slate","asker","deed"]
 d_do_move:Df K mg "do_move" s_do_move ["slate","asker","deed"]
 d_do_end:Df K mg "do_end" s_do_end ["slate","asker","deed"]
 d_outcome_of:Df K mg "outcome_of" s_outcome_of ["slate","asker","deed"]
 d_done_on:Df K mg "done_on" s_done_on ["slate","asker","number","deed"]
 d_along:Df K mg "along" s_along ["slate","rows"]
 d_law_cell_at:Df K mg "_law_cell_at" s_law_cell_at ["script","k"]
 d_law_whole:Df K mg "_law_whole" s_law_whole ["found"]
 d_law_word:Df K mg "_law_word" s_law_word ["number"]
 d_law_near:Df K mg "_law_near" s_law_near ["word","number"]
 d_law_pool:Df K mg "_law_pool" s_law_pool ["script"]
 d_law_number:Df K mg "_law_number" s_law_number ["number"]
 d_law_plain:Df K mg "_law_plain" s_law_plain ["thing"]
 d_law_deed:Df K mg "_law_deed" s_law_deed ["number","mixed","pool","fence"]
 d_law_lent:Df K mg "_law_lent" s_law_lent ["lease","asker","deed"]
 d_law_rows:Df K mg "_law_rows" s_law_rows ["script","pool"]
 d_law_cells:Df K mg "_law_cells" s_law_cells ["slate"]
 d_law_form:Df K mg "_law_form" s_law_form ["slate"]
 d_law_leased:Df K mg "_law_leased" s_law_leased ["ahead","slate","row","answer"]
 d_law_written:Df K mg "_law_written" s_law_written ["ahead","slate","row","answer"]
 d_law_step:Df K mg "_law_step" s_law_step ["ahead","slate","row"]
 d_law_walked:Df K mg "_law_walked" s_law_walked ["told","rows"]
 d_law:Df K mg "law" s_law ["script"]
 t_DOERS:FnTab P w K mg "DOERS" tab_DOERS
 l_with_cell:∃c Pt,Lm K c Pt (lamQ "with_cell")∧∀(f:Addr) (oc:Value) (od:Option Addr) (kV doc pm:Value) (an:Option Addr) (cdv ct:Value) (osl:Array (Option Value)),mg "with_cell"=some (.ref f)→K.lookup f=some ⟨oc,od,.func (PySem.W.fnOf "with_cell" "with_cell" (defArgs s_with_cell) (defBody s_with_cell) (defScope s_with_cell) .none kV doc pm an cdv ct),osl⟩→cdv = .ref c
 l_with_doing:∃c Pt,Lm K c Pt (lamQ "with_doing")∧∀(f:Addr) (oc:Value) (od:Option Addr) (kV doc pm:Value) (an:Option Addr) (cdv ct:Value) (osl:Array (Option Value)),mg "with_doing"=some (.ref f)→K.lookup f=some ⟨oc,od,.func (PySem.W.fnOf "with_doing" "with_doing" (defArgs s_with_doing) (defBody s_with_doing) (defScope s_with_doing) .none kV doc pm an cdv ct),osl⟩→cdv = .ref c
 bm:Bm base mg
 B:Bl3 mg
 kt:Kit K
section
variable [L2.TabP] {P:Program} {w:World} {K:PySem.W.Frag} {mg:Str→Option Value} {base:Heap}
def b_lease_of:MS:=
  (cRet (c2 oIx (cVar 0) (cK (.int 2))))
def m_lease_of:MF:=fnOf 1 1 b_lease_of
theorem has_lease_of (T:Txt P w K mg base):Has P w K mg base "lease_of" ["slate"] 1 (spF K mg m_lease_of):=by
 show Has P w K mg base _ _ _ (spF K mg (fnOf 1 1 b_lease_of))
 refine has_of (k:=0) T.d_lease_of sc_lease_of rfl rfl fun f cdv A outer s H E hr=>?_
 have hu:=hr.units
 refine @WSs.un _ _ _ _ ?_
 refine @wss_one _ _ _ _ ?_
 ·exact (ws_ret (we_ix ix_seq bIx (we_var 0) we_int (fun _ _=>rfl)))
def b_shut_of:MS:=
  (cRet (c2 oIx (cVar 0) (cK (.int 3))))
def m_shut_of:MF:=fnOf 1 1 b_shut_of
theorem has_shut_of (T:Txt P w K mg base):Has P w K mg base "shut_of" ["slate"] 1 (spF K mg m_shut_of):=by
 show Has P w K mg base _ _ _ (spF K mg (fnOf 1 1 b_shut_of))
 refine has_of (k:=0) T.d_shut_of sc_shut_of rfl rfl fun f cdv A outer s H E hr=>?_
 have hu:=hr.units
 refine @WSs.un _ _ _ _ ?_
 refine @wss_one _ _ _ _ ?_
 ·exact (ws_ret (we_ix ix_seq bIx (we_var 0) we_int (fun _ _=>rfl)))
def b_is_shut:MS:=
  (cRet (c2 oNotN (cCall m_shut_of (cCons (cVar 0) cNil)) (cK (.non))))
def m_is_shut:MF:=fnOf 1 1 b_is_shut
theorem has_is_shut (T:Txt P w K mg base):Has P w K mg base "is_shut" ["slate"] 2 (spF K mg m_is_shut):=by
 show Has P w K mg base _ _ _ (spF K mg (fnOf 1 1 b_is_shut))
 refine has_of (k:=1) T.d_is_shut sc_is_shut rfl rfl fun f cdv A outer s H E hr=>?_
 have hu:=hr.units
 refine @WSs.un _ _ _ _ ?_
 refine @wss_one _ _ _ _ ?_
 ·exact (ws_ret (we_cmp op_notN bNotN (we_call (has_shut_of T) (hr.mono (by omega)) rfl (wa_cons (we_var 0) wa_nil)) we_non (nomark _)))
def l_cell_of_0:MS:=
  (cIfS (cT (c2 oEq (c2 oIx (cVar 2) (cK (.int 0))) (cVar 1))) (cRet (c2 oIx (cVar 2) (cK (.int 1)))) cPass)
def b_cell_of_1:MS:=
  (cRet (cK (.int 0)))
def b_cell_of:MS:=
  cSeq (cFor 2 (iT (c2 oIx (cVar 0) (cK (.int 0)))) l_cell_of_0) b_cell_of_1
def m_cell_of:MF:=fnOf 2 3 b_cell_of
theorem has_cell_of (T:Txt P w K mg base):Has P w K mg base "cell_of" ["slate","name"] 1 (spF K mg m_cell_of):=by
 show Has P w K mg base _ _ _ (spF K mg (fnOf 2 3 b_cell_of))
 refine has_of (k:=0) T.d_cell_of sc_cell_of rfl rfl fun f cdv A outer s H E hr=>?_
 have hu:=hr.units
 refine @WSs.un _ _ _ _ ?_
 refine @wss_cons _ _ _ _ _ _ ?_ (@wss_one _ _ _ _ ?_)
 ·exact (ws_for (i:=2) PassesOwn.never rfl (wf_tup (we_ix ix_seq bIx (we_var 0) we_int (fun _ _=>rfl))) sc_cell_of.nd rfl (Or.inl rfl) (wss_one (ws_if (wt_cmp (op_eqD hu) bEq (we_ix ix_seq bIx (we_var 2) we_int (fun _ _=>rfl)) (we_var 1) (nomark _)) (wss_one (ws_ret (we_ix ix_seq bIx (we_var 2) we_int (fun _ _=>rfl)))) wss_nil)))
 ·exact (ws_ret we_int)
def b_with_cell_2:MS:=
  (cRet (cTup (cCons (cB fTuple (cCons (cSortK koStr (fnOf 1 1 (cRet (c2 oIx (cVar 0) (cK (.int 0))))) (cVar 3)) cNil)) (cCons (c2 oIx (cVar 0) (cK (.int 1))) (cCons (c2 oIx (cVar 0) (cK (.int 2))) (cCons (c2 oIx (cVar 0) (cK (.int 3))) cNil))))))
def b_with_cell_1:MS:=
  cSeq (cIfS (cT (c2 oNe (cVar 2) (cK (.int 0)))) (cMutS 3 uAppend (cCons (cTup (cCons (cVar 1) (cCons (cVar 2) cNil))) cNil)) cPass) b_with_cell_2
def b_with_cell:MS:=
  cSeq (cOwn 3 (cComp 1 [1] (iT (c2 oIx (cVar 0) (cK (.int 0)))) (cT (c2 oNe (c2 oIx (cVar 0) (cK (.int 0))) (cVar 1))) (cVar 0))) b_with_cell_1
def m_with_cell:MF:=fnOf 3 4 b_with_cell
theorem has_with_cell (T:Txt P w K mg base):Has P w K mg base "with_cell" ["slate","name","n"] 4 (spF K mg m_with_cell):=by
 show Has P w K mg base _ _ _ (spF K mg (fnOf 3 4 b_with_cell))
 obtain ⟨c,Pt,L,hc⟩:=T.l_with_cell
 refine has_ofL (k:=3) T.d_with_cell hc sc_with_cell rfl rfl fun f A outer s H E hr=>?_
 have hu:=hr.units
 refine @WSs.un _ _ _ _ ?_
 refine @wss_cons _ _ _ _ _ _ ?_ (@wss_cons _ _ _ _ _ _ ?_ (@wss_one _ _ _ _ ?_))
 ·exact (ws_asgO (i:=3) (esc:=(defScope s_with_cell)) (EN:=["slate","name","n","cells"]) (N:=["cell","name"]) (n:=1) (cap:=[1]) ⟨rfl,by decide +kernel,by decide +kernel,by decide +kernel,by decide +kernel,rfl,by decide +kernel⟩ sc_with_cell.nd rfl rfl (by decide) (wc_tup (we_ix ix_seq bIx (we_var 0) we_int (fun _ _=>rfl))) rfl (fun _ _ _ _=>⟨Or.inl rfl,rfl⟩) (fun _ _ _ _=>(wfs_one (wt_cmp (op_neD hu) bNe (we_ix ix_seq bIx (we_var 0) we_int (fun _ _=>rfl)) (we_var 1) (nomark _)))) (fun _ _ _ _=>(we_var 0)))
 ·exact (ws_if (wt_cmp (op_neD hu) bNe (we_var 2) we_int (nomark _)) (wss_one (ws_mut (i:=3) PySem.F.slot_list_append PySem.F.type_list_append mt_append mAppend (wa_cons (we_tup (wa_cons (we_var 1) (wa_cons (we_var 2) wa_nil))) wa_nil) rfl (Or.inl rfl))) wss_nil)
 ·exact (ws_ret (we_tup (wa_cons (we_callTy call_tuple_of kTuple rfl T.B.tuple' bt_tuple (wa_cons (we_sortL (k:=0) (N:=["cell"]) (p1:="cell") koStr_ok rfl T.B.sorted (hr.mono (by omega)) L T.bm rfl rfl ⟨rfl,rfl,rfl,by decide +kernel,rfl,by decide +kernel,by decide +kernel⟩ (fun _ _ _ _=>rfl) (fun _ _ _ _ _ _=>(we_ix ix_seq bIx (we_var 0) we_int (fun _ _=>rfl))) (we_var 3)) wa_nil)) (wa_cons (we_ix ix_seq bIx (we_var 0) we_int (fun _ _=>rfl)) (wa_cons (we_ix ix_seq bIx (we_var 0) we_int (fun _ _=>rfl)) (wa_cons (we_ix ix_seq bIx (we_var 0) we_int (fun _ _=>rfl)) wa_nil))))))
def l_doing_of_0:MS:=
  (cIfS (cT (c2 oEq (c2 oIx (cVar 2) (cK (.int 0))) (cVar 1))) (cRet (cVar 2)) cPass)
def b_doing_of_1:MS:=
  (cRet (cTup (cCons (cVar 1) (cCons (cK (.int 0)) (cCons (cK (.non)) cNil)))))
def b_doing_of:MS:=
  cSeq (cFor 2 (iT (c2 oIx (cVar 0) (cK (.int 1)))) l_doing_of_0) b_doing_of_1
def m_doing_of:MF:=fnOf 2 3 b_doing_of
theorem has_doing_of (T:Txt P w K mg base):Has P w K mg base "doing_of" ["slate","asker"] 1 (spF K mg m_doing_of):=by
 show Has P w K mg base _ _ _ (spF K mg (fnOf 2 3 b_doing_of))
 refine has_of (k:=0) T.d_doing_of sc_doing_of rfl rfl fun f cdv A outer s H E hr=>?_
 have hu:=hr.units
 refine @WSs.un _ _ _ _ ?_
 refine @wss_cons _ _ _ _ _ _ ?_ (@wss_one _ _ _ _ ?_)
 ·exact (ws_for (i:=2) PassesOwn.never rfl (wf_tup (we_ix ix_seq bIx (we_var 0) we_int (fun _ _=>rfl))) sc_doing_of.nd rfl (Or.inl rfl) (wss_one (ws_if (wt_cmp (op_eqD hu) bEq (we_ix ix_seq bIx (we_var 2) we_int (fun _ _=>rfl)) (we_var 1) (nomark _)) (wss_one (ws_ret (we_var 2))) wss_nil)))
 ·exact (ws_ret (we_tup (wa_cons (we_var 1) (wa_cons we_int (wa_cons we_non wa_nil)))))
def b_with_doing_2:MS:=
  (cRet (cTup (cCons (c2 oIx (cVar 0) (cK (.int 0))) (cCons (cB fTuple (cCons (cSortK koInt (fnOf 1 1 (cRet (c2 oIx (cVar 0) (cK (.int 0))))) (cVar 4)) cNil)) (cCons (c2 oIx (cVar 0) (cK (.int 2))) (cCons (c2 oIx (cVar 0) (cK (.int 3))) cNil))))))
def b_with_doing_1:MS:=
  cSeq (cMutS 4 uAppend (cCons (cTup (cCons (cVar 1) (cCons (cVar 2) (cCons (cVar 3) cNil)))) cNil)) b_with_doing_2
def b_with_doing:MS:=
  cSeq (cOwn 4 (cComp 1 [1] (iT (c2 oIx (cVar 0) (cK (.int 1)))) (cT (c2 oNe (c2 oIx (cVar 0) (cK (.int 0))) (cVar 1))) (cVar 0))) b_with_doing_1
def m_with_doing:MF:=fnOf 4 5 b_with_doing
theorem has_with_doing (T:Txt P w K mg base):Has P w K mg base "with_doing" ["slate","asker","number","answer"] 4 (spF K mg m_with_doing):=by
 show Has P w K mg base _ _ _ (spF K mg (fnOf 4 5 b_with_doing))
 obtain ⟨c,Pt,L,hc⟩:=T.l_with_doing
 refine has_ofL (k:=3) T.d_with_doing hc sc_with_doing rfl rfl fun f A outer s H E hr=>?_
 have hu:=hr.units
 refine @WSs.un _ _ _ _ ?_
 refine @wss_cons _ _ _ _ _ _ ?_ (@wss_cons _ _ _ _ _ _ ?_ (@wss_one _ _ _ _ ?_))
 ·exact (ws_asgO (i:=4) (esc:=(defScope s_with_doing)) (EN:=["slate","asker","number","answer","doings"]) (N:=["doing","asker"]) (n:=1) (cap:=[1]) ⟨rfl,by decide +kernel,by decide +kernel,by decide +kernel,by decide +kernel,rfl,by decide +kernel⟩ sc_with_doing.nd rfl rfl (by decide) (wc_tup (we_ix ix_seq bIx (we_var 0) we_int (fun _ _=>rfl))) rfl (fun _ _ _ _=>⟨Or.inl rfl,rfl⟩) (fun _ _ _ _=>(wfs_one (wt_cmp (op_neD hu) bNe (we_ix ix_seq bIx (we_var 0) we_int (fun _ _=>rfl)) (we_var 1) (nomark _)))) (fun _ _ _ _=>(we_var 0)))
 ·exact (ws_mut (i:=4) PySem.F.slot_list_append PySem.F.type_list_append mt_append mAppend (wa_cons (we_tup (wa_cons (we_var 1) (wa_cons (we_var 2) (wa_cons (we_var 3) wa_nil)))) wa_nil) rfl (Or.inl rfl))
 ·exact (ws_ret (we_tup (wa_cons (we_ix ix_seq bIx (we_var 0) we_int (fun _ _=>rfl)) (wa_cons (we_callTy call_tuple_of kTuple rfl T.B.tuple' bt_tuple (wa_cons (we_sortL (k:=0) (N:=["doing"]) (p1:="doing") koInt_ok rfl T.B.sorted (hr.mono (by omega)) L T.bm rfl rfl ⟨rfl,rfl,rfl,by decide +kernel,rfl,by decide +kernel,by decide +kernel⟩ (fun _ _ _ _=>rfl) (fun _ _ _ _ _ _=>(we_ix ix_seq bIx (we_var 0) we_int (fun _ _=>rfl))) (we_var 4)) wa_nil)) (wa_cons (we_ix ix_seq bIx (we_var 0) we_int (fun _ _=>rfl)) (wa_cons (we_ix ix_seq bIx (we_var 0) we_int (fun _ _=>rfl)) wa_nil))))))
def b_with_lease:MS:=
  (cRet (cTup (cCons (c2 oIx (cVar 0) (cK (.int 0))) (cCons (c2 oIx (cVar 0) (cK (.int 1))) (cCons (cTup (cCons (cVar 1) (cCons (cVar 2) cNil))) (cCons (c2 oIx (cVar 0) (cK (.int 3))) cNil))))))
def m_with_lease:MF:=fnOf 3 3 b_with_lease
theorem has_with_lease (T:Txt P w K mg base):Has P w K mg base "with_lease" ["slate","fence","tenant"] 1 (spF K mg m_with_lease):=by
 show Has P w K mg base _ _ _ (spF K mg (fnOf 3 3 b_with_lease))
 refine has_of (k:=0) T.d_with_lease sc_with_lease rfl rfl fun f cdv A outer s H E hr=>?_
 have hu:=hr.units
 refine @WSs.un _ _ _ _ ?_
 refine @wss_one _ _ _ _ ?_
 ·exact (ws_ret (we_tup (wa_cons (we_ix ix_seq bIx (we_var 0) we_int (fun _ _=>rfl)) (wa_cons (we_ix ix_seq bIx (we_var 0) we_int (fun _ _=>rfl)) (wa_cons (we_tup (wa_cons (we_var 1) (wa_cons (we_var 2) wa_nil))) (wa_cons (we_ix ix_seq bIx (we_var 0) we_int (fun _ _=>rfl)) wa_nil))))))
def b_with_shut:MS:=
  (cRet (cTup (cCons (c2 oIx (cVar 0) (cK (.int 0))) (cCons (c2 oIx (cVar 0) (cK (.int 1))) (cCons (c2 oIx (cVar 0) (cK (.int 2))) (cCons (cVar 1) cNil))))))
def m_with_shut:MF:=fnOf 2 2 b_with_shut
theorem has_with_shut (T:Txt P w K mg base):Has P w K mg base "with_shut" ["slate","shut"] 1 (spF K mg m_with_shut):=by
 show Has P w K mg base _ _ _ (spF K mg (fnOf 2 2 b_with_shut))
 refine has_of (k:=0) T.d_with_shut sc_with_shut rfl rfl fun f cdv A outer s H E hr=>?_
 have hu:=hr.units
 refine @WSs.un _ _ _ _ ?_
 refine @wss_one _ _ _ _ ?_
 ·exact (ws_ret (we_tup (wa_cons (we_ix ix_seq bIx (we_var 0) we_int (fun _ _=>rfl)) (wa_cons (we_ix ix_seq bIx (we_var 0) we_int (fun _ _=>rfl)) (wa_cons (we_ix ix_seq bIx (we_var 0) we_int (fun _ _=>rfl)) (wa_cons (we_var 1) wa_nil))))))
def b_do_put:MS:=
  (cRet (cTup (cCons (cCall m_with_cell (cCons (cVar 0) (cCons (c2 oIx (cVar 2) (cK (.int 1))) (cCons (c2 oIx (cVar 2) (cK (.int 2))) cNil)))) (cCons (cCall m_cell_of (cCons (cVar 0) (cCons (c2 oIx (cVar 2) (cK (.int 1))) cNil))) cNil))))
def m_do_put:MF:=fnOf 3 3 b_do_put
theorem has_do_put (T:Txt P w K mg base):Has P w K mg base "do_put" ["slate","asker","deed"] 5 (spF K mg m_do_put):=by
 show Has P w K mg base _ _ _ (spF K mg (fnOf 3 3 b_do_put))
 refine has_of (k:=4) T.d_do_put sc_do_put rfl rfl fun f cdv A outer s H E hr=>?_
 have hu:=hr.units
 refine @WSs.un _ _ _ _ ?_
 refine @wss_one _ _ _ _ ?_
 ·exact (ws_ret (we_tup (wa_cons (we_call (has_with_cell T) (hr.mono (by omega)) rfl (wa_cons (we_var 0) (wa_cons (we_ix ix_seq bIx (we_var 2) we_int (fun _ _=>rfl)) (wa_cons (we_ix ix_seq bIx (we_var 2) we_int (fun _ _=>rfl)) wa_nil)))) (wa_cons (we_call (has_cell_of T) (hr.mono (by omega)) rfl (wa_cons (we_var 0) (wa_cons (we_ix ix_seq bIx (we_var 2) we_int (fun _ _=>rfl)) wa_nil))) wa_nil))))
def b_do_add_1:MS:=
  (cRet (cTup (cCons (cCall m_with_cell (cCons (cVar 0) (cCons (c2 oIx (cVar 2) (cK (.int 1))) (cCons (cVar 3) cNil)))) (cCons (cVar 3) cNil))))
def b_do_add:MS:=
  cSeq (cSet 3 (c2 oAdd (cCall m_cell_of (cCons (cVar 0) (cCons (c2 oIx (cVar 2) (cK (.int 1))) cNil))) (c2 oIx (cVar 2) (cK (.int 2))))) b_do_add_1
def m_do_add:MF:=fnOf 3 4 b_do_add
theorem has_do_add (T:Txt P w K mg base):Has P w K mg base "do_add" ["slate","asker","deed"] 5 (spF K mg m_do_add):=by
 show Has P w K mg base _ _ _ (spF K mg (fnOf 3 4 b_do_add))
 refine has_of (k:=4) T.d_do_add sc_do_add rfl rfl fun f cdv A outer s H E hr=>?_
 have hu:=hr.units
 refine @WSs.un _ _ _ _ ?_
 refine @wss_cons _ _ _ _ _ _ ?_ (@wss_one _ _ _ _ ?_)
 ·exact (ws_set (i:=3) sc_do_add.nd rfl (Or.inl rfl) (we_op op_add bAdd (we_call (has_cell_of T) (hr.mono (by omega)) rfl (wa_cons (we_var 0) (wa_cons (we_ix ix_seq bIx (we_var 2) we_int (fun _ _=>rfl)) wa_nil))) (we_ix ix_seq bIx (we_var 2) we_int (fun _ _=>rfl))))
 ·exact (ws_ret (we_tup (wa_cons (we_call (has_with_cell T) (hr.mono (by omega)) rfl (wa_cons (we_var 0) (wa_cons (we_ix ix_seq bIx (we_var 2) we_int (fun _ _=>rfl)) (wa_cons (we_var 3) wa_nil)))) (wa_cons (we_var 3) wa_nil))))
def b_do_swap_1:MS:=
  (cRet (cTup (cCons (cCall m_with_cell (cCons (cVar 0) (cCons (c2 oIx (cVar 2) (cK (.int 1))) (cCons (c2 oIx (cVar 2) (cK (.int 3))) cNil)))) (cCons (cK (.int 1)) cNil))))
def b_do_swap:MS:=
  cSeq (cIfS (cT (c2 oNe (cCall m_cell_of (cCons (cVar 0) (cCons (c2 oIx (cVar 2) (cK (.int 1))) cNil))) (c2 oIx (cVar 2) (cK (.int 2))))) (cRet (cTup (cCons (cVar 0) (cCons (cK (.int 0)) cNil)))) cPass) b_do_swap_1
def m_do_swap:MF:=fnOf 3 3 b_do_swap
theorem has_do_swap (T:Txt P w K mg base):Has P w K mg base "do_swap" ["slate","asker","deed"] 5 (spF K mg m_do_swap):=by
 show Has P w K mg base _ _ _ (spF K mg (fnOf 3 3 b_do_swap))
 refine has_of (k:=4) T.d_do_swap sc_do_swap rfl rfl fun f cdv A outer s H E hr=>?_
 have hu:=hr.units
 refine @WSs.un _ _ _ _ ?_
 refine @wss_cons _ _ _ _ _ _ ?_ (@wss_one _ _ _ _ ?_)
 ·exact (ws_if (wt_cmp (op_neD hu) bNe (we_call (has_cell_of T) (hr.mono (by omega)) rfl (wa_cons (we_var 0) (wa_cons (we_ix ix_seq bIx (we_var 2) we_int (fun _ _=>rfl)) wa_nil))) (we_ix ix_seq bIx (we_var 2) we_int (fun _ _=>rfl)) (nomark _)) (wss_one (ws_ret (we_tup (wa_cons (we_var 0) (wa_cons we_int wa_nil))))) wss_nil)
 ·exact (ws_ret (we_tup (wa_cons (we_call (has_with_cell T) (hr.mono (by omega)) rfl (wa_cons (we_var 0) (wa_cons (we_ix ix_seq bIx (we_var 2) we_int (fun _ _=>rfl)) (wa_cons (we_ix ix_seq bIx (we_var 2) we_int (fun _ _=>rfl)) wa_nil)))) (wa_cons we_int wa_nil))))
def b_lent:MS:=
  (cRet (cTup (cCons (cCall m_with_lease (cCons (cVar 0) (cCons (c2 oAdd (cVar 1) (cK (.int 1))) (cCons (cVar 2) cNil)))) (cCons (cTup (cCons (cK (.int 1)) (cCons (c2 oAdd (cVar 1) (cK (.int 1))) (cCons (cVar 2) cNil)))) cNil))))
def m_lent:MF:=fnOf 3 3 b_lent
theorem has_lent (T:Txt P w K mg base):Has P w K mg base "lent" ["slate","fence","tenant"] 2 (spF K mg m_lent):=by
 show Has P w K mg base _ _ _ (spF K mg (fnOf 3 3 b_lent))
 refine has_of (k:=1) T.d_lent sc_lent rfl rfl fun f cdv A outer s H E hr=>?_
 have hu:=hr.units
 refine @WSs.un _ _ _ _ ?_
 refine @wss_one _ _ _ _ ?_
 ·exact (ws_ret (we_tup (wa_cons (we_call (has_with_lease T) (hr.mono (by omega)) rfl (wa_cons (we_var 0) (wa_cons (we_op op_add bAdd (we_var 1) we_int) (wa_cons (we_var 2) wa_nil)))) (wa_cons (we_tup (wa_cons we_int (wa_cons (we_op op_add bAdd (we_var 1) we_int) (wa_cons (we_var 2) wa_nil)))) wa_nil))))
def b_not_lent_1:MS:=
  (cRet (cTup (cCons (cVar 0) (cCons (cTup (cCons (cK (.int 0)) (cCons (c2 oIx (cVar 1) (cK (.int 0))) (cCons (c2 oIx (cVar 1) (cK (.int 1))) cNil)))) cNil))))
def b_not_lent:MS:=
  cSeq (cSet 1 (cCall m_lease_of (cCons (cVar 0) cNil))) b_not_lent_1
def m_not_lent:MF:=fnOf 1 2 b_not_lent
theorem has_not_lent (T:Txt P w K mg base):Has P w K mg base "not_lent" ["slate"] 2 (spF K mg m_not_lent):=by
 show Has P w K mg base _ _ _ (spF K mg (fnOf 1 2 b_not_lent))
 refine has_of (k:=1) T.d_not_lent sc_not_lent rfl rfl fun f cdv A outer s H E hr=>?_
 have hu:=hr.units
 refine @WSs.un _ _ _ _ ?_
 refine @wss_cons _ _ _ _ _ _ ?_ (@wss_one _ _ _ _ ?_)
 ·exact (ws_set (i:=1) sc_not_lent.nd rfl (Or.inl rfl) (we_call (has_lease_of T) (hr.mono (by omega)) rfl (wa_cons (we_var 0) wa_nil)))
 ·exact (ws_ret (we_tup (wa_cons (we_var 0) (wa_cons (we_tup (wa_cons we_int (wa_cons (we_ix ix_seq bIx (we_var 1) we_int (fun _ _=>rfl)) (wa_cons (we_ix ix_seq bIx (we_var 1) we_int (fun _ _=>rfl)) wa_nil)))) wa_nil))))
def b_do_take_1:MS:=
  (cRet (cCall m_lent (cCons (cVar 0) (cCons (c2 oIx (cVar 2) (cK (.int 1))) (cCons (cVar 1) cNil)))))
def b_do_take:MS:=
  cSeq (cIfS (cT (c2 oNe (c2 oIx (cCall m_lease_of (cCons (cVar 0) cNil)) (cK (.int 0))) (c2 oIx (cVar 2) (cK (.int 1))))) (cRet (cCall m_not_lent (cCons (cVar 0) cNil))) cPass) b_do_take_1
def m_do_take:MF:=fnOf 3 3 b_do_take
theorem has_do_take (T:Txt P w K mg base):Has P w K mg base "do_take" ["slate","asker","deed"] 3 (spF K mg m_do_take):=by
 show Has P w K mg base _ _ _ (spF K mg (fnOf 3 3 b_do_take))
 refine has_of (k:=2) T.d_do_take sc_do_take rfl rfl fun f cdv A outer s H E hr=>?_
 have hu:=hr.units
 refine @WSs.un _ _ _ _ ?_
 refine @wss_cons _ _ _ _ _ _ ?_ (@wss_one _ _ _ _ ?_)
 ·exact (ws_if (wt_cmp (op_neD hu) bNe (we_ix ix_seq bIx (we_call (has_lease_of T) (hr.mono (by omega)) rfl (wa_cons (we_var 0) wa_nil)) we_int (fun _ _=>rfl)) (we_ix ix_seq bIx (we_var 2) we_int (fun _ _=>rfl)) (nomark _)) (wss_one (ws_ret (we_call (has_not_lent T) (hr.mono (by omega)) rfl (wa_cons (we_var 0) wa_nil)))) wss_nil)
 ·exact (ws_ret (we_call (has_lent T) (hr.mono (by omega)) rfl (wa_cons (we_var 0) (wa_cons (we_ix ix_seq bIx (we_var 2) we_int (fun _ _=>rfl)) (wa_cons (we_var 1) wa_nil)))))
def b_do_renew_1:MS:=
  (cRet (cCall m_lent (cCons (cVar 0) (cCons (c2 oIx (cVar 2) (cK (.int 1))) (cCons (cVar 1) cNil)))))
def b_do_renew:MS:=
  cSeq (cIfS (cT (c2 oNe (cCall m_lease_of (cCons (cVar 0) cNil)) (cTup (cCons (c2 oIx (cVar 2) (cK (.int 1))) (cCons (cVar 1) cNil))))) (cRet (cCall m_not_lent (cCons (cVar 0) cNil))) cPass) b_do_renew_1
def m_do_renew:MF:=fnOf 3 3 b_do_renew
theorem has_do_renew (T:Txt P w K mg base):Has P w K mg base "do_renew" ["slate","asker","deed"] 3 (spF K mg m_do_renew):=by
 show Has P w K mg base _ _ _ (spF K mg (fnOf 3 3 b_do_renew))
 refine has_of (k:=2) T.d_do_renew sc_do_renew rfl rfl fun f cdv A outer s H E hr=>?_
 have hu:=hr.units
 refine @WSs.un _ _ _ _ ?_
 refine @wss_cons _ _ _ _ _ _ ?_ (@wss_one _ _ _ _ ?_)
 ·exact (ws_if (wt_cmp (op_neD hu) bNe (we_call (has_lease_of T) (hr.mono (by omega)) rfl (wa_cons (we_var 0) wa_nil)) (we_tup (wa_cons (we_ix ix_seq bIx (we_var 2) we_int (fun _ _=>rfl)) (wa_cons (we_var 1) wa_nil))) (nomark _)) (wss_one (ws_ret (we_call (has_not_lent T) (hr.mono (by omega)) rfl (wa_cons (we_var 0) wa_nil)))) wss_nil)
 ·exact (ws_ret (we_call (has_lent T) (hr.mono (by omega)) rfl (wa_cons (we_var 0) (wa_cons (we_ix ix_seq bIx (we_var 2) we_int (fun _ _=>rfl)) (wa_cons (we_var 1) wa_nil)))))
def b_do_free_1:MS:=
  (cRet (cCall m_lent (cCons (cVar 0) (cCons (c2 oIx (cVar 2) (cK (.int 1))) (cCons (cK (.non)) cNil)))))
def b_do_free:MS:=
  cSeq (cIfS (cT (c2 oNe (cCall m_lease_of (cCons (cVar 0) cNil)) (cTup (cCons (c2 oIx (cVar 2) (cK (.int 1))) (cCons (cVar 1) cNil))))) (cRet (cCall m_not_lent (cCons (cVar 0) cNil))) cPass) b_do_free_1
def m_do_free:MF:=fnOf 3 3 b_do_free
theorem has_do_free (T:Txt P w K mg base):Has P w K mg base "do_free" ["slate","asker","deed"] 3 (spF K mg m_do_free):=by
 show Has P w K mg base _ _ _ (spF K mg (fnOf 3 3 b_do_free))
 refine has_of (k:=2) T.d_do_free sc_do_free rfl rfl fun f cdv A outer s H E hr=>?_
 have hu:=hr.units
 refine @WSs.un _ _ _ _ ?_
 refine @wss_cons _ _ _ _ _ _ ?_ (@wss_one _ _ _ _ ?_)
 ·exact (ws_if (wt_cmp (op_neD hu) bNe (we_call (has_lease_of T) (hr.mono (by omega)) rfl (wa_cons (we_var 0) wa_nil)) (we_tup (wa_cons (we_ix ix_seq bIx (we_var 2) we_int (fun _ _=>rfl)) (wa_cons (we_var 1) wa_nil))) (nomark _)) (wss_one (ws_ret (we_call (has_not_lent T) (hr.mono (by omega)) rfl (wa_cons (we_var 0) wa_nil)))) wss_nil)
 ·exact (ws_ret (we_call (has_lent T) (hr.mono (by omega)) rfl (wa_cons (we_var 0) (wa_cons (we_ix ix_seq bIx (we_var 2) we_int (fun _ _=>rfl)) (wa_cons we_non wa_nil)))))
def b_do_sure_1:MS:=
  (cRet (cTup (cCons (cCall m_with_cell (cCons (cVar 0) (cCons (c2 oIx (cVar 2) (cK (.int 2))) (cCons (c2 oIx (cVar 2) (cK (.int 3))) cNil)))) (cCons (cK (.int 1)) cNil))))
def b_do_sure:MS:=
  cSeq (cIfS (cT (c2 oNe (cCall m_lease_of (cCons (cVar 0) cNil)) (cTup (cCons (c2 oIx (cVar 2) (cK (.int 1))) (cCons (cVar 1) cNil))))) (cRet (cTup (cCons (cVar 0) (cCons (cK (.int 0)) cNil)))) cPass) b_do_sure_1
def m_do_sure:MF:=fnOf 3 3 b_do_sure
theorem has_do_sure (T:Txt P w K mg base):Has P w K mg base "do_sure" ["slate","asker","deed"] 5 (spF K mg m_do_sure):=by
 show Has P w K mg base _ _ _ (spF K mg (fnOf 3 3 b_do_sure))
 refine has_of (k:=4) T.d_do_sure sc_do_sure rfl rfl fun f cdv A outer s H E hr=>?_
 have hu:=hr.units
 refine @WSs.un _ _ _ _ ?_
 refine @wss_cons _ _ _ _ _ _ ?_ (@wss_one _ _ _ _ ?_)
 ·exact (ws_if (wt_cmp (op_neD hu) bNe (we_call (has_lease_of T) (hr.mono (by omega)) rfl (wa_cons (we_var 0) wa_nil)) (we_tup (wa_cons (we_ix ix_seq bIx (we_var 2) we_int (fun _ _=>rfl)) (wa_cons (we_var 1) wa_nil))) (nomark _)) (wss_one (ws_ret (we_tup (wa_cons (we_var 0) (wa_cons we_int wa_nil))))) wss_nil)
 ·exact (ws_ret (we_tup (wa_cons (we_call (has_with_cell T) (hr.mono (by omega)) rfl (wa_cons (we_var 0) (wa_cons (we_ix ix_seq bIx (we_var 2) we_int (fun _ _=>rfl)) (wa_cons (we_ix ix_seq bIx (we_var 2) we_int (fun _ _=>rfl)) wa_nil)))) (wa_cons we_int wa_nil))))
def b_do_move:MS:=
  (cRet (cTup (cCons (cCall m_with_shut (cCons (cVar 0) (cCons (c2 oIx (cVar 2) (cK (.int 1))) cNil))) (cCons (cK (.int 1)) cNil))))
def m_do_move:MF:=fnOf 3 3 b_do_move
theorem has_do_move (T:Txt P w K mg base):Has P w K mg base "do_move" ["slate","asker","deed"] 2 (spF K mg m_do_move):=by
 show Has P w K mg base _ _ _ (spF K mg (fnOf 3 3 b_do_move))
 refine has_of (k:=1) T.d_do_move sc_do_move rfl rfl fun f cdv A outer s H E hr=>?_
 have hu:=hr.units
 refine @WSs.un _ _ _ _ ?_
 refine @wss_one _ _ _ _ ?_
 ·exact (ws_ret (we_tup (wa_cons (we_call (has_with_shut T) (hr.mono (by omega)) rfl (wa_cons (we_var 0) (wa_cons (we_ix ix_seq bIx (we_var 2) we_int (fun _ _=>rfl)) wa_nil))) (wa_cons we_int wa_nil))))
def b_do_end:MS:=
  (cRet (cTup (cCons (cCall m_with_shut (cCons (cVar 0) (cCons (cK (.str "over")) cNil))) (cCons (cK (.int 1)) cNil))))
def m_do_end:MF:=fnOf 3 3 b_do_end
theorem has_do_end (T:Txt P w K mg base):Has P w K mg base "do_end" ["slate","asker","deed"] 2 (spF K mg m_do_end):=by
 show Has P w K mg base _ _ _ (spF K mg (fnOf 3 3 b_do_end))
 refine has_of (k:=1) T.d_do_end sc_do_end rfl rfl fun f cdv A outer s H E hr=>?_
 have hu:=hr.units
 refine @WSs.un _ _ _ _ ?_
 refine @wss_one _ _ _ _ ?_
 ·exact (ws_ret (we_tup (wa_cons (we_call (has_with_shut T) (hr.mono (by omega)) rfl (wa_cons (we_var 0) (wa_cons we_str wa_nil))) (wa_cons we_int wa_nil))))
abbrev fns_DOERS:List (Str×MF):=[("do_put",m_do_put),("do_add",m_do_add),("do_swap",m_do_swap),("do_take",m_do_take),("do_renew",m_do_renew),("do_free",m_do_free),("do_sure",m_do_sure),("do_move",m_do_move),("do_end",m_do_end)]
def b_outcome_of_1:MS:=
  (cRet (cCallV 3 fns_DOERS (cCons (cVar 0) (cCons (cVar 1) (cCons (cVar 2) cNil)))))
def b_outcome_of:MS:=
  cSeq (cSet 3 (cTab tab_DOERS (c2 oIx (cVar 2) (cK (.int 0))))) b_outcome_of_1
def m_outcome_of:MF:=fnOf 3 4 b_outcome_of
theorem has_outcome_of (T:Txt P w K mg base):Has P w K mg base "outcome_of" ["slate","asker","deed"] 6 (spF K mg m_outcome_of):=by
 show Has P w K mg base _ _ _ (spF K mg (fnOf 3 4 b_outcome_of))
 refine has_of (k:=5) T.d_outcome_of sc_outcome_of rfl rfl fun f cdv A outer s H E hr=>?_
 have hu:=hr.units
 refine @WSs.un _ _ _ _ ?_
 refine @wss_cons _ _ _ _ _ _ ?_ (@wss_one _ _ _ _ ?_)
 ·exact (ws_set (i:=3) sc_outcome_of.nd rfl (Or.inl rfl) (we_tab T.t_DOERS rfl (we_ix ix_seq bIx (we_var 2) we_int (fun _ _=>rfl))))
 ·exact (ws_ret (we_callV (k:=5) (pp:=["slate","asker","deed"]) (lookup_all (by simp only [List.forall_mem_cons];exact ⟨(has_do_put T).mono (by omega),(has_do_add T).mono (by omega),(has_do_swap T).mono (by omega),(has_do_take T).mono (by omega),(has_do_renew T).mono (by omega),(has_do_free T).mono (by omega),(has_do_sure T).mono (by omega),(has_do_move T).mono (by omega),(has_do_end T).mono (by omega),fun _ h=>nomatch h⟩)) rfl (Or.inl rfl) (hr.mono (by omega)) (wa_cons (we_var 0) (wa_cons (we_var 1) (wa_cons (we_var 2) wa_nil)))))
def b_done_on_2:MS:=
  (cRet (cCall m_with_doing (cCons (c2 oIx (cVar 4) (cK (.int 0))) (cCons (cVar 1) (cCons (cVar 2) (cCons (c2 oIx (cVar 4) (cK (.int 1))) cNil))))))
def b_done_on_1:MS:=
  cSeq (cSet 4 (cCall m_outcome_of (cCons (cVar 0) (cCons (cVar 1) (cCons (cVar 3) cNil))))) b_done_on_2
def b_done_on:MS:=
  cSeq (cIfS (tOrM (cT (c2 oIsN (cVar 3) (cK (.non)))) (tOrM (cT (cCall m_is_shut (cCons (cVar 0) cNil))) (cT (c2 oGe (c2 oIx (cCall m_doing_of (cCons (cVar 0) (cCons (cVar 1) cNil))) (cK (.int 1))) (cVar 2))))) (cRet (cVar 0)) cPass) b_done_on_1
def m_done_on:MF:=fnOf 4 5 b_done_on
theorem has_done_on (T:Txt P w K mg base):Has P w K mg base "done_on" ["slate","asker","number","deed"] 7 (spF K mg m_done_on):=by
 show Has P w K mg base _ _ _ (spF K mg (fnOf 4 5 b_done_on))
 refine has_of (k:=6) T.d_done_on sc_done_on rfl rfl fun f cdv A outer s H E hr=>?_
 have hu:=hr.units
 refine @WSs.un _ _ _ _ ?_
 refine @wss_cons _ _ _ _ _ _ ?_ (@wss_cons _ _ _ _ _ _ ?_ (@wss_one _ _ _ _ ?_))
 ·exact (ws_if (WW.ct (ww_or (wt_cmp op_isN bIsN (we_var 3) we_non (nomark _)) (ww_or (wt_val (we_call (has_is_shut T) (hr.mono (by omega)) rfl (wa_cons (we_var 0) wa_nil))) (ww_or1 (wt_cmp op_ge bGe (we_ix ix_seq bIx (we_call (has_doing_of T) (hr.mono (by omega)) rfl (wa_cons (we_var 0) (wa_cons (we_var 1) wa_nil))) we_int (fun _ _=>rfl)) (we_var 2) (nomark _)))))) (wss_one (ws_ret (we_var 0))) wss_nil)
 ·exact (ws_set (i:=4) sc_done_on.nd rfl (Or.inl rfl) (we_call (has_outcome_of T) (hr.mono (by omega)) rfl (wa_cons (we_var 0) (wa_cons (we_var 1) (wa_cons (we_var 3) wa_nil)))))
 ·exact (ws_ret (we_call (has_with_doing T) (hr.mono (by omega)) rfl (wa_cons (we_ix ix_seq bIx (we_var 4) we_int (fun _ _=>rfl)) (wa_cons (we_var 1) (wa_cons (we_var 2) (wa_cons (we_ix ix_seq bIx (we_var 4) we_int (fun _ _=>rfl)) wa_nil))))))
def l_along_0:MS:=
  (cSeq (cSet 0 (cCall m_done_on (cCons (cVar 0) (cCons (c2 oIx (cVar 3) (cK (.int 0))) (cCons (c2 oIx (cVar 3) (cK (.int 1))) (cCons (c2 oIx (cVar 3) (cK (.int 2))) cNil))))))
  (cMutS 2 uAppend (cCons (cVar 0) cNil)))
def b_along_2:MS:=
  (cRetO 2)
def b_along_1:MS:=
  cSeq (cFor 3 (iL (cVar 1)) l_along_0) b_along_2
def b_along:MS:=
  cSeq (cOwn 2 (cLst cNil)) b_along_1
def m_along:MF:=fnOf 2 4 b_along
theorem has_along (T:Txt P w K mg base):Has P w K mg base "along" ["slate","rows"] 8 (spF K mg m_along):=by
 show Has P w K mg base _ _ _ (spF K mg (fnOf 2 4 b_along))
 refine has_of (k:=7) T.d_along sc_along rfl rfl fun f cdv A outer s H E hr=>?_
 have hu:=hr.units
 refine @WSs.un _ _ _ _ ?_
 refine @wss_cons _ _ _ _ _ _ ?_ (@wss_cons _ _ _ _ _ _ ?_ (@wss_one _ _ _ _ ?_))
 ·exact (ws_own (i:=2) sc_along.nd rfl (Or.inl rfl) (we_lst wa_nil))
 ·exact (ws_for (i:=3) PassesOwn.never rfl (wf_list (we_var 1)) sc_along.nd rfl (Or.inl rfl) (wss_cons (ws_set (i:=0) sc_along.nd rfl (Or.inl rfl) (we_call (has_done_on T) (hr.mono (by omega)) rfl (wa_cons (we_var 0) (wa_cons (we_ix ix_seq bIx (we_var 3) we_int (fun _ _=>rfl)) (wa_cons (we_ix ix_seq bIx (we_var 3) we_int (fun _ _=>rfl)) (wa_cons (we_ix ix_seq bIx (we_var 3) we_int (fun _ _=>rfl)) wa_nil))))))
  (wss_one (ws_mut (i:=2) PySem.F.slot_list_append PySem.F.type_list_append mt_append mAppend (wa_cons (we_var 0) wa_nil) rfl (Or.inl rfl)))))
 ·exact (ws_retO 2)
def b_law_cell_at_1:MS:=
  (cRet (cK (.int 0)))
def b_law_cell_at:MS:=
  cSeq (cIfS (cT (c2 oLt (cVar 1) (cB fLen (cCons (cVar 0) cNil)))) (cRet (c2 oIx (cVar 0) (cVar 1))) cPass) b_law_cell_at_1
def m_law_cell_at:MF:=fnOf 2 2 b_law_cell_at
theorem has_law_cell_at (T:Txt P w K mg base):Has P w K mg base "_law_cell_at" ["script","k"] 1 (spF K mg m_law_cell_at):=by
 show Has P w K mg base _ _ _ (spF K mg (fnOf 2 2 b_law_cell_at))
 refine has_of (k:=0) T.d_law_cell_at sc_law_cell_at rfl rfl fun f cdv A outer s H E hr=>?_
 have hu:=hr.units
 refine @WSs.un _ _ _ _ ?_
 refine @wss_cons _ _ _ _ _ _ ?_ (@wss_one _ _ _ _ ?_)
 ·exact (ws_if (wt_cmp op_lt bLt (we_var 1) (we_callB call_len_seq kLen rfl T.B.len bt_len (wa_cons (we_var 0) wa_nil)) (nomark _)) (wss_one (ws_ret (we_ix ix_seq bIx (we_var 0) (we_var 1) (fun _ _=>rfl)))) wss_nil)
 ·exact (ws_ret we_int)
def b_law_whole:MS:=
  (cRet (cAnd (cB fIsi (cCons (cVar 0) (cCons (cK (.ty "int")) cNil))) (cNot (cB fIsi (cCons (cVar 0) (cCons (cK (.ty "bool")) cNil))))))
def m_law_whole:MF:=fnOf 1 1 b_law_whole
theorem has_law_whole (T:Txt P w K mg base):Has P w K mg base "_law_whole" ["found"] 1 (spF K mg m_law_whole):=by
 show Has P w K mg base _ _ _ (spF K mg (fnOf 1 1 b_law_whole))
 refine has_of (k:=0) T.d_law_whole sc_law_whole rfl rfl fun f cdv A outer s H E hr=>?_
 have hu:=hr.units
 refine @WSs.un _ _ _ _ ?_
 refine @wss_one _ _ _ _ ?_
 ·exact (ws_ret (we_and (we_callB (call_isi T.kt) kIsi rfl T.B.isinstance bt_isinstance (wa_cons (we_var 0) (wa_cons (we_k (pe_bltn (v:=.ty "int") rfl T.B.int' bt_int rfl) fun _ _=>rfl) wa_nil))) (we_one (we_not (we_callB (call_isi T.kt) kIsi rfl T.B.isinstance bt_isinstance (wa_cons (we_var 0) (wa_cons (we_k (pe_bltn (v:=.ty "bool") rfl T.B.bool' bt_bool rfl) fun _ _=>rfl) wa_nil)))))))
def l_law_word_0:MS:=
  (cSeq (cSet 4 (c2 oCatS (cVar 4) (c2 oIx (cVar 1) (c2 oMod (cVar 2) (cK (.int 26))))))
  (cSet 2 (c2 oDivB (cVar 2) (cK (.int 26)))))
def b_law_word_6:MS:=
  (cRet (cVar 4))
def b_law_word_5:MS:=
  cSeq (cFor 5 (iR1 (cCons (cVar 3) cNil)) l_law_word_0) b_law_word_6
def b_law_word_4:MS:=
  cSeq (cSet 4 (cK (.str ""))) b_law_word_5
def b_law_word_3:MS:=
  cSeq (cSet 2 (c2 oDivB (cVar 2) (cK (.int 8)))) b_law_word_4
def b_law_word_2:MS:=
  cSeq (cSet 3 (c2 oAdd (cK (.int 1)) (c2 oMod (cVar 2) (cK (.int 8))))) b_law_word_3
def b_law_word_1:MS:=
  cSeq (cSet 2 (c2 oMod (c2 oMulB (cVar 0) (cK (.int 48271))) (c2 oPow (cK (.int 10)) (cK (.int 13))))) b_law_word_2
def b_law_word:MS:=
  cSeq (cSet 1 (cK (.str "abcdefghijklmnopqrstuvwxyz"))) b_law_word_1
def m_law_word:MF:=fnOf 1 6 b_law_word
theorem has_law_word (T:Txt P w K mg base):Has P w K mg base "_law_word" ["number"] 1 (spF K mg m_law_word):=by
 show Has P w K mg base _ _ _ (spF K mg (fnOf 1 6 b_law_word))
 refine has_of (k:=0) T.d_law_word sc_law_word rfl rfl fun f cdv A outer s H E hr=>?_
 have hu:=hr.units
 refine @WSs.un _ _ _ _ ?_
 refine @wss_cons _ _ _ _ _ _ ?_ (@wss_cons _ _ _ _ _ _ ?_ (@wss_cons _ _ _ _ _ _ ?_ (@wss_cons _ _ _ _ _ _ ?_ (@wss_cons _ _ _ _ _ _ ?_ (@wss_cons _ _ _ _ _ _ ?_ (@wss_one _ _ _ _ ?_))))))
 ·exact (ws_set (i:=1) sc_law_word.nd rfl (Or.inl rfl) we_str)
 ·exact (ws_set (i:=2) sc_law_word.nd rfl (Or.inl rfl) (we_op op_mod bMod (we_op op_mulB bMulB (we_var 0) we_int) (we_op op_pow bPow we_int we_int)))
 ·exact (ws_set (i:=3) sc_law_word.nd rfl (Or.inl rfl) (we_op op_add bAdd we_int (we_op op_mod bMod (we_var 2) we_int)))
 ·exact (ws_set (i:=2) sc_law_word.nd rfl (Or.inl rfl) (we_op op_fdivB bDivB (we_var 2) we_int))
 ·exact (ws_set (i:=4) sc_law_word.nd rfl (Or.inl rfl) we_str)
 ·exact (ws_for (i:=5) PassesOwn.never rfl (wf_range1 rfl T.B.range (wa_cons (we_var 3) wa_nil)) sc_law_word.nd rfl (Or.inl rfl) (wss_cons (ws_set (i:=4) sc_law_word.nd rfl (Or.inl rfl) (we_op op_add_str bCatS (we_var 4) (we_ix ix_seq bIx (we_var 1) (we_op op_mod bMod (we_var 2) we_int) (fun _ _=>rfl))))
  (wss_one (ws_set (i:=2) sc_law_word.nd rfl (Or.inl rfl) (we_op op_fdivB bDivB (we_var 2) we_int)))))
 ·exact (ws_ret (we_var 4))
def b_law_near_4:MS:=
  (cRet (c2 oCatS (c2 oCatS (cSlS (cVar 0) cNoPart (cPart (cVar 3))) (c2 oIx (cVar 2) (c2 oMod (c2 oDivB (cVar 1) (cK (.int 24))) (cK (.int 26))))) (cSlS (cVar 0) (cPart (c2 oAdd (cVar 3) (cK (.int 1)))) cNoPart)))
def b_law_near_3:MS:=
  cSeq (cIfS (cT (c2 oEq (c2 oMod (cVar 1) (cK (.int 3))) (cK (.int 1)))) (cRet (cSlS (cVar 0) cNoPart (cPart (c2 oAdd (cVar 3) (cK (.int 1)))))) cPass) b_law_near_4
def b_law_near_2:MS:=
  cSeq (cSet 3 (c2 oMod (c2 oDivB (cVar 1) (cK (.int 3))) (cB fLenS (cCons (cVar 0) cNil)))) b_law_near_3
def b_law_near_1:MS:=
  cSeq (cIfS (cT (c2 oEq (c2 oMod (cVar 1) (cK (.int 3))) (cK (.int 0)))) (cRet (cCall m_law_word (cCons (c2 oDivB (cVar 1) (cK (.int 3))) cNil))) cPass) b_law_near_2
def b_law_near:MS:=
  cSeq (cSet 2 (cK (.str "abcdefghijklmnopqrstuvwxyz"))) b_law_near_1
def m_law_near:MF:=fnOf 2 4 b_law_near
theorem has_law_near (T:Txt P w K mg base):Has P w K mg base "_law_near" ["word","number"] 2 (spF K mg m_law_near):=by
 show Has P w K mg base _ _ _ (spF K mg (fnOf 2 4 b_law_near))
 refine has_of (k:=1) T.d_law_near sc_law_near rfl rfl fun f cdv A outer s H E hr=>?_
 have hu:=hr.units
 refine @WSs.un _ _ _ _ ?_
 refine @wss_cons _ _ _ _ _ _ ?_ (@wss_cons _ _ _ _ _ _ ?_ (@wss_cons _ _ _ _ _ _ ?_ (@wss_cons _ _ _ _ _ _ ?_ (@wss_one _ _ _ _ ?_))))
 ·exact (ws_set (i:=2) sc_law_near.nd rfl (Or.inl rfl) we_str)
 ·exact (ws_if (wt_cmp (op_eqD hu) bEq (we_op op_mod bMod (we_var 1) we_int) we_int (nomark _)) (wss_one (ws_ret (we_call (has_law_word T) (hr.mono (by omega)) rfl (wa_cons (we_op op_fdivB bDivB (we_var 1) we_int) wa_nil)))) wss_nil)
 ·exact (ws_set (i:=3) sc_law_near.nd rfl (Or.inl rfl) (we_op op_mod bMod (we_op op_fdivB bDivB (we_var 1) we_int) (we_callB call_len_str kLenS rfl T.B.len bt_len (wa_cons (we_var 0) wa_nil))))
 ·exact (ws_if (wt_cmp (op_eqD hu) bEq (we_op op_mod bMod (we_var 1) we_int) we_int (nomark _)) (wss_one (ws_ret (we_sliceS (we_var 0) wo_none (wo_some (we_op op_add bAdd (we_var 3) we_int))))) wss_nil)
 ·exact (ws_ret (we_op op_add_str bCatS (we_op op_add_str bCatS (we_sliceS (we_var 0) wo_none (wo_some (we_var 3))) (we_ix ix_seq bIx (we_var 2) (we_op op_mod bMod (we_op op_fdivB bDivB (we_var 1) we_int) we_int) (fun _ _=>rfl))) (we_sliceS (we_var 0) (wo_some (we_op op_add bAdd (we_var 3) we_int)) wo_none)))
def b_law_pool_3:MS:=
  (cRetO 2)
def b_law_pool_2:MS:=
  cSeq (cMutS 2 uAppend (cCons (cCall m_law_word (cCons (cCall m_law_cell_at (cCons (cVar 0) (cCons (cK (.int 3)) cNil))) cNil)) cNil)) b_law_pool_3
def b_law_pool_1:MS:=
  cSeq (cOwn 2 (cLst (cCons (cVar 1) (cCons (cCall m_law_near (cCons (cVar 1) (cCons (cCall m_law_cell_at (cCons (cVar 0) (cCons (cK (.int 1)) cNil))) cNil))) (cCons (cCall m_law_near (cCons (cVar 1) (cCons (cCall m_law_cell_at (cCons (cVar 0) (cCons (cK (.int 2)) cNil))) cNil))) cNil))))) b_law_pool_2
def b_law_pool:MS:=
  cSeq (cSet 1 (cCall m_law_word (cCons (cCall m_law_cell_at (cCons (cVar 0) (cCons (cK (.int 0)) cNil))) cNil))) b_law_pool_1
def m_law_pool:MF:=fnOf 1 3 b_law_pool
theorem has_law_pool (T:Txt P w K mg base):Has P w K mg base "_law_pool" ["script"] 3 (spF K mg m_law_pool):=by
 show Has P w K mg base _ _ _ (spF K mg (fnOf 1 3 b_law_pool))
 refine has_of (k:=2) T.d_law_pool sc_law_pool rfl rfl fun f cdv A outer s H E hr=>?_
 have hu:=hr.units
 refine @WSs.un _ _ _ _ ?_
 refine @wss_cons _ _ _ _ _ _ ?_ (@wss_cons _ _ _ _ _ _ ?_ (@wss_cons _ _ _ _ _ _ ?_ (@wss_one _ _ _ _ ?_)))
 ·exact (ws_set (i:=1) sc_law_pool.nd rfl (Or.inl rfl) (we_call (has_law_word T) (hr.mono (by omega)) rfl (wa_cons (we_call (has_law_cell_at T) (hr.mono (by omega)) rfl (wa_cons (we_var 0) (wa_cons we_int wa_nil))) wa_nil)))
 ·exact (ws_own (i:=2) sc_law_pool.nd rfl (Or.inl rfl) (we_lst (wa_cons (we_var 1) (wa_cons (we_call (has_law_near T) (hr.mono (by omega)) rfl (wa_cons (we_var 1) (wa_cons (we_call (has_law_cell_at T) (hr.mono (by omega)) rfl (wa_cons (we_var 0) (wa_cons we_int wa_nil))) wa_nil))) (wa_cons (we_call (has_law_near T) (hr.mono (by omega)) rfl (wa_cons (we_var 1) (wa_cons (we_call (has_law_cell_at T) (hr.mono (by omega)) rfl (wa_cons (we_var 0) (wa_cons we_int wa_nil))) wa_nil))) wa_nil)))))
 ·exact (ws_mut (i:=2) PySem.F.slot_list_append PySem.F.type_list_append mt_append mAppend (wa_cons (we_call (has_law_word T) (hr.mono (by omega)) rfl (wa_cons (we_call (has_law_cell_at T) (hr.mono (by omega)) rfl (wa_cons (we_var 0) (wa_cons we_int wa_nil))) wa_nil)) wa_nil) rfl (Or.inl rfl))
 ·exact (ws_retO 2)
def b_law_number_3:MS:=
  (cRet (c2 oSub (c2 oMod (c2 oDivB (cVar 0) (cK (.int 3))) (cK (.int 7))) (cK (.int 3))))
def b_law_number_2:MS:=
  cSeq (cIfS (cT (c2 oEq (c2 oMod (cVar 0) (cK (.int 3))) (cK (.int 1)))) (cRet (c1 oNeg (cVar 1))) cPass) b_law_number_3
def b_law_number_1:MS:=
  cSeq (cIfS (cT (c2 oEq (c2 oMod (cVar 0) (cK (.int 3))) (cK (.int 0)))) (cRet (cVar 1)) cPass) b_law_number_2
def b_law_number:MS:=
  cSeq (cSet 1 (c2 oMod (c2 oDivB (cVar 0) (cK (.int 3))) (c2 oPow (cK (.int 10)) (cK (.int 58))))) b_law_number_1
def m_law_number:MF:=fnOf 1 2 b_law_number
theorem has_law_number (T:Txt P w K mg base):Has P w K mg base "_law_number" ["number"] 1 (spF K mg m_law_number):=by
 show Has P w K mg base _ _ _ (spF K mg (fnOf 1 2 b_law_number))
 refine has_of (k:=0) T.d_law_number sc_law_number rfl rfl fun f cdv A outer s H E hr=>?_
 have hu:=hr.units
 refine @WSs.un _ _ _ _ ?_
 refine @wss_cons _ _ _ _ _ _ ?_ (@wss_cons _ _ _ _ _ _ ?_ (@wss_cons _ _ _ _ _ _ ?_ (@wss_one _ _ _ _ ?_)))
 ·exact (ws_set (i:=1) sc_law_number.nd rfl (Or.inl rfl) (we_op op_mod bMod (we_op op_fdivB bDivB (we_var 0) we_int) (we_op op_pow bPow we_int we_int)))
 ·exact (ws_if (wt_cmp (op_eqD hu) bEq (we_op op_mod bMod (we_var 0) we_int) we_int (nomark _)) (wss_one (ws_ret (we_var 1))) wss_nil)
 ·exact (ws_if (wt_cmp (op_eqD hu) bEq (we_op op_mod bMod (we_var 0) we_int) we_int (nomark _)) (wss_one (ws_ret (we_neg (we_var 1)))) wss_nil)
 ·exact (ws_ret (we_op op_sub bSub (we_op op_mod bMod (we_op op_fdivB bDivB (we_var 0) we_int) we_int) we_int))
def l_law_plain_0 (self:MF):MS:=
  (cIfS (tNotM (cT (cCall self (cCons (cVar 1) cNil)))) (cRet (cK (.bl false))) cPass)
def b_law_plain_1 (self:MF):MS:=
  (cRet (cOr (c2 oIsN (cVar 0) (cK (.non))) (cOr (cB fIsi (cCons (cVar 0) (cCons (cK (.ty "str")) cNil))) (cCall m_law_whole (cCons (cVar 0) cNil)))))
def b_law_plain (self:MF):MS:=
  cSeq (cIfS (cT (cB fIsi (cCons (cVar 0) (cCons (cK (.ty "tuple")) cNil)))) (cSeq (cFor 1 (iT (cVar 0)) (l_law_plain_0 self))
  (cRet (cK (.bl true)))) cPass) (b_law_plain_1 self)
def m_law_plain:Nat→MF
 | 0=>fun _=>bad
 | n + 1=>fnOf 1 2 (b_law_plain (m_law_plain n))
theorem has_law_plain (T:Txt P w K mg base):∀n,Has P w K mg base "_law_plain" ["thing"] (n + 2) (spF K mg (m_law_plain n))
 | 0=>T.d_law_plain.none (by rintro vs H Q E ⟨O,ds,r,S',_,_,h,_⟩;cases h)
 | n + 1=>by
  have ih:Has P w K mg base "_law_plain" ["thing"] (n + 2) (spF K mg (m_law_plain n)):=has_law_plain T n
  show Has P w K mg base _ _ _ (spF K mg (fnOf 1 2 (b_law_plain (m_law_plain n))))
  refine (has_of (k:=n + 2) T.d_law_plain sc_law_plain rfl rfl fun f cdv A outer s H E hr=>?_).mono (by omega)
  have hu:=hr.units
  refine @WSs.un _ _ _ _ ?_
  refine @wss_cons _ _ _ _ _ _ ?_ (@wss_one _ _ _ _ ?_)
  ·exact (ws_if (wt_val (we_callB (call_isi T.kt) kIsi rfl T.B.isinstance bt_isinstance (wa_cons (we_var 0) (wa_cons (we_k (pe_bltn (v:=.ty "tuple") rfl T.B.tuple' bt_tuple rfl) fun _ _=>rfl) wa_nil)))) (wss_cons (ws_for (i:=1) PassesOwn.never rfl (wf_tup (we_var 0)) sc_law_plain.nd rfl (Or.inl rfl) (wss_one (ws_if (wt_not (wt_val (we_call ih (hr.mono (by omega)) rfl (wa_cons (we_var 1) wa_nil)))) (wss_one (ws_ret we_bl)) wss_nil)))
  (wss_one (ws_ret we_bl))) wss_nil)
  ·exact (ws_ret (we_or (we_cmp op_isN bIsN (we_var 0) we_non (nomark _)) (we_or (we_callB (call_isi T.kt) kIsi rfl T.B.isinstance bt_isinstance (wa_cons (we_var 0) (wa_cons (we_k (pe_bltn (v:=.ty "str") rfl T.B.str' bt_str rfl) fun _ _=>rfl) wa_nil))) (we_one (we_call (has_law_whole T) (hr.mono (by omega)) rfl (wa_cons (we_var 0) wa_nil))))))
def b_law_deed_9:MS:=
  (cRet (c2 oIx (cLst (cCons (cTup (cCons (cK (.str "end")) cNil)) (cCons (cTup (cCons (cK (.str "move")) (cCons (cTup (cCons (cTup (cCons (cK (.int 2)) (cCons (cTup (cCons (cK (.int 0)) (cCons (cK (.int 1)) (cCons (cK (.int 2)) cNil)))) cNil))) (cCons (cTup (cCons (cK (.int 2)) (cCons (cTup (cCons (cK (.int 0)) (cCons (cK (.int 1)) (cCons (cK (.int 2)) cNil)))) cNil))) cNil))) cNil))) cNil))) (c2 oMod (c2 oDivB (cVar 1) (cK (.int 36))) (cK (.int 2)))))
def b_law_deed_8:MS:=
  cSeq (cIfS (tOrM (cT (c2 oEq (cVar 4) (cK (.int 18)))) (cT (c2 oGt (c2 oMod (c2 oDivB (cVar 1) (cK (.int 9))) (cK (.int 4))) (cK (.int 0))))) (cRet (cK (.non))) cPass) b_law_deed_9
def b_law_deed_7:MS:=
  cSeq (cIfS (cT (c2 oLt (cVar 4) (cK (.int 18)))) (cSeq (cSet 7 (cLst (cCons (cK (.str "take")) (cCons (cK (.str "renew")) (cCons (cK (.str "free")) (cCons (cK (.str "sure")) (cCons (cK (.str "sure")) (cCons (cK (.str "take")) cNil))))))))
  (cSeq (cIfS (cT (c2 oEq (c2 oIx (cVar 7) (c2 oSub (cVar 4) (cK (.int 12)))) (cK (.str "sure")))) (cRet (cTup (cCons (cK (.str "sure")) (cCons (cVar 3) (cCons (cVar 5) (cCons (cVar 6) cNil)))))) cPass)
  (cRet (cTup (cCons (c2 oIx (cVar 7) (c2 oSub (cVar 4) (cK (.int 12)))) (cCons (cVar 3) cNil)))))) cPass) b_law_deed_8
def b_law_deed_6:MS:=
  cSeq (cIfS (cT (c2 oLt (cVar 4) (cK (.int 12)))) (cRet (cTup (cCons (cK (.str "swap")) (cCons (cVar 5) (cCons (c2 oIx (cLst (cCons (cK (.int 0)) (cCons (cVar 6) (cCons (cK (.int 5)) cNil)))) (c2 oMod (c2 oDivB (cVar 1) (cK (.int 3))) (cK (.int 3)))) (cCons (c2 oAdd (cVar 6) (cK (.int 1))) cNil)))))) cPass) b_law_deed_7
def b_law_deed_5:MS:=
  cSeq (cIfS (cT (c2 oLt (cVar 4) (cK (.int 10)))) (cRet (cTup (cCons (cK (.str "put")) (cCons (cVar 5) (cCons (cVar 6) cNil))))) cPass) b_law_deed_6
def b_law_deed_4:MS:=
  cSeq (cIfS (cT (c2 oLt (cVar 4) (cK (.int 8)))) (cRet (cTup (cCons (cK (.str "add")) (cCons (cVar 5) (cCons (cVar 6) cNil))))) cPass) b_law_deed_5
def b_law_deed_3:MS:=
  cSeq (cIfS (cT (c2 oLt (cVar 4) (cK (.int 6)))) (cRet (cTup (cCons (cK (.str "add")) (cCons (c2 oIx (cVar 2) (cK (.int 3))) (cCons (cVar 6) cNil))))) cPass) b_law_deed_4
def b_law_deed_2:MS:=
  cSeq (cSet 6 (cCall m_law_number (cCons (c2 oDivB (cVar 0) (cK (.int 20))) cNil))) b_law_deed_3
def b_law_deed_1:MS:=
  cSeq (cSet 5 (c2 oIx (cVar 2) (c2 oMod (cVar 1) (cK (.int 3))))) b_law_deed_2
def b_law_deed:MS:=
  cSeq (cSet 4 (c2 oMod (cVar 0) (cK (.int 20)))) b_law_deed_1
def m_law_deed:MF:=fnOf 4 8 b_law_deed
theorem has_law_deed (T:Txt P w K mg base):Has P w K mg base "_law_deed" ["number","mixed","pool","fence"] 2 (spF K mg m_law_deed):=by
 show Has P w K mg base _ _ _ (spF K mg (fnOf 4 8 b_law_deed))
 refine has_of (k:=1) T.d_law_deed sc_law_deed rfl rfl fun f cdv A outer s H E hr=>?_
 have hu:=hr.units
 refine @WSs.un _ _ _ _ ?_
 refine @wss_cons _ _ _ _ _ _ ?_ (@wss_cons _ _ _ _ _ _ ?_ (@wss_cons _ _ _ _ _ _ ?_ (@wss_cons _ _ _ _ _ _ ?_ (@wss_cons _ _ _ _ _ _ ?_ (@wss_cons _ _ _ _ _ _ ?_ (@wss_cons _ _ _ _ _ _ ?_ (@wss_cons _ _ _ _ _ _ ?_ (@wss_cons _ _ _ _ _ _ ?_ (@wss_one _ _ _ _ ?_)))))))))
 ·exact (ws_set (i:=4) sc_law_deed.nd rfl (Or.inl rfl) (we_op op_mod bMod (we_var 0) we_int))
 ·exact (ws_set (i:=5) sc_law_deed.nd rfl (Or.inl rfl) (we_ix ix_seq bIx (we_var 2) (we_op op_mod bMod (we_var 1) we_int) (fun _ _=>rfl)))
 ·exact (ws_set (i:=6) sc_law_deed.nd rfl (Or.inl rfl) (we_call (has_law_number T) (hr.mono (by omega)) rfl (wa_cons (we_op op_fdivB bDivB (we_var 0) we_int) wa_nil)))
 ·exact (ws_if (wt_cmp op_lt bLt (we_var 4) we_int (nomark _)) (wss_one (ws_ret (we_tup (wa_cons we_str (wa_cons (we_ix ix_seq bIx (we_var 2) we_int (fun _ _=>rfl)) (wa_cons (we_var 6) wa_nil)))))) wss_nil)
 ·exact (ws_if (wt_cmp op_lt bLt (we_var 4) we_int (nomark _)) (wss_one (ws_ret (we_tup (wa_cons we_str (wa_cons (we_var 5) (wa_cons (we_var 6) wa_nil)))))) wss_nil)
 ·exact (ws_if (wt_cmp op_lt bLt (we_var 4) we_int (nomark _)) (wss_one (ws_ret (we_tup (wa_cons we_str (wa_cons (we_var 5) (wa_cons (we_var 6) wa_nil)))))) wss_nil)
 ·exact (ws_if (wt_cmp op_lt bLt (we_var 4) we_int (nomark _)) (wss_one (ws_ret (we_tup (wa_cons we_str (wa_cons (we_var 5) (wa_cons (we_ix ix_seq bIx (we_lst (wa_cons we_int (wa_cons (we_var 6) (wa_cons we_int wa_nil)))) (we_op op_mod bMod (we_op op_fdivB bDivB (we_var 1) we_int) we_int) (fun _ _=>rfl)) (wa_cons (we_op op_add bAdd (we_var 6) we_int) wa_nil))))))) wss_nil)
 ·exact (ws_if (wt_cmp op_lt bLt (we_var 4) we_int (nomark _)) (wss_cons (ws_set (i:=7) sc_law_deed.nd rfl (Or.inl rfl) (we_lst (wa_cons we_str (wa_cons we_str (wa_cons we_str (wa_cons we_str (wa_cons we_str (wa_cons we_str wa_nil))))))))
  (wss_cons (ws_if (wt_cmp (op_eqD hu) bEq (we_ix ix_seq bIx (we_var 7) (we_op op_sub bSub (we_var 4) we_int) (fun _ _=>rfl)) we_str (nomark _)) (wss_one (ws_ret (we_tup (wa_cons we_str (wa_cons (we_var 3) (wa_cons (we_var 5) (wa_cons (we_var 6) wa_nil))))))) wss_nil)
  (wss_one (ws_ret (we_tup (wa_cons (we_ix ix_seq bIx (we_var 7) (we_op op_sub bSub (we_var 4) we_int) (fun _ _=>rfl)) (wa_cons (we_var 3) wa_nil))))))) wss_nil)
 ·exact (ws_if (WW.ct (ww_or (wt_cmp (op_eqD hu) bEq (we_var 4) we_int (nomark _)) (ww_or1 (wt_cmp op_gt bGt (we_op op_mod bMod (we_op op_fdivB bDivB (we_var 1) we_int) we_int) we_int (nomark _))))) (wss_one (ws_ret we_non)) wss_nil)
 ·exact (ws_ret (we_ix ix_seq bIx (we_lst (wa_cons (we_tup (wa_cons we_str wa_nil)) (wa_cons (we_tup (wa_cons we_str (wa_cons (we_tup (wa_cons (we_tup (wa_cons we_int (wa_cons (we_tup (wa_cons we_int (wa_cons we_int (wa_cons we_int wa_nil)))) wa_nil))) (wa_cons (we_tup (wa_cons we_int (wa_cons (we_tup (wa_cons we_int (wa_cons we_int (wa_cons we_int wa_nil)))) wa_nil))) wa_nil))) wa_nil))) wa_nil))) (we_op op_mod bMod (we_op op_fdivB bDivB (we_var 1) we_int) we_int) (fun _ _=>rfl)))
def b_law_lent_2:MS:=
  (cRet (cTup (cCons (c2 oAdd (c2 oIx (cVar 0) (cK (.int 0))) (cK (.int 1))) (cCons (c2 oIx (cLst (cCons (cVar 1) (cCons (cK (.non)) cNil))) (cB fInt (cCons (c2 oEq (c2 oIx (cVar 2) (cK (.int 0))) (cK (.str "free"))) cNil))) cNil))))
def b_law_lent_1:MS:=
  cSeq (cIfS (tAndM (cT (c2 oNe (c2 oIx (cVar 2) (cK (.int 0))) (cK (.str "take")))) (cT (c2 oNe (c2 oIx (cVar 0) (cK (.int 1))) (cVar 1)))) (cRet (cVar 0)) cPass) b_law_lent_2
def b_law_lent:MS:=
  cSeq (cIfS (tOrM (cT (c2 (oIn true) (c2 oIx (cVar 2) (cK (.int 0))) (cTup (cCons (cK (.str "take")) (cCons (cK (.str "renew")) (cCons (cK (.str "free")) cNil)))))) (cT (c2 oNe (c2 oIx (cVar 2) (cK (.int 1))) (c2 oIx (cVar 0) (cK (.int 0)))))) (cRet (cVar 0)) cPass) b_law_lent_1
def m_law_lent:MF:=fnOf 3 3 b_law_lent
theorem has_law_lent (T:Txt P w K mg base):Has P w K mg base "_law_lent" ["lease","asker","deed"] 1 (spF K mg m_law_lent):=by
 show Has P w K mg base _ _ _ (spF K mg (fnOf 3 3 b_law_lent))
 refine has_of (k:=0) T.d_law_lent sc_law_lent rfl rfl fun f cdv A outer s H E hr=>?_
 have hu:=hr.units
 refine @WSs.un _ _ _ _ ?_
 refine @wss_cons _ _ _ _ _ _ ?_ (@wss_cons _ _ _ _ _ _ ?_ (@wss_one _ _ _ _ ?_))
 ·exact (ws_if (WW.ct (ww_or (wt_cmp op_notIn_seq (bIn true) (we_ix ix_seq bIx (we_var 2) we_int (fun _ _=>rfl)) (we_tup (wa_cons we_str (wa_cons we_str (wa_cons we_str wa_nil)))) rfl) (ww_or1 (wt_cmp (op_neD hu) bNe (we_ix ix_seq bIx (we_var 2) we_int (fun _ _=>rfl)) (we_ix ix_seq bIx (we_var 0) we_int (fun _ _=>rfl)) (nomark _))))) (wss_one (ws_ret (we_var 0))) wss_nil)
 ·exact (ws_if (WW.ct (ww_and (wt_cmp (op_neD hu) bNe (we_ix ix_seq bIx (we_var 2) we_int (fun _ _=>rfl)) we_str (nomark _)) (ww_and1 (wt_cmp (op_neD hu) bNe (we_ix ix_seq bIx (we_var 0) we_int (fun _ _=>rfl)) (we_var 1) (nomark _))))) (wss_one (ws_ret (we_var 0))) wss_nil)
 ·exact (ws_ret (we_tup (wa_cons (we_op op_add bAdd (we_ix ix_seq bIx (we_var 0) we_int (fun _ _=>rfl)) we_int) (wa_cons (we_ix ix_seq bIx (we_lst (wa_cons (we_var 1) (wa_cons we_non wa_nil))) (we_callTy call_int1 kInt rfl T.B.int' bt_int (wa_cons (we_cmp (op_eqD hu) bEq (we_ix ix_seq bIx (we_var 2) we_int (fun _ _=>rfl)) we_str (nomark _)) wa_nil)) (fun _ _=>rfl)) wa_nil))))
def l_law_rows_0:MS:=
  (cSeq (cSet 7 (c2 oMod (c2 oAdd (c2 oMulB (c2 oIx (cVar 0) (cVar 6)) (cK (.int 48271))) (c2 oMulB (c2 oMulB (cVar 6) (cVar 6)) (cK (.int 7919)))) (cK (.int 2147483647))))
  (cSeq (cSet 8 (c2 oMod (c2 oDivB (cVar 7) (cK (.int 72))) (cK (.int 6))))
  (cSeq (cIfS (tAndM (cT (c2 oEq (c2 oMod (c2 oDivB (cVar 7) (cK (.int 2592))) (cK (.int 2))) (cK (.int 1)))) (cT (c2 oNotN (c2 oIx (cVar 5) (cK (.int 1))) (cK (.non))))) (cSet 8 (c2 oIx (cVar 5) (cK (.int 1)))) cPass)
  (cSeq (cSet 9 (cB fMax2 (cCons (cK (.int 1)) (cCons (c2 oAdd (cDGet2 (cVar 3) (cVar 8) (cK (.int 0))) (c2 oIx (cLst (cCons (cK (.int 0)) (cCons (c1 oNeg (cK (.int 1))) (cCons (cK (.int 1)) (cCons (cK (.int 1)) (cCons (cK (.int 1)) (cCons (c2 oPow (cK (.int 10)) (cK (.int 30))) cNil))))))) (c2 oMod (c2 oDivB (cVar 7) (cK (.int 432))) (cK (.int 6))))) cNil))))
  (cSeq (cDPut 3 (cVar 8) (cB fMax2 (cCons (cVar 9) (cCons (cDGet2 (cVar 3) (cVar 8) (cK (.int 0))) cNil))))
  (cSeq (cSet 10 (cCall m_law_deed (cCons (c2 oIx (cVar 0) (cVar 6)) (cCons (cVar 7) (cCons (cVar 1) (cCons (cB fMax2 (cCons (cK (.int 0)) (cCons (c2 oAdd (c2 oIx (cVar 5) (cK (.int 0))) (c2 oIx (cLst (cCons (cK (.int 0)) (cCons (cK (.int 0)) (cCons (cK (.int 0)) (cCons (cK (.int 0)) (cCons (cK (.int 1)) (cCons (c1 oNeg (cK (.int 1))) cNil))))))) (c2 oMod (c2 oDivB (cVar 7) (cK (.int 5184))) (cK (.int 6))))) cNil))) cNil))))))
  (cSeq (cIfS (tAndM (cT (c2 oNotN (cVar 10) (cK (.non)))) (cT (c2 oGt (cVar 9) (cDGet2 (cVar 4) (cVar 8) (cK (.int 0)))))) (cSeq (cDPut 4 (cVar 8) (cVar 9))
  (cSet 5 (cCall m_law_lent (cCons (cVar 5) (cCons (cVar 8) (cCons (cVar 10) cNil)))))) cPass)
  (cMutS 2 uAppend (cCons (cTup (cCons (cVar 8) (cCons (cVar 9) (cCons (cVar 10) cNil)))) cNil)))))))))
def b_law_rows_5:MS:=
  (cRetO 2)
def b_law_rows_4:MS:=
  cSeq (cFor 6 (iR2 (cCons (cK (.int 4)) (cCons (cB fMin2 (cCons (cK (.int 63)) (cCons (cB fLen (cCons (cVar 0) cNil)) cNil))) cNil))) l_law_rows_0) b_law_rows_5
def b_law_rows_3:MS:=
  cSeq (cSet 5 (cTup (cCons (cK (.int 0)) (cCons (cK (.non)) cNil)))) b_law_rows_4
def b_law_rows_2:MS:=
  cSeq (cDNew 4) b_law_rows_3
def b_law_rows_1:MS:=
  cSeq (cDNew 3) b_law_rows_2
def b_law_rows:MS:=
  cSeq (cOwn 2 (cLst cNil)) b_law_rows_1
def m_law_rows:MF:=fnOf 2 11 b_law_rows
theorem has_law_rows (T:Txt P w K mg base):Has P w K mg base "_law_rows" ["script","pool"] 3 (spF K mg m_law_rows):=by
 show Has P w K mg base _ _ _ (spF K mg (fnOf 2 11 b_law_rows))
 refine has_of (k:=2) T.d_law_rows sc_law_rows rfl rfl fun f cdv A outer s H E hr=>?_
 have hu:=hr.units
 refine @WSs.un _ _ _ _ ?_
 refine @wss_cons _ _ _ _ _ _ ?_ (@wss_cons _ _ _ _ _ _ ?_ (@wss_cons _ _ _ _ _ _ ?_ (@wss_cons _ _ _ _ _ _ ?_ (@wss_cons _ _ _ _ _ _ ?_ (@wss_one _ _ _ _ ?_)))))
 ·exact (ws_own (i:=2) sc_law_rows.nd rfl (Or.inl rfl) (we_lst wa_nil))
 ·exact (ws_dnew (j:=3) sc_law_rows.nd rfl (Or.inl rfl))
 ·exact (ws_dnew (j:=4) sc_law_rows.nd rfl (Or.inl rfl))
 ·exact (ws_set (i:=5) sc_law_rows.nd rfl (Or.inl rfl) (we_tup (wa_cons we_int (wa_cons we_non wa_nil))))
 ·exact (ws_for (i:=6) PassesOwn.never rfl (wf_range2 rfl T.B.range (wa_cons we_int (wa_cons (we_callB (call_min2 rfl) k2I rfl T.B.min bt_min (wa_cons we_int (wa_cons (we_callB call_len_seq kLen rfl T.B.len bt_len (wa_cons (we_var 0) wa_nil)) wa_nil))) wa_nil))) sc_law_rows.nd rfl (Or.inl rfl) (wss_cons (ws_set (i:=7) sc_law_rows.nd rfl (Or.inl rfl) (we_op op_mod bMod (we_op op_add bAdd (we_op op_mulB bMulB (we_ix ix_seq bIx (we_var 0) (we_var 6) (fun _ _=>rfl)) we_int) (we_op op_mulB bMulB (we_op op_mulB bMulB (we_var 6) (we_var 6)) we_int)) we_int))
  (wss_cons (ws_set (i:=8) sc_law_rows.nd rfl (Or.inl rfl) (we_op op_mod bMod (we_op op_fdivB bDivB (we_var 7) we_int) we_int))
  (wss_cons (ws_if (WW.ct (ww_and (wt_cmp (op_eqD hu) bEq (we_op op_mod bMod (we_op op_fdivB bDivB (we_var 7) we_int) we_int) we_int (nomark _)) (ww_and1 (wt_cmp op_notN bNotN (we_ix ix_seq bIx (we_var 5) we_int (fun _ _=>rfl)) we_non (nomark _))))) (wss_one (ws_set (i:=8) sc_law_rows.nd rfl (Or.inl rfl) (we_ix ix_seq bIx (we_var 5) we_int (fun _ _=>rfl)))) wss_nil)
  (wss_cons (ws_set (i:=9) sc_law_rows.nd rfl (Or.inl rfl) (we_callB (call_max2 rfl) k2I rfl T.B.max bt_max (wa_cons we_int (wa_cons (we_op op_add bAdd (we_dget2 hu (we_var 3) (we_var 8) we_int) (we_ix ix_seq bIx (we_lst (wa_cons we_int (wa_cons (we_neg we_int) (wa_cons we_int (wa_cons we_int (wa_cons we_int (wa_cons (we_op op_pow bPow we_int we_int) wa_nil))))))) (we_op op_mod bMod (we_op op_fdivB bDivB (we_var 7) we_int) we_int) (fun _ _=>rfl))) wa_nil))))
  (wss_cons (ws_dput (j:=3) hu rfl (Or.inl rfl) (we_var 8) (we_callB (call_max2 rfl) k2I rfl T.B.max bt_max (wa_cons (we_var 9) (wa_cons (we_dget2 hu (we_var 3) (we_var 8) we_int) wa_nil))))
  (wss_cons (ws_set (i:=10) sc_law_rows.nd rfl (Or.inl rfl) (we_call (has_law_deed T) (hr.mono (by omega)) rfl (wa_cons (we_ix ix_seq bIx (we_var 0) (we_var 6) (fun _ _=>rfl)) (wa_cons (we_var 7) (wa_cons (we_var 1) (wa_cons (we_callB (call_max2 rfl) k2I rfl T.B.max bt_max (wa_cons we_int (wa_cons (we_op op_add bAdd (we_ix ix_seq bIx (we_var 5) we_int (fun _ _=>rfl)) (we_ix ix_seq bIx (we_lst (wa_cons we_int (wa_cons we_int (wa_cons we_int (wa_cons we_int (wa_cons we_int (wa_cons (we_neg we_int) wa_nil))))))) (we_op op_mod bMod (we_op op_fdivB bDivB (we_var 7) we_int) we_int) (fun _ _=>rfl))) wa_nil))) wa_nil))))))
  (wss_cons (ws_if (WW.ct (ww_and (wt_cmp op_notN bNotN (we_var 10) we_non (nomark _)) (ww_and1 (wt_cmp op_gt bGt (we_var 9) (we_dget2 hu (we_var 4) (we_var 8) we_int) (nomark _))))) (wss_cons (ws_dput (j:=4) hu rfl (Or.inl rfl) (we_var 8) (we_var 9))
  (wss_one (ws_set (i:=5) sc_law_rows.nd rfl (Or.inl rfl) (we_call (has_law_lent T) (hr.mono (by omega)) rfl (wa_cons (we_var 5) (wa_cons (we_var 8) (wa_cons (we_var 10) wa_nil))))))) wss_nil)
  (wss_one (ws_mut (i:=2) PySem.F.slot_list_append PySem.F.type_list_append mt_append mAppend (wa_cons (we_tup (wa_cons (we_var 8) (wa_cons (we_var 9) (wa_cons (we_var 10) wa_nil)))) wa_nil) rfl (Or.inl rfl)))))))))))
 ·exact (ws_retO 2)
def l_law_cells_0:MS:=
  (cDPut 1 (cVar 2) (cVar 3))
def b_law_cells:MS:=
  (cSeq (cDNew 1)
  (cSeq (cForT [2,3] (iT (c2 oIx (cVar 0) (cK (.int 0)))) l_law_cells_0)
  cPass))
def m_law_cells:MKD:=fnKD 1 4 1 b_law_cells
theorem has_law_cells (T:Txt P w K mg base):Has P w K mg base "_law_cells" ["slate"] 1 (spKD K mg m_law_cells):=by
 show Has P w K mg base _ _ _ (spKD K mg (fnKD 1 4 1 b_law_cells))
 refine has_kd (k:=0) T.d_law_cells sc_law_cells rfl rfl fun f cdv A outer s H E hr=>?_
 have hu:=hr.units
 refine @WSk.un _ _ _ _ _ ?_
 exact (wsk_cons (ws_dnew (j:=1) sc_law_cells.nd rfl (Or.inl rfl))
  (wsk_cons (ws_forT PassesOwn.never rfl (wf_tup (we_ix ix_seq bIx (we_var 0) we_int (fun _ _=>rfl))) (pgs_names_cons sc_law_cells.nd rfl (Or.inl rfl) (pgs_names_cons sc_law_cells.nd rfl (Or.inl rfl) pgs_names_nil)) (wss_one (ws_dput (j:=1) hu rfl (Or.inl rfl) (we_var 2) (we_var 3))))
  (wsk_ret 1)))
def l_law_form_0:MS:=
  (cIfS (tNotM (cT (cB fIsi (cCons (cVar 1) (cCons (cK (.ty "tuple")) cNil))))) (cRet (cK (.bl false))) cPass)
def l_law_form_1:MS:=
  (cSeq (cIfS (tOrM (tNotM (cT (cB fIsi (cCons (cVar 2) (cCons (cK (.ty "tuple")) cNil))))) (tOrM (cT (c2 oNe (cB fLen (cCons (cVar 2) cNil)) (cK (.int 2)))) (tOrM (tNotM (cT (cB fIsi (cCons (c2 oIx (cVar 2) (cK (.int 0))) (cCons (cK (.ty "str")) cNil))))) (tNotM (cT (cCall m_law_whole (cCons (c2 oIx (cVar 2) (cK (.int 1))) cNil))))))) (cRet (cK (.bl false))) cPass)
  (cIfS (cT (c2 oEq (c2 oIx (cVar 2) (cK (.int 1))) (cK (.int 0)))) (cRet (cK (.bl false))) cPass))
def l_law_form_2:MS:=
  (cIfS (tOrM (tNotM (cT (cB fIsi (cCons (cVar 3) (cCons (cK (.ty "tuple")) cNil))))) (tOrM (cT (c2 oNe (cB fLen (cCons (cVar 3) cNil)) (cK (.int 3)))) (tNotM (cT (cCall m_law_whole (cCons (c2 oIx (cVar 3) (cK (.int 0))) cNil)))))) (cRet (cK (.bl false))) cPass)
def b_law_form_6:MS:=
  (cRet (cAnd (c2 oEq (cVar 4) (cB (fSortS koStr okStr) (cCons (cVar 4) cNil))) (cAnd (c2 oEq (cVar 5) (cB (fSortS koInt okInt) (cCons (cVar 5) cNil))) (c2 oEq (cB fLen (cCons (c2 oIx (cVar 0) (cK (.int 2))) cNil)) (cK (.int 2))))))
def b_law_form_5:MS:=
  cSeq (cSet 5 (cComp 1 [] (iT (c2 oIx (cVar 0) (cK (.int 1)))) tYes (c2 oIx (cVar 0) (cK (.int 0))))) b_law_form_6
def b_law_form_4:MS:=
  cSeq (cSet 4 (cComp 1 [] (iT (c2 oIx (cVar 0) (cK (.int 0)))) tYes (c2 oIx (cVar 0) (cK (.int 0))))) b_law_form_5
def b_law_form_3:MS:=
  cSeq (cFor 3 (iT (c2 oIx (cVar 0) (cK (.int 1)))) l_law_form_2) b_law_form_4
def b_law_form_2:MS:=
  cSeq (cFor 2 (iT (c2 oIx (cVar 0) (cK (.int 0)))) l_law_form_1) b_law_form_3
def b_law_form_1:MS:=
  cSeq (cFor 1 (iT (cSl (cVar 0) cNoPart (cPart (cK (.int 3))))) l_law_form_0) b_law_form_2
def b_law_form:MS:=
  cSeq (cIfS (tOrM (tNotM (cT (cB fIsi (cCons (cVar 0) (cCons (cK (.ty "tuple")) cNil))))) (tOrM (cT (c2 oNe (cB fLen (cCons (cVar 0) cNil)) (cK (.int 4)))) (tNotM (cT (cCall (m_law_plain 12) (cCons (cVar 0) cNil)))))) (cRet (cK (.bl false))) cPass) b_law_form_1
def m_law_form:MF:=fnOf 1 6 b_law_form
theorem has_law_form (T:Txt P w K mg base):Has P w K mg base "_law_form" ["slate"] 15 (spF K mg m_law_form):=by
 show Has P w K mg base _ _ _ (spF K mg (fnOf 1 6 b_law_form))
 refine has_of (k:=14) T.d_law_form sc_law_form rfl rfl fun f cdv A outer s H E hr=>?_
 have hu:=hr.units
 refine @WSs.un _ _ _ _ ?_
 refine @wss_cons _ _ _ _ _ _ ?_ (@wss_cons _ _ _ _ _ _ ?_ (@wss_cons _ _ _ _ _ _ ?_ (@wss_cons _ _ _ _ _ _ ?_ (@wss_cons _ _ _ _ _ _ ?_ (@wss_cons _ _ _ _ _ _ ?_ (@wss_one _ _ _ _ ?_))))))
 ·exact (ws_if (WW.ct (ww_or (wt_not (wt_val (we_callB (call_isi T.kt) kIsi rfl T.B.isinstance bt_isinstance (wa_cons (we_var 0) (wa_cons (we_k (pe_bltn (v:=.ty "tuple") rfl T.B.tuple' bt_tuple rfl) fun _ _=>rfl) wa_nil))))) (ww_or (wt_cmp (op_neD hu) bNe (we_callB call_len_seq kLen rfl T.B.len bt_len (wa_cons (we_var 0) wa_nil)) we_int (nomark _)) (ww_or1 (wt_not (wt_val (we_call (has_law_plain T 12) (hr.mono (by omega)) rfl (wa_cons (we_var 0) wa_nil)))))))) (wss_one (ws_ret we_bl)) wss_nil)
 ·exact (ws_for (i:=1) PassesOwn.never rfl (wf_tup (we_slice (we_var 0) wo_none (wo_some we_int))) sc_law_form.nd rfl (Or.inl rfl) (wss_one (ws_if (wt_not (wt_val (we_callB (call_isi T.kt) kIsi rfl T.B.isinstance bt_isinstance (wa_cons (we_var 1) (wa_cons (we_k (pe_bltn (v:=.ty "tuple") rfl T.B.tuple' bt_tuple rfl) fun _ _=>rfl) wa_nil))))) (wss_one (ws_ret we_bl)) wss_nil)))
 ·exact (ws_for (i:=2) PassesOwn.never rfl (wf_tup (we_ix ix_seq bIx (we_var 0) we_int (fun _ _=>rfl))) sc_law_form.nd rfl (Or.inl rfl) (wss_cons (ws_if (WW.ct (ww_or (wt_not (wt_val (we_callB (call_isi T.kt) kIsi rfl T.B.isinstance bt_isinstance (wa_cons (we_var 2) (wa_cons (we_k (pe_bltn (v:=.ty "tuple") rfl T.B.tuple' bt_tuple rfl) fun _ _=>rfl) wa_nil))))) (ww_or (wt_cmp (op_neD hu) bNe (we_callB call_len_seq kLen rfl T.B.len bt_len (wa_cons (we_var 2) wa_nil)) we_int (nomark _)) (ww_or (wt_not (wt_val (we_callB (call_isi T.kt) kIsi rfl T.B.isinstance bt_isinstance (wa_cons (we_ix ix_seq bIx (we_var 2) we_int (fun _ _=>rfl)) (wa_cons (we_k (pe_bltn (v:=.ty "str") rfl T.B.str' bt_str rfl) fun _ _=>rfl) wa_nil))))) (ww_or1 (wt_not (wt_val (we_call (has_law_whole T) (hr.mono (by omega)) rfl (wa_cons (we_ix ix_seq bIx (we_var 2) we_int (fun _ _=>rfl)) wa_nil))))))))) (wss_one (ws_ret we_bl)) wss_nil)
  (wss_one (ws_if (wt_cmp (op_eqD hu) bEq (we_ix ix_seq bIx (we_var 2) we_int (fun _ _=>rfl)) we_int (nomark _)) (wss_one (ws_ret we_bl)) wss_nil))))
 ·exact (ws_for (i:=3) PassesOwn.never rfl (wf_tup (we_ix ix_seq bIx (we_var 0) we_int (fun _ _=>rfl))) sc_law_form.nd rfl (Or.inl rfl) (wss_one (ws_if (WW.ct (ww_or (wt_not (wt_val (we_callB (call_isi T.kt) kIsi rfl T.B.isinstance bt_isinstance (wa_cons (we_var 3) (wa_cons (we_k (pe_bltn (v:=.ty "tuple") rfl T.B.tuple' bt_tuple rfl) fun _ _=>rfl) wa_nil))))) (ww_or (wt_cmp (op_neD hu) bNe (we_callB call_len_seq kLen rfl T.B.len bt_len (wa_cons (we_var 3) wa_nil)) we_int (nomark _)) (ww_or1 (wt_not (wt_val (we_call (has_law_whole T) (hr.mono (by omega)) rfl (wa_cons (we_ix ix_seq bIx (we_var 3) we_int (fun _ _=>rfl)) wa_nil)))))))) (wss_one (ws_ret we_bl)) wss_nil)))
 ·exact (ws_asgS (i:=4) (esc:=(defScope s_law_form)) (EN:=["slate","part","pair","doing","names","askers"]) (N:=["pair"]) (n:=1) (cap:=[]) ⟨rfl,by decide +kernel,by decide +kernel,by decide +kernel,by decide +kernel,rfl,by decide +kernel⟩ sc_law_form.nd rfl rfl (by decide) (wc_tup (we_ix ix_seq bIx (we_var 0) we_int (fun _ _=>rfl))) rfl (fun _ _ _ _=>⟨Or.inl rfl,rfl⟩) (fun _ _ _ _=>wfs_nil) (fun _ _ _ _=>(we_ix ix_seq bIx (we_var 0) we_int (fun _ _=>rfl))))
 ·exact (ws_asgS (i:=5) (esc:=(defScope s_law_form)) (EN:=["slate","part","pair","doing","names","askers"]) (N:=["doing"]) (n:=1) (cap:=[]) ⟨rfl,by decide +kernel,by decide +kernel,by decide +kernel,by decide +kernel,rfl,by decide +kernel⟩ sc_law_form.nd rfl rfl (by decide) (wc_tup (we_ix ix_seq bIx (we_var 0) we_int (fun _ _=>rfl))) rfl (fun _ _ _ _=>⟨Or.inl rfl,rfl⟩) (fun _ _ _ _=>wfs_nil) (fun _ _ _ _=>(we_ix ix_seq bIx (we_var 0) we_int (fun _ _=>rfl))))
 ·exact (ws_ret (we_and (we_cmp (op_eqD hu) bEq (we_var 4) (we_sortSS rfl rfl T.B.sorted rfl T.B.set' (wa_cons (we_var 4) wa_nil)) (nomark _)) (we_and (we_cmp (op_eqD hu) bEq (we_var 5) (we_sortSI rfl rfl T.B.sorted rfl T.B.set' (wa_cons (we_var 5) wa_nil)) (nomark _)) (we_one (we_cmp (op_eqD hu) bEq (we_callB call_len_seq kLen rfl T.B.len bt_len (wa_cons (we_ix ix_seq bIx (we_var 0) we_int (fun _ _=>rfl)) wa_nil)) we_int (nomark _))))))
def b_law_leased_5:MS:=
  (cRet (cAnd (c2 oEq (c2 oIx (cVar 1) (cK (.int 2))) (cTup (cCons (cVar 4) (cCons (cVar 5) cNil)))) (c2 oEq (cVar 3) (cTup (cCons (cB fInt (cCons (cVar 9) cNil)) (cCons (cVar 4) (cCons (cVar 5) cNil)))))))
def b_law_leased_4:MS:=
  cSeq (cIfS (tOrM (cT (c2 oNe (c2 oIx (cVar 1) (cK (.int 0))) (c2 oIx (cVar 0) (cK (.int 0))))) (cT (c2 oNotN (c2 oIx (cVar 1) (cK (.int 3))) (cK (.non))))) (cRet (cK (.bl false))) cPass) b_law_leased_5
def b_law_leased_3:MS:=
  cSeq (cIfS (cT (cVar 9)) (cSeq (cSet 4 (c2 oAdd (cVar 4) (cK (.int 1))))
  (cSet 5 (c2 oIx (cLst (cCons (cVar 6) (cCons (cK (.non)) cNil))) (cB fInt (cCons (c2 oEq (c2 oIx (cVar 8) (cK (.int 0))) (cK (.str "free"))) cNil))))) cPass) b_law_leased_4
def b_law_leased_2:MS:=
  cSeq (cSet 9 (cAnd (c2 oEq (c2 oIx (cVar 8) (cK (.int 1))) (cVar 4)) (cOr (c2 oEq (c2 oIx (cVar 8) (cK (.int 0))) (cK (.str "take"))) (c2 oEq (cVar 5) (cVar 6))))) b_law_leased_3
def b_law_leased_1:MS:=
  cSeq (cUnp [6,7,8] (cVar 2)) b_law_leased_2
def b_law_leased:MS:=
  cSeq (cUnp [4,5] (c2 oIx (cVar 0) (cK (.int 2)))) b_law_leased_1
def m_law_leased:MF:=fnOf 4 10 b_law_leased
theorem has_law_leased (T:Txt P w K mg base):Has P w K mg base "_law_leased" ["ahead","slate","row","answer"] 1 (spF K mg m_law_leased):=by
 show Has P w K mg base _ _ _ (spF K mg (fnOf 4 10 b_law_leased))
 refine has_of (k:=0) T.d_law_leased sc_law_leased rfl rfl fun f cdv A outer s H E hr=>?_
 have hu:=hr.units
 refine @WSs.un _ _ _ _ ?_
 refine @wss_cons _ _ _ _ _ _ ?_ (@wss_cons _ _ _ _ _ _ ?_ (@wss_cons _ _ _ _ _ _ ?_ (@wss_cons _ _ _ _ _ _ ?_ (@wss_cons _ _ _ _ _ _ ?_ (@wss_one _ _ _ _ ?_)))))
 ·exact (ws_unp rfl (pgs_names_cons sc_law_leased.nd rfl (Or.inl rfl) (pgs_names_cons sc_law_leased.nd rfl (Or.inl rfl) pgs_names_nil)) (we_ix ix_seq bIx (we_var 0) we_int (fun _ _=>rfl)))
 ·exact (ws_unp rfl (pgs_names_cons sc_law_leased.nd rfl (Or.inl rfl) (pgs_names_cons sc_law_leased.nd rfl (Or.inl rfl) (pgs_names_cons sc_law_leased.nd rfl (Or.inl rfl) pgs_names_nil))) (we_var 2))
 ·exact (ws_set (i:=9) sc_law_leased.nd rfl (Or.inl rfl) (we_and (we_cmp (op_eqD hu) bEq (we_ix ix_seq bIx (we_var 8) we_int (fun _ _=>rfl)) (we_var 4) (nomark _)) (we_one (we_or (we_cmp (op_eqD hu) bEq (we_ix ix_seq bIx (we_var 8) we_int (fun _ _=>rfl)) we_str (nomark _)) (we_one (we_cmp (op_eqD hu) bEq (we_var 5) (we_var 6) (nomark _)))))))
 ·exact (ws_if (wt_val (we_var 9)) (wss_cons (ws_set (i:=4) sc_law_leased.nd rfl (Or.inl rfl) (we_op op_add bAdd (we_var 4) we_int))
  (wss_one (ws_set (i:=5) sc_law_leased.nd rfl (Or.inl rfl) (we_ix ix_seq bIx (we_lst (wa_cons (we_var 6) (wa_cons we_non wa_nil))) (we_callTy call_int1 kInt rfl T.B.int' bt_int (wa_cons (we_cmp (op_eqD hu) bEq (we_ix ix_seq bIx (we_var 8) we_int (fun _ _=>rfl)) we_str (nomark _)) wa_nil)) (fun _ _=>rfl))))) wss_nil)
 ·exact (ws_if (WW.ct (ww_or (wt_cmp (op_neD hu) bNe (we_ix ix_seq bIx (we_var 1) we_int (fun _ _=>rfl)) (we_ix ix_seq bIx (we_var 0) we_int (fun _ _=>rfl)) (nomark _)) (ww_or1 (wt_cmp op_notN bNotN (we_ix ix_seq bIx (we_var 1) we_int (fun _ _=>rfl)) we_non (nomark _))))) (wss_one (ws_ret we_bl)) wss_nil)
 ·exact (ws_ret (we_and (we_cmp (op_eqD hu) bEq (we_ix ix_seq bIx (we_var 1) we_int (fun _ _=>rfl)) (we_tup (wa_cons (we_var 4) (wa_cons (we_var 5) wa_nil))) (nomark _)) (we_one (we_cmp (op_eqD hu) bEq (we_var 3) (we_tup (wa_cons (we_callTy call_int1 kInt rfl T.B.int' bt_int (wa_cons (we_var 9) wa_nil)) (wa_cons (we_var 4) (wa_cons (we_var 5) wa_nil)))) (nomark _)))))
def b_law_written_13:MS:=
  (cRet (cAnd (c2 oEq (cVar 11) (cVar 10)) (c2 oEq (cVar 3) (cK (.int 0)))))
def b_law_written_12:MS:=
  cSeq (cIfS (cT (cVar 12)) (cRet (cAnd (c2 oEq (cVar 11) (c2 oIx (cVar 6) (cK (.int 3)))) (c2 oEq (cVar 3) (cK (.int 1))))) cPass) b_law_written_13
def b_law_written_11:MS:=
  cSeq (cSet 12 (cOr (cAnd (c2 oEq (c2 oIx (cVar 6) (cK (.int 0))) (cK (.str "swap"))) (c2 oEq (cVar 10) (c2 oIx (cVar 6) (cK (.int 2))))) (cAnd (c2 oEq (c2 oIx (cVar 6) (cK (.int 0))) (cK (.str "sure"))) (c2 oEq (c2 oIx (cVar 0) (cK (.int 2))) (cTup (cCons (c2 oIx (cVar 6) (cK (.int 1))) (cCons (cVar 4) cNil))))))) b_law_written_12
def b_law_written_10:MS:=
  cSeq (cIfS (cT (c2 oEq (c2 oIx (cVar 6) (cK (.int 0))) (cK (.str "add")))) (cRet (cAnd (c2 oEq (cVar 11) (c2 oAdd (cVar 10) (c2 oIx (cVar 6) (cK (.int 2))))) (c2 oEq (cVar 3) (cVar 11)))) cPass) b_law_written_11
def b_law_written_9:MS:=
  cSeq (cIfS (cT (c2 oEq (c2 oIx (cVar 6) (cK (.int 0))) (cK (.str "put")))) (cRet (cAnd (c2 oEq (cVar 11) (c2 oIx (cVar 6) (cK (.int 2)))) (c2 oEq (cVar 3) (cVar 10)))) cPass) b_law_written_10
def b_law_written_8:MS:=
  cSeq (cIfS (cT (c2 oNeD (cVar 8) (cVar 9))) (cRet (cK (.bl false))) cPass) b_law_written_9
def b_law_written_7:MS:=
  cSeq (cDPop 11 9 (cVar 7) (cK (.int 0))) b_law_written_8
def b_law_written_6:MS:=
  cSeq (cDPop 10 8 (cVar 7) (cK (.int 0))) b_law_written_7
def b_law_written_5:MS:=
  cSeq (cKSet 9 m_law_cells (cCons (cVar 1) cNil)) b_law_written_6
def b_law_written_4:MS:=
  cSeq (cKSet 8 m_law_cells (cCons (cVar 0) cNil)) b_law_written_5
def b_law_written_3:MS:=
  cSeq (cIfS (cT (c2 oEq (c2 oIx (cVar 6) (cK (.int 0))) (cK (.str "sure")))) (cSet 7 (c2 oIx (cVar 6) (cK (.int 2)))) cPass) b_law_written_4
def b_law_written_2:MS:=
  cSeq (cSet 7 (c2 oIx (cVar 6) (cK (.int 1)))) b_law_written_3
def b_law_written_1:MS:=
  cSeq (cIfS (tOrM (cT (c2 oNe (c2 oIx (cVar 1) (cK (.int 2))) (c2 oIx (cVar 0) (cK (.int 2))))) (cT (c2 oNotN (c2 oIx (cVar 1) (cK (.int 3))) (cK (.non))))) (cRet (cK (.bl false))) cPass) b_law_written_2
def b_law_written:MS:=
  cSeq (cUnp [4,5,6] (cVar 2)) b_law_written_1
def m_law_written:MF:=fnOf 4 13 b_law_written
theorem has_law_written (T:Txt P w K mg base):Has P w K mg base "_law_written" ["ahead","slate","row","answer"] 2 (spF K mg m_law_written):=by
 show Has P w K mg base _ _ _ (spF K mg (fnOf 4 13 b_law_written))
 refine has_of (k:=1) T.d_law_written sc_law_written rfl rfl fun f cdv A outer s H E hr=>?_
 have hu:=hr.units
 refine @WSs.un _ _ _ _ ?_
 refine @wss_cons _ _ _ _ _ _ ?_ (@wss_cons _ _ _ _ _ _ ?_ (@wss_cons _ _ _ _ _ _ ?_ (@wss_cons _ _ _ _ _ _ ?_ (@wss_cons _ _ _ _ _ _ ?_ (@wss_cons _ _ _ _ _ _ ?_ (@wss_cons _ _ _ _ _ _ ?_ (@wss_cons _ _ _ _ _ _ ?_ (@wss_cons _ _ _ _ _ _ ?_ (@wss_cons _ _ _ _ _ _ ?_ (@wss_cons _ _ _ _ _ _ ?_ (@wss_cons _ _ _ _ _ _ ?_ (@wss_cons _ _ _ _ _ _ ?_ (@wss_one _ _ _ _ ?_)))))))))))))
 ·exact (ws_unp rfl (pgs_names_cons sc_law_written.nd rfl (Or.inl rfl) (pgs_names_cons sc_law_written.nd rfl (Or.inl rfl) (pgs_names_cons sc_law_written.nd rfl (Or.inl rfl) pgs_names_nil))) (we_var 2))
 ·exact (ws_if (WW.ct (ww_or (wt_cmp (op_neD hu) bNe (we_ix ix_seq bIx (we_var 1) we_int (fun _ _=>rfl)) (we_ix ix_seq bIx (we_var 0) we_int (fun _ _=>rfl)) (nomark _)) (ww_or1 (wt_cmp op_notN bNotN (we_ix ix_seq bIx (we_var 1) we_int (fun _ _=>rfl)) we_non (nomark _))))) (wss_one (ws_ret we_bl)) wss_nil)
 ·exact (ws_set (i:=7) sc_law_written.nd rfl (Or.inl rfl) (we_ix ix_seq bIx (we_var 6) we_int (fun _ _=>rfl)))
 ·exact (ws_if (wt_cmp (op_eqD hu) bEq (we_ix ix_seq bIx (we_var 6) we_int (fun _ _=>rfl)) we_str (nomark _)) (wss_one (ws_set (i:=7) sc_law_written.nd rfl (Or.inl rfl) (we_ix ix_seq bIx (we_var 6) we_int (fun _ _=>rfl)))) wss_nil)
 ·exact (ws_kset (i:=8) (has_law_cells T) (hr.mono (by omega)) rfl (wa_cons (we_var 0) wa_nil) sc_law_written.nd rfl (Or.inl rfl))
 ·exact (ws_kset (i:=9) (has_law_cells T) (hr.mono (by omega)) rfl (wa_cons (we_var 1) wa_nil) sc_law_written.nd rfl (Or.inl rfl))
 ·exact (ws_dpop (i:=10) (j:=8) rfl (Or.inl rfl) sc_law_written.nd rfl (Or.inl rfl) (we_var 7) we_int)
 ·exact (ws_dpop (i:=11) (j:=9) rfl (Or.inl rfl) sc_law_written.nd rfl (Or.inl rfl) (we_var 7) we_int)
 ·exact (ws_if (wt_cmp (or_neD hu) bNeD (we_var 8) (we_var 9) (nomark _)) (wss_one (ws_ret we_bl)) wss_nil)
 ·exact (ws_if (wt_cmp (op_eqD hu) bEq (we_ix ix_seq bIx (we_var 6) we_int (fun _ _=>rfl)) we_str (nomark _)) (wss_one (ws_ret (we_and (we_cmp (op_eqD hu) bEq (we_var 11) (we_ix ix_seq bIx (we_var 6) we_int (fun _ _=>rfl)) (nomark _)) (we_one (we_cmp (op_eqD hu) bEq (we_var 3) (we_var 10) (nomark _)))))) wss_nil)
 ·exact (ws_if (wt_cmp (op_eqD hu) bEq (we_ix ix_seq bIx (we_var 6) we_int (fun _ _=>rfl)) we_str (nomark _)) (wss_one (ws_ret (we_and (we_cmp (op_eqD hu) bEq (we_var 11) (we_op op_add bAdd (we_var 10) (we_ix ix_seq bIx (we_var 6) we_int (fun _ _=>rfl))) (nomark _)) (we_one (we_cmp (op_eqD hu) bEq (we_var 3) (we_var 11) (nomark _)))))) wss_nil)
 ·exact (ws_set (i:=12) sc_law_written.nd rfl (Or.inl rfl) (we_or (we_and (we_cmp (op_eqD hu) bEq (we_ix ix_seq bIx (we_var 6) we_int (fun _ _=>rfl)) we_str (nomark _)) (we_one (we_cmp (op_eqD hu) bEq (we_var 10) (we_ix ix_seq bIx (we_var 6) we_int (fun _ _=>rfl)) (nomark _)))) (we_one (we_and (we_cmp (op_eqD hu) bEq (we_ix ix_seq bIx (we_var 6) we_int (fun _ _=>rfl)) we_str (nomark _)) (we_one (we_cmp (op_eqD hu) bEq (we_ix ix_seq bIx (we_var 0) we_int (fun _ _=>rfl)) (we_tup (wa_cons (we_ix ix_seq bIx (we_var 6) we_int (fun _ _=>rfl)) (wa_cons (we_var 4) wa_nil))) (nomark _)))))))
 ·exact (ws_if (wt_val (we_var 12)) (wss_one (ws_ret (we_and (we_cmp (op_eqD hu) bEq (we_var 11) (we_ix ix_seq bIx (we_var 6) we_int (fun _ _=>rfl)) (nomark _)) (we_one (we_cmp (op_eqD hu) bEq (we_var 3) we_int (nomark _)))))) wss_nil)
 ·exact (ws_ret (we_and (we_cmp (op_eqD hu) bEq (we_var 11) (we_var 10) (nomark _)) (we_one (we_cmp (op_eqD hu) bEq (we_var 3) we_int (nomark _)))))
def l_law_step_0:MS:=
  (cDPut 6 (c2 oIx (cVar 7) (cK (.int 0))) (cVar 7))
def l_law_step_1:MS:=
  (cIfS (cT (c2 oEq (c2 oIx (cVar 7) (cK (.int 0))) (cVar 3))) (cSet 8 (c2 oIx (cVar 7) (cK (.int 2)))) cPass)
def b_law_step_9:MS:=
  (cRet (cCall m_law_written (cCons (cVar 0) (cCons (cVar 1) (cCons (cVar 2) (cCons (cVar 8) cNil))))))
def b_law_step_8:MS:=
  cSeq (cIfS (cT (c2 (oIn false) (c2 oIx (cVar 5) (cK (.int 0))) (cTup (cCons (cK (.str "take")) (cCons (cK (.str "renew")) (cCons (cK (.str "free")) cNil)))))) (cRet (cCall m_law_leased (cCons (cVar 0) (cCons (cVar 1) (cCons (cVar 2) (cCons (cVar 8) cNil)))))) cPass) b_law_step_9
def b_law_step_7:MS:=
  cSeq (cIfS (tOrM (cT (c2 oEq (c2 oIx (cVar 5) (cK (.int 0))) (cK (.str "end")))) (cT (c2 oEq (c2 oIx (cVar 5) (cK (.int 0))) (cK (.str "move"))))) (cSeq (cSet 9 (cK (.str "over")))
  (cSeq (cIfS (cT (c2 oEq (c2 oIx (cVar 5) (cK (.int 0))) (cK (.str "move")))) (cSet 9 (c2 oIx (cVar 5) (cK (.int 1)))) cPass)
  (cRet (cAnd (c2 oEq (c2 oIx (cVar 1) (cK (.int 0))) (c2 oIx (cVar 0) (cK (.int 0)))) (cAnd (c2 oEq (c2 oIx (cVar 1) (cK (.int 2))) (c2 oIx (cVar 0) (cK (.int 2)))) (cAnd (c2 oEq (c2 oIx (cVar 1) (cK (.int 3))) (cVar 9)) (c2 oEq (cVar 8) (cK (.int 1))))))))) cPass) b_law_step_8
def b_law_step_6:MS:=
  cSeq (cIfS (cT (c2 oNe (c2 oIx (cVar 1) (cK (.int 1))) (cB fTuple (cCons (cComp 1 [6] (iLc (cB (fSortP koInt) (cCons (cVar 6) cNil))) tYes (c2 oDIx (cVar 1) (cVar 0))) cNil)))) (cRet (cK (.bl false))) cPass) b_law_step_7
def b_law_step_5:MS:=
  cSeq (cDPut 6 (cVar 3) (cTup (cCons (cVar 3) (cCons (cVar 4) (cCons (cVar 8) cNil))))) b_law_step_6
def b_law_step_4:MS:=
  cSeq (cFor 7 (iT (c2 oIx (cVar 1) (cK (.int 1)))) l_law_step_1) b_law_step_5
def b_law_step_3:MS:=
  cSeq (cSet 8 (cK (.non))) b_law_step_4
def b_law_step_2:MS:=
  cSeq (cFor 7 (iT (c2 oIx (cVar 0) (cK (.int 1)))) l_law_step_0) b_law_step_3
def b_law_step_1:MS:=
  cSeq (cDNew 6) b_law_step_2
def b_law_step:MS:=
  cSeq (cUnp [3,4,5] (cVar 2)) b_law_step_1
def m_law_step:MF:=fnOf 3 10 b_law_step
theorem has_law_step (T:Txt P w K mg base):Has P w K mg base "_law_step" ["ahead","slate","row"] 3 (spF K mg m_law_step):=by
 show Has P w K mg base _ _ _ (spF K mg (fnOf 3 10 b_law_step))
 refine has_of (k:=2) T.d_law_step sc_law_step rfl rfl fun f cdv A outer s H E hr=>?_
 have hu:=hr.units
 refine @WSs.un _ _ _ _ ?_
 refine @wss_cons _ _ _ _ _ _ ?_ (@wss_cons _ _ _ _ _ _ ?_ (@wss_cons _ _ _ _ _ _ ?_ (@wss_cons _ _ _ _ _ _ ?_ (@wss_cons _ _ _ _ _ _ ?_ (@wss_cons _ _ _ _ _ _ ?_ (@wss_cons _ _ _ _ _ _ ?_ (@wss_cons _ _ _ _ _ _ ?_ (@wss_cons _ _ _ _ _ _ ?_ (@wss_one _ _ _ _ ?_)))))))))
 ·exact (ws_unp rfl (pgs_names_cons sc_law_step.nd rfl (Or.inl rfl) (pgs_names_cons sc_law_step.nd rfl (Or.inl rfl) (pgs_names_cons sc_law_step.nd rfl (Or.inl rfl) pgs_names_nil))) (we_var 2))
 ·exact (ws_dnew (j:=6) sc_law_step.nd rfl (Or.inr rfl))
 ·exact (ws_for (i:=7) PassesOwn.never rfl (wf_tup (we_ix ix_seq bIx (we_var 0) we_int (fun _ _=>rfl))) sc_law_step.nd rfl (Or.inl rfl) (wss_one (ws_dput (j:=6) hu rfl (Or.inr (Or.inl rfl)) (we_ix ix_seq bIx (we_var 7) we_int (fun _ _=>rfl)) (we_var 7))))
 ·exact (ws_set (i:=8) sc_law_step.nd rfl (Or.inl rfl) we_non)
 ·exact (ws_for (i:=7) PassesOwn.never rfl (wf_tup (we_ix ix_seq bIx (we_var 1) we_int (fun _ _=>rfl))) sc_law_step.nd rfl (Or.inl rfl) (wss_one (ws_if (wt_cmp (op_eqD hu) bEq (we_ix ix_seq bIx (we_var 7) we_int (fun _ _=>rfl)) (we_var 3) (nomark _)) (wss_one (ws_set (i:=8) sc_law_step.nd rfl (Or.inl rfl) (we_ix ix_seq bIx (we_var 7) we_int (fun _ _=>rfl)))) wss_nil)))
 ·exact (ws_dput (j:=6) hu rfl (Or.inr (Or.inl rfl)) (we_var 3) (we_tup (wa_cons (we_var 3) (wa_cons (we_var 4) (wa_cons (we_var 8) wa_nil)))))
 ·exact (ws_if (wt_cmp (op_neD hu) bNe (we_ix ix_seq bIx (we_var 1) we_int (fun _ _=>rfl)) (we_callTy call_tuple_of kTuple rfl T.B.tuple' bt_tuple (wa_cons (we_comp (esc:=(defScope s_law_step)) (EN:=["ahead","slate","row","asker","number","deed","doings","doing","answer","shut"]) (N:=["one","doings"]) (n:=1) (cap:=[6]) ⟨rfl,by decide +kernel,by decide +kernel,by decide +kernel,by decide +kernel,rfl,by decide +kernel⟩ (by decide) (wc_list (we_callB (call_sortP rfl koInt_ok) (kSortP koInt_ok) rfl T.B.sorted bt_sorted (wa_cons (we_var 6) wa_nil))) rfl (fun _ _ _ _=>⟨Or.inl rfl,rfl⟩) (fun _ _ _ _=>wfs_nil) (fun _ _ _ _=>(we_dix hu (we_var 1) (we_var 0)))) wa_nil)) (nomark _)) (wss_one (ws_ret we_bl)) wss_nil)
 ·exact (ws_if (WW.ct (ww_or (wt_cmp (op_eqD hu) bEq (we_ix ix_seq bIx (we_var 5) we_int (fun _ _=>rfl)) we_str (nomark _)) (ww_or1 (wt_cmp (op_eqD hu) bEq (we_ix ix_seq bIx (we_var 5) we_int (fun _ _=>rfl)) we_str (nomark _))))) (wss_cons (ws_set (i:=9) sc_law_step.nd rfl (Or.inl rfl) we_str)
  (wss_cons (ws_if (wt_cmp (op_eqD hu) bEq (we_ix ix_seq bIx (we_var 5) we_int (fun _ _=>rfl)) we_str (nomark _)) (wss_one (ws_set (i:=9) sc_law_step.nd rfl (Or.inl rfl) (we_ix ix_seq bIx (we_var 5) we_int (fun _ _=>rfl)))) wss_nil)
  (wss_one (ws_ret (we_and (we_cmp (op_eqD hu) bEq (we_ix ix_seq bIx (we_var 1) we_int (fun _ _=>rfl)) (we_ix ix_seq bIx (we_var 0) we_int (fun _ _=>rfl)) (nomark _)) (we_and (we_cmp (op_eqD hu) bEq (we_ix ix_seq bIx (we_var 1) we_int (fun _ _=>rfl)) (we_ix ix_seq bIx (we_var 0) we_int (fun _ _=>rfl)) (nomark _)) (we_and (we_cmp (op_eqD hu) bEq (we_ix ix_seq bIx (we_var 1) we_int (fun _ _=>rfl)) (we_var 9) (nomark _)) (we_one (we_cmp (op_eqD hu) bEq (we_var 8) we_int (nomark _)))))))))) wss_nil)
 ·exact (ws_if (wt_cmp op_in_seq (bIn false) (we_ix ix_seq bIx (we_var 5) we_int (fun _ _=>rfl)) (we_tup (wa_cons we_str (wa_cons we_str (wa_cons we_str wa_nil)))) rfl) (wss_one (ws_ret (we_call (has_law_leased T) (hr.mono (by omega)) rfl (wa_cons (we_var 0) (wa_cons (we_var 1) (wa_cons (we_var 2) (wa_cons (we_var 8) wa_nil))))))) wss_nil)
 ·exact (ws_ret (we_call (has_law_written T) (hr.mono (by omega)) rfl (wa_cons (we_var 0) (wa_cons (we_var 1) (wa_cons (we_var 2) (wa_cons (we_var 8) wa_nil))))))
def l_law_walked_0:MS:=
  (cSeq (cUnp [7,8,9] (c2 oIx (cVar 1) (cVar 6)))
  (cSeq (cIfS (tNotM (cT (cCall m_law_form (cCons (c2 oIx (cVar 0) (cVar 6)) cNil)))) (cRet (cK (.non))) cPass)
  (cSeq (cIfS (tOrM (cT (c2 oIsN (cVar 9) (cK (.non)))) (tOrM (tNotM (cT (cVar 3))) (cT (c2 oLe (cVar 8) (cDGet2 (cVar 4) (cVar 7) (cK (.int 0))))))) (cIfS (cT (c2 oNe (c2 oIx (cVar 0) (cVar 6)) (cVar 2))) (cRet (cK (.non))) cPass) (cSeq (cIfS (tNotM (cT (cCall m_law_step (cCons (cVar 2) (cCons (c2 oIx (cVar 0) (cVar 6)) (cCons (c2 oIx (cVar 1) (cVar 6)) cNil)))))) (cRet (cK (.non))) cPass)
  (cSeq (cDPut 4 (cVar 7) (cVar 8))
  (cSeq (cSet 3 (cAnd (c2 oNe (c2 oIx (cVar 9) (cK (.int 0))) (cK (.str "end"))) (c2 oNe (c2 oIx (cVar 9) (cK (.int 0))) (cK (.str "move")))))
  (cMutS 5 uAppend (cCons (cVar 6) cNil))))))
  (cSet 2 (c2 oIx (cVar 0) (cVar 6))))))
def b_law_walked_5:MS:=
  (cRetO 5)
def b_law_walked_4:MS:=
  cSeq (cFor 6 (iR1 (cCons (cB fLen (cCons (cVar 1) cNil)) cNil)) l_law_walked_0) b_law_walked_5
def b_law_walked_3:MS:=
  cSeq (cOwn 5 (cLst cNil)) b_law_walked_4
def b_law_walked_2:MS:=
  cSeq (cDNew 4) b_law_walked_3
def b_law_walked_1:MS:=
  cSeq (cSet 3 (cK (.bl true))) b_law_walked_2
def b_law_walked:MS:=
  cSeq (cSet 2 (cTup (cCons (cTup cNil) (cCons (cTup cNil) (cCons (cTup (cCons (cK (.int 0)) (cCons (cK (.non)) cNil))) (cCons (cK (.non)) cNil)))))) b_law_walked_1
def m_law_walked:MF:=fnOf 2 10 b_law_walked
theorem has_law_walked (T:Txt P w K mg base):Has P w K mg base "_law_walked" ["told","rows"] 16 (spF K mg m_law_walked):=by
 show Has P w K mg base _ _ _ (spF K mg (fnOf 2 10 b_law_walked))
 refine has_of (k:=15) T.d_law_walked sc_law_walked rfl rfl fun f cdv A outer s H E hr=>?_
 have hu:=hr.units
 refine @WSs.un _ _ _ _ ?_
 refine @wss_cons _ _ _ _ _ _ ?_ (@wss_cons _ _ _ _ _ _ ?_ (@wss_cons _ _ _ _ _ _ ?_ (@wss_cons _ _ _ _ _ _ ?_ (@wss_cons _ _ _ _ _ _ ?_ (@wss_one _ _ _ _ ?_)))))
 ·exact (ws_set (i:=2) sc_law_walked.nd rfl (Or.inl rfl) (we_tup (wa_cons (we_tup wa_nil) (wa_cons (we_tup wa_nil) (wa_cons (we_tup (wa_cons we_int (wa_cons we_non wa_nil))) (wa_cons we_non wa_nil))))))
 ·exact (ws_set (i:=3) sc_law_walked.nd rfl (Or.inl rfl) we_bl)
 ·exact (ws_dnew (j:=4) sc_law_walked.nd rfl (Or.inl rfl))
 ·exact (ws_own (i:=5) sc_law_walked.nd rfl (Or.inl rfl) (we_lst wa_nil))
 ·exact (ws_for (i:=6) PassesOwn.never rfl (wf_range1 rfl T.B.range (wa_cons (we_callB call_len_seq kLen rfl T.B.len bt_len (wa_cons (we_var 1) wa_nil)) wa_nil)) sc_law_walked.nd rfl (Or.inl rfl) (wss_cons (ws_unp rfl (pgs_names_cons sc_law_walked.nd rfl (Or.inl rfl) (pgs_names_cons sc_law_walked.nd rfl (Or.inl rfl) (pgs_names_cons sc_law_walked.nd rfl (Or.inl rfl) pgs_names_nil))) (we_ix ix_seq bIx (we_var 1) (we_var 6) (fun _ _=>rfl)))
  (wss_cons (ws_if (wt_not (wt_val (we_call (has_law_form T) (hr.mono (by omega)) rfl (wa_cons (we_ix ix_seq bIx (we_var 0) (we_var 6) (fun _ _=>rfl)) wa_nil)))) (wss_one (ws_ret we_non)) wss_nil)
  (wss_cons (ws_if (WW.ct (ww_or (wt_cmp op_isN bIsN (we_var 9) we_non (nomark _)) (ww_or (wt_not (wt_val (we_var 3))) (ww_or1 (wt_cmp op_le bLe (we_var 8) (we_dget2 hu (we_var 4) (we_var 7) we_int) (nomark _)))))) (wss_one (ws_if (wt_cmp (op_neD hu) bNe (we_ix ix_seq bIx (we_var 0) (we_var 6) (fun _ _=>rfl)) (we_var 2) (nomark _)) (wss_one (ws_ret we_non)) wss_nil)) (wss_cons (ws_if (wt_not (wt_val (we_call (has_law_step T) (hr.mono (by omega)) rfl (wa_cons (we_var 2) (wa_cons (we_ix ix_seq bIx (we_var 0) (we_var 6) (fun _ _=>rfl)) (wa_cons (we_ix ix_seq bIx (we_var 1) (we_var 6) (fun _ _=>rfl)) wa_nil)))))) (wss_one (ws_ret we_non)) wss_nil)
  (wss_cons (ws_dput (j:=4) hu rfl (Or.inl rfl) (we_var 7) (we_var 8))
  (wss_cons (ws_set (i:=3) sc_law_walked.nd rfl (Or.inl rfl) (we_and (we_cmp (op_neD hu) bNe (we_ix ix_seq bIx (we_var 9) we_int (fun _ _=>rfl)) we_str (nomark _)) (we_one (we_cmp (op_neD hu) bNe (we_ix ix_seq bIx (we_var 9) we_int (fun _ _=>rfl)) we_str (nomark _)))))
  (wss_one (ws_mut (i:=5) PySem.F.slot_list_append PySem.F.type_list_append mt_append mAppend (wa_cons (we_var 6) wa_nil) rfl (Or.inl rfl)))))))
  (wss_one (ws_set (i:=2) sc_law_walked.nd rfl (Or.inl rfl) (we_ix ix_seq bIx (we_var 0) (we_var 6) (fun _ _=>rfl))))))))
 ·exact (ws_retO 5)
def l_law_0:MS:=
  (cSeq (cSet 9 (c2 oIx (c2 oIx (cVar 2) (cVar 8)) (cK (.int 2))))
  (cSeq (cIfS (tAndM (cT (c2 oEq (c2 oIx (cVar 9) (cK (.int 0))) (cK (.str "add")))) (cT (c2 oEq (c2 oIx (cVar 9) (cK (.int 1))) (c2 oIx (cVar 1) (cK (.int 3)))))) (cSet 6 (c2 oAdd (cVar 6) (c2 oIx (cVar 9) (cK (.int 2))))) cPass)
  (cIfS (cT (c2 (oIn false) (c2 oIx (cVar 9) (cK (.int 0))) (cTup (cCons (cK (.str "take")) (cCons (cK (.str "renew")) (cCons (cK (.str "free")) cNil)))))) (cSeq (cSet 10 (cComp 1 [2,8] (iT (c2 oIx (c2 oIx (cVar 4) (cVar 8)) (cK (.int 1)))) (cT (c2 oEq (c2 oIx (cVar 0) (cK (.int 0))) (c2 oIx (c2 oIx (cVar 1) (cVar 2)) (cK (.int 0))))) (c2 oIx (cVar 0) (cK (.int 2)))))
  (cSet 7 (c2 oAdd (cVar 7) (c2 oIx (c2 oIx (cVar 10) (cK (.int 0))) (cK (.int 0)))))) cPass)))
def b_law_15:MS:=
  (cRet (c2 oEq (c2 oIx (c2 oIx (c2 oIx (cVar 4) (c1 oNeg (cK (.int 1)))) (cK (.int 2))) (cK (.int 0))) (cVar 7)))
def b_law_14:MS:=
  cSeq (cIfS (tAndM (cT (c2 (oIn true) (c2 oIx (cVar 1) (cK (.int 3))) (cSl (cVar 1) cNoPart (cPart (cK (.int 3)))))) (cT (c2 oNe (cDGet2 (cKCall m_law_cells (cCons (c2 oIx (cVar 4) (c1 oNeg (cK (.int 1)))) cNil)) (c2 oIx (cVar 1) (cK (.int 3))) (cK (.int 0))) (cVar 6)))) (cRet (cK (.bl false))) cPass) b_law_15
def b_law_13:MS:=
  cSeq (cIfS (tOrM (tNotM (cT (cB fIsi (cCons (cVar 12) (cCons (cK (.ty "list")) cNil))))) (cT (c2 oNe (cVar 12) (cSl (cVar 4) (cPart (c2 oAdd (cVar 11) (cK (.int 1)))) cNoPart)))) (cRet (cK (.bl false))) cPass) b_law_14
def b_law_12:MS:=
  cSeq (cSet 12 (cCall m_along (cCons (c2 oIx (cVar 4) (cVar 11)) (cCons (cSl (cVar 2) (cPart (c2 oAdd (cVar 11) (cK (.int 1)))) cNoPart) cNil)))) b_law_13
def b_law_11:MS:=
  cSeq (cSet 11 (c2 oMod (cCall m_law_cell_at (cCons (cVar 0) (cCons (cK (.int 2)) cNil))) (cB fLen (cCons (cVar 2) cNil)))) b_law_12
def b_law_10:MS:=
  cSeq (cFor 8 (iL (cVar 5)) l_law_0) b_law_11
def b_law_9:MS:=
  cSeq (cSet 7 (cK (.int 0))) b_law_10
def b_law_8:MS:=
  cSeq (cSet 6 (cK (.int 0))) b_law_9
def b_law_7:MS:=
  cSeq (cIfS (cT (c2 oEq (cB fLen (cCons (cVar 2) cNil)) (cK (.int 0)))) (cRet (cK (.bl true))) cPass) b_law_8
def b_law_6:MS:=
  cSeq (cIfS (cT (c2 oIsN (cVar 5) (cK (.non)))) (cRet (cK (.bl false))) cPass) b_law_7
def b_law_5:MS:=
  cSeq (cSet 5 (cCall m_law_walked (cCons (cVar 4) (cCons (cVar 2) cNil)))) b_law_6
def b_law_4:MS:=
  cSeq (cIfS (tOrM (tNotM (cT (cB fIsi (cCons (cVar 4) (cCons (cK (.ty "list")) cNil))))) (tOrM (cT (c2 oNe (cB fLen (cCons (cVar 4) cNil)) (cB fLen (cCons (cVar 2) cNil)))) (cT (c2 oNe (cVar 3) (cVar 2))))) (cRet (cK (.bl false))) cPass) b_law_5
def b_law_3:MS:=
  cSeq (cSet 4 (cCall m_along (cCons (cTup (cCons (cTup cNil) (cCons (cTup cNil) (cCons (cTup (cCons (cK (.int 0)) (cCons (cK (.non)) cNil))) (cCons (cK (.non)) cNil))))) (cCons (cVar 3) cNil)))) b_law_4
def b_law_2:MS:=
  cSeq (cSet 3 (cB fList (cCons (cVar 2) cNil))) b_law_3
def b_law_1:MS:=
  cSeq (cSet 2 (cCall m_law_rows (cCons (cVar 0) (cCons (cVar 1) cNil)))) b_law_2
def b_law:MS:=
  cSeq (cSet 1 (cCall m_law_pool (cCons (cVar 0) cNil))) b_law_1
def m_law:MF:=fnOf 1 13 b_law
theorem ok_law (T:Txt P w K mg base) {f:Addr} {fd:FuncData} (F:Fun K "law" "law" s_law f fd):FnOk P w K mg base CX0 17 f fd ["script"] (spF K mg m_law):=by
 show FnOk P w K mg base CX0 _ f fd _ (spF K mg (fnOf 1 13 b_law))
 refine fn_sim (k:=16) F sc_law rfl rfl fun cdv A outer s H E hr=>?_
 have hu:=hr.units
 refine @WSs.un _ _ _ _ ?_
 refine @wss_cons _ _ _ _ _ _ ?_ (@wss_cons _ _ _ _ _ _ ?_ (@wss_cons _ _ _ _ _ _ ?_ (@wss_cons _ _ _ _ _ _ ?_ (@wss_cons _ _ _ _ _ _ ?_ (@wss_cons _ _ _ _ _ _ ?_ (@wss_cons _ _ _ _ _ _ ?_ (@wss_cons _ _ _ _ _ _ ?_ (@wss_cons _ _ _ _ _ _ ?_ (@wss_cons _ _ _ _ _ _ ?_ (@wss_cons _ _ _ _ _ _ ?_ (@wss_cons _ _ _ _ _ _ ?_ (@wss_cons _ _ _ _ _ _ ?_ (@wss_cons _ _ _ _ _ _ ?_ (@wss_cons _ _ _ _ _ _ ?_ (@wss_one _ _ _ _ ?_)))))))))))))))
 ·exact (ws_set (i:=1) sc_law.nd rfl (Or.inl rfl) (we_call (has_law_pool T) (hr.mono (by omega)) rfl (wa_cons (we_var 0) wa_nil)))
 ·exact (ws_set (i:=2) sc_law.nd rfl (Or.inr rfl) (we_call (has_law_rows T) (hr.mono (by omega)) rfl (wa_cons (we_var 0) (wa_cons (we_var 1) wa_nil))))
 ·exact (ws_set (i:=3) sc_law.nd rfl (Or.inl rfl) (we_callTy call_list_of kList rfl T.B.list' bt_list (wa_cons (we_var 2) wa_nil)))
 ·exact (ws_set (i:=4) sc_law.nd rfl (Or.inl rfl) (we_call (has_along T) (hr.mono (by omega)) rfl (wa_cons (we_tup (wa_cons (we_tup wa_nil) (wa_cons (we_tup wa_nil) (wa_cons (we_tup (wa_cons we_int (wa_cons we_non wa_nil))) (wa_cons we_non wa_nil))))) (wa_cons (we_var 3) wa_nil))))
 ·exact (ws_if (WW.ct (ww_or (wt_not (wt_val (we_callB (call_isi T.kt) kIsi rfl T.B.isinstance bt_isinstance (wa_cons (we_var 4) (wa_cons (we_k (pe_bltn (v:=.ty "list") rfl T.B.list' bt_list rfl) fun _ _=>rfl) wa_nil))))) (ww_or (wt_cmp (op_neD hu) bNe (we_callB call_len_seq kLen rfl T.B.len bt_len (wa_cons (we_var 4) wa_nil)) (we_callB call_len_seq kLen rfl T.B.len bt_len (wa_cons (we_var 2) wa_nil)) (nomark _)) (ww_or1 (wt_cmp (op_neD hu) bNe (we_var 3) (we_var 2) (nomark _)))))) (wss_one (ws_ret we_bl)) wss_nil)
 ·exact (ws_set (i:=5) sc_law.nd rfl (Or.inl rfl) (we_call (has_law_walked T) (hr.mono (by omega)) rfl (wa_cons (we_var 4) (wa_cons (we_var 2) wa_nil))))
 ·exact (ws_if (wt_cmp op_isN bIsN (we_var 5) we_non (nomark _)) (wss_one (ws_ret we_bl)) wss_nil)
 ·exact (ws_if (wt_cmp (op_eqD hu) bEq (we_callB call_len_seq kLen rfl T.B.len bt_len (wa_cons (we_var 2) wa_nil)) we_int (nomark _)) (wss_one (ws_ret we_bl)) wss_nil)
 ·exact (ws_set (i:=6) sc_law.nd rfl (Or.inl rfl) we_int)
 ·exact (ws_set (i:=7) sc_law.nd rfl (Or.inl rfl) we_int)
 ·exact (ws_for (i:=8) PassesOwn.never rfl (wf_list (we_var 5)) sc_law.nd rfl (Or.inr rfl) (wss_cons (ws_set (i:=9) sc_law.nd rfl (Or.inl rfl) (we_ix ix_seq bIx (we_ix ix_seq bIx (we_var 2) (we_var 8) (fun _ _=>rfl)) we_int (fun _ _=>rfl)))
  (wss_cons (ws_if (WW.ct (ww_and (wt_cmp (op_eqD hu) bEq (we_ix ix_seq bIx (we_var 9) we_int (fun _ _=>rfl)) we_str (nomark _)) (ww_and1 (wt_cmp (op_eqD hu) bEq (we_ix ix_seq bIx (we_var 9) we_int (fun _ _=>rfl)) (we_ix ix_seq bIx (we_var 1) we_int (fun _ _=>rfl)) (nomark _))))) (wss_one (ws_set (i:=6) sc_law.nd rfl (Or.inl rfl) (we_op op_add bAdd (we_var 6) (we_ix ix_seq bIx (we_var 9) we_int (fun _ _=>rfl))))) wss_nil)
  (wss_one (ws_if (wt_cmp op_in_seq (bIn false) (we_ix ix_seq bIx (we_var 9) we_int (fun _ _=>rfl)) (we_tup (wa_cons we_str (wa_cons we_str (wa_cons we_str wa_nil)))) rfl) (wss_cons (ws_asgS (i:=10) (esc:=(defScope s_law)) (EN:=["script","pool","rows","handed","told","done_rows","total","lent_v","k","deed","answer","cut","again"]) (N:=["doing","rows","k"]) (n:=1) (cap:=[2,8]) ⟨rfl,by decide +kernel,by decide +kernel,by decide +kernel,by decide +kernel,rfl,by decide +kernel⟩ sc_law.nd rfl rfl (by decide) (wc_tup (we_ix ix_seq bIx (we_ix ix_seq bIx (we_var 4) (we_var 8) (fun _ _=>rfl)) we_int (fun _ _=>rfl))) rfl (fun _ _ _ _=>⟨Or.inl rfl,rfl⟩) (fun _ _ _ _=>(wfs_one (wt_cmp (op_eqD hu) bEq (we_ix ix_seq bIx (we_var 0) we_int (fun _ _=>rfl)) (we_ix ix_seq bIx (we_ix ix_seq bIx (we_var 1) (we_var 2) (fun _ _=>rfl)) we_int (fun _ _=>rfl)) (nomark _)))) (fun _ _ _ _=>(we_ix ix_seq bIx (we_var 0) we_int (fun _ _=>rfl))))
  (wss_one (ws_set (i:=7) sc_law.nd rfl (Or.inl rfl) (we_op op_add bAdd (we_var 7) (we_ix ix_seq bIx (we_ix ix_seq bIx (we_var 10) we_int (fun _ _=>rfl)) we_int (fun _ _=>rfl)))))) wss_nil)))))
 ·exact (ws_set (i:=11) sc_law.nd rfl (Or.inl rfl) (we_op op_mod bMod (we_call (has_law_cell_at T) (hr.mono (by omega)) rfl (wa_cons (we_var 0) (wa_cons we_int wa_nil))) (we_callB call_len_seq kLen rfl T.B.len bt_len (wa_cons (we_var 2) wa_nil))))
 ·exact (ws_set (i:=12) sc_law.nd rfl (Or.inl rfl) (we_call (has_along T) (hr.mono (by omega)) rfl (wa_cons (we_ix ix_seq bIx (we_var 4) (we_var 11) (fun _ _=>rfl)) (wa_cons (we_slice (we_var 2) (wo_some (we_op op_add bAdd (we_var 11) we_int)) wo_none) wa_nil))))
 ·exact (ws_if (WW.ct (ww_or (wt_not (wt_val (we_callB (call_isi T.kt) kIsi rfl T.B.isinstance bt_isinstance (wa_cons (we_var 12) (wa_cons (we_k (pe_bltn (v:=.ty "list") rfl T.B.list' bt_list rfl) fun _ _=>rfl) wa_nil))))) (ww_or1 (wt_cmp (op_neD hu) bNe (we_var 12) (we_slice (we_var 4) (wo_some (we_op op_add bAdd (we_var 11) we_int)) wo_none) (nomark _))))) (wss_one (ws_ret we_bl)) wss_nil)
 ·exact (ws_if (WW.ct (ww_and (wt_cmp op_notIn_seq (bIn true) (we_ix ix_seq bIx (we_var 1) we_int (fun _ _=>rfl)) (we_slice (we_var 1) wo_none (wo_some we_int)) rfl) (ww_and1 (wt_cmp (op_neD hu) bNe (we_dget2 hu (we_kcall (has_law_cells T) (hr.mono (by omega)) rfl (wa_cons (we_ix ix_seq bIx (we_var 4) (we_neg we_int) (fun _ _=>rfl)) wa_nil)) (we_ix ix_seq bIx (we_var 1) we_int (fun _ _=>rfl)) we_int) (we_var 6) (nomark _))))) (wss_one (ws_ret we_bl)) wss_nil)
 ·exact (ws_ret (we_cmp (op_eqD hu) bEq (we_ix ix_seq bIx (we_ix ix_seq bIx (we_ix ix_seq bIx (we_var 4) (we_neg we_int) (fun _ _=>rfl)) we_int (fun _ _=>rfl)) we_int (fun _ _=>rfl)) (we_var 7) (nomark _)))
end
end K17
namespace L3
open PySem PySem.Spec L2
mutual
def D.wid:D→Bool
 | .tup xs=>decide (xs.length≤1000) && widAll xs
 | .lst xs=>decide (xs.length≤1000) && widAll xs
 | .dic _ _=>true
 | .fn _=>true
 | .ty _=>true
 | .non=>true
 | .bl _=>true
 | .int _=>true
 | .str _=>true
def widAll:List D→Bool
 | []=>true
 | x :: xs=>x.wid && widAll xs
end
theorem widAll_iff:∀{xs:List D},widAll xs=true↔∀x∈xs,x.wid=true
 | []=>by simp [widAll]
 | x :: xs=>by simp [widAll,widAll_iff]
theorem gdAll_iff:∀{xs:List D} {n:Nat},gdAll xs n=true↔∀x∈xs,x.gd n=true
 | [],_=>by simp [gdAll]
 | x :: xs,n=>by simp [gdAll,gdAll_iff]
def Ok (n:Nat) (d:D):Prop:=d.gd n=true∧d.wid=true
theorem ok_non {n:Nat}:Ok n .non:=⟨rfl,rfl⟩
theorem ok_int {n:Nat} {i:Int}:Ok n (.int i):=⟨rfl,rfl⟩
theorem ok_str {n:Nat} {x:Str} (h:PySem.PyData.strOk x=true):Ok n (.str x):=⟨h,rfl⟩
theorem ok_tup {n:Nat} {xs:List D} (hl:xs.length≤1000) (h:∀x∈xs,Ok n x):Ok (n + 1) (.tup xs):=
 ⟨gdAll_iff.mpr fun x hx=>(h x hx).1,by show (decide (xs.length≤1000) && widAll xs)=true;rw [decide_eq_true hl,widAll_iff.mpr fun x hx=>(h x hx).2];rfl⟩
theorem gd_mono:∀{d:D} {n m:Nat},n≤m→d.gd n=true→d.gd m=true:=by
 intro d
 induction d using D.rec (motive_2:=fun ds=>∀n m,n≤m→gdAll ds n=true→gdAll ds m=true) with
 | non=>exact fun _ h=>h
 | bl _=>exact fun _ h=>h
 | int _=>exact fun _ h=>h
 | str _=>exact fun _ h=>h
 | fn _=>exact fun _ h=>h
 | ty _=>exact fun _ h=>h
 | dic _ _ _=>exact fun _ h=>h
 | tup xs ih=>
  intro n m hm h
  cases n with
  | zero=>cases h
  | succ n=>
   cases m with
   | zero=>omega
   | succ m=>exact ih n m (by omega) h
 | lst xs ih=>
  intro n m hm h
  cases n with
  | zero=>cases h
  | succ n=>
   cases m with
   | zero=>omega
   | succ m=>exact ih n m (by omega) h
 | nil=>rfl
 | cons x xs ih1 ih2=>
  rename_i n m hm h
  have h:(x.gd n && gdAll xs n)=true:=h
  rw [Bool.and_eq_true] at h
  show (x.gd m && gdAll xs m)=true
  rw [ih1 hm h.1,ih2 n m hm h.2];rfl
theorem ok_mono {n m:Nat} {d:D} (h:Ok n d) (hm:n≤m):Ok m d:=⟨gd_mono hm h.1,h.2⟩
theorem pick (P:D→Prop) (xs:List D) (c k:Int) (hk:(xs.length:Int)=k) (h0:0 < k) (h:∀x∈xs,P x):∃v,atI xs (c % k)=some v∧P v:=by
 have hm:=mod_lt (a:=c) h0
 obtain ⟨v,e⟩:=atI_some (xs:=xs) (i:=c % k) hm.1 (by rw [hk];exact hm.2)
 exact ⟨v,e,h v (atI_mem e)⟩
@[simp] theorem e_isnw {xs:List D}:R.isN (.vw xs)=false:=rfl
@[simp] theorem e_isnl {xs:List D}:R.isN (.v (.lst xs))=false:=rfl
@[simp] theorem e_isnb {b:Bool}:R.isN (.v (.bl b))=false:=rfl
@[simp] theorem e_lenS {z:Str}:fLenS [.v (.str z)]=if z.length≤sizeLine then pure (.v (.int (z.length:Nat))) else bad:=rfl
@[simp] theorem e_catS {x y:Str}:oCatS (.v (.str x)) (.v (.str y))=if x.length + y.length≤sizeLine then pure (.v (.str (x ++ y))) else bad:=rfl
theorem alpha_len:("abcdefghijklmnopqrstuvwxyz":Str).cps.toList.length=26:=by decide +kernel
theorem alpha_ok:∀c∈("abcdefghijklmnopqrstuvwxyz":Str).cps.toList,c < 0x110000:=by decide +kernel
theorem alpha_at {i:Int} (h0:0≤i) (h:i < 26):∃c,oIx (.v (.str "abcdefghijklmnopqrstuvwxyz")) (.v (.int i))=pure (.v (.str ⟨#[c]⟩))∧c < 0x110000:=by
 obtain ⟨c,e⟩:=atI_some (xs:=("abcdefghijklmnopqrstuvwxyz":Str).cps.toList) (i:=i) h0 (by rw [alpha_len];exact h)
 refine ⟨c,?_,alpha_ok c (atI_mem e)⟩
 show (match atI ("abcdefghijklmnopqrstuvwxyz":Str).cps.toList i with
  | some c=>if ("abcdefghijklmnopqrstuvwxyz":Str).length≤sizeLine then (pure (R.v (.str ⟨#[c]⟩)):M R) else bad
  | none=>bad)=_
 rw [e]
 dsimp only
 rw [if_pos (by decide +kernel)]
end L3
namespace L3
open PySem PySem.Spec L2
mutual
def D.pln:D→Bool
 | .non=>true
 | .bl _=>false
 | .int _=>true
 | .str _=>true
 | .tup xs=>plnAll xs
 | .lst _=>false
 | .dic _ _=>false
 | .fn _=>false
 | .ty _=>false
def plnAll:List D→Bool
 | []=>true
 | x :: xs=>x.pln && plnAll xs
end
theorem plnAll_iff:∀{xs:List D},plnAll xs=true↔∀x∈xs,x.pln=true
 | []=>by simp [plnAll]
 | x :: xs=>by rw [plnAll,Bool.and_eq_true,plnAll_iff,List.forall_mem_cons]
def Pln (n:Nat) (d:D):Prop:=Ok n d∧d.pln=true
theorem pln_non {n:Nat}:Pln n .non:=⟨ok_non,rfl⟩
theorem pln_int {n:Nat} {i:Int}:Pln n (.int i):=⟨ok_int,rfl⟩
theorem pln_str {n:Nat} {x:Str} (h:PySem.PyData.strOk x=true):Pln n (.str x):=⟨ok_str h,rfl⟩
theorem pln_tup {n:Nat} {xs:List D} (hl:xs.length≤1000) (h:∀x∈xs,Pln n x):Pln (n + 1) (.tup xs):=⟨ok_tup hl fun x hx=>(h x hx).1,plnAll_iff.mpr fun x hx=>(h x hx).2⟩
theorem pln_mono {n m:Nat} {d:D} (h:Pln n d) (hm:n≤m):Pln m d:=⟨ok_mono h.1 hm,h.2⟩
theorem pln0 {n:Nat}:Pln (n + 1) (.tup []):=pln_tup (by simp) fun _ h=>nomatch h
theorem pln2 {n:Nat} {a b:D} (h1:Pln n a) (h2:Pln n b):Pln (n + 1) (.tup [a,b]):=pln_tup (by simp) (by simp only [List.forall_mem_cons];exact ⟨h1,h2,fun _ h=>nomatch h⟩)
theorem pln3 {n:Nat} {a b c:D} (h1:Pln n a) (h2:Pln n b) (h3:Pln n c):Pln (n + 1) (.tup [a,b,c]):=pln_tup (by simp) (by simp only [List.forall_mem_cons];exact ⟨h1,h2,h3,fun _ h=>nomatch h⟩)
theorem pln4 {n:Nat} {a b c d:D} (h1:Pln n a) (h2:Pln n b) (h3:Pln n c) (h4:Pln n d):Pln (n + 1) (.tup [a,b,c,d]):=pln_tup (by simp) (by simp only [List.forall_mem_cons];exact ⟨h1,h2,h3,h4,fun _ h=>nomatch h⟩)
mutual
theorem peq_refl:∀{d:D} {n:Nat},d.gd n=true→peq d d=true
 | .non,_,_=>rfl
 | .bl _,_,_=>by simp [peq]
 | .int _,_,_=>by simp [peq]
 | .str _,_,_=>by simp [peq]
 | .tup xs,n,h=>by
  cases n with
  | zero=>cases h
  | succ k=>exact peqAll_refl (xs:=xs) (n:=k) h
 | .lst xs,n,h=>by
  cases n with
  | zero=>cases h
  | succ k=>exact peqAll_refl (xs:=xs) (n:=k) h
 | .dic _ _,_,h=>by cases h
 | .fn _,_,h=>by cases h
 | .ty _,_,h=>by cases h
theorem peqAll_refl:∀{xs:List D} {n:Nat},gdAll xs n=true→peqAll xs xs=true
 | [],_,_=>rfl
 | x :: xs,n,h=>by
  have h:=gdAll_iff.mp h
  unfold peqAll
  rw [Bool.and_eq_true]
  exact ⟨peq_refl (h x List.mem_cons_self),peqAll_refl (gdAll_iff.mpr fun y hy=>h y (List.mem_cons_of_mem _ hy))⟩
end
end L3
namespace L3
open PySem PySem.Spec L2
structure Pg where
 e:Int
 p1:Int
 p2:Int
 k1:Int
 k2:Int
 sl:D
def st2 (a b:Int):D:=.tup [.int a,.int b]
@[simp] theorem e_cmpT {g:List Int→List Int→Bool} {a b c d:Int}:oCmpT g (.v (st2 a b)) (.v (st2 c d))=pure (.v (.bl (g [a,b] [c,d]))):=rfl
@[simp] theorem e_sortK {Z:KO} {mf:MF} {ma:ME} {σ:En}:cSortK Z mf ma σ=(do
 let x ←ma σ
 fSortK Z mf x):=rfl
end L3
namespace L3
open PySem PySem.Spec L2
@[simp] theorem e_cpd {kvs:List (Key×D)}:cpSlot (some (.dct kvs)) = .vd kvs:=rfl
@[simp] theorem e_cpdv {kvs:List (Key×D)}:cpSlot (some (.vd kvs)) = .vd kvs:=rfl
theorem zip_map {α:Type} {es:List α} {f:α→D}:es.zip (es.map f)=es.map fun e=>(e,f e):=by
 induction es with
 | nil=>rfl
 | cons e es ih=>rw [List.map_cons,List.zip_cons_cons,ih];rfl
theorem dput_keys (kvs:List (Key×D)) (k:Key) (d:D):(dputD kvs k d).map (·.1)=if (dvalD kvs k).isSome=true then kvs.map (·.1) else kvs.map (·.1) ++ [k]:=by
 have ha:(kvs.any fun kv=>decide (kv.1=k))=(dvalD kvs k).isSome:=by
  unfold dvalD
  rw [Option.isSome_map,Bool.eq_iff_iff,List.find?_isSome,List.any_eq_true]
 unfold dputD
 rw [ha]
 split
 ·rw [List.map_map]
  refine List.map_congr_left fun kv _=>?_
  show (if kv.1=k then (kv.1,d) else kv).1=kv.1
  split <;> rfl
 ·rw [List.map_append];rfl
end L3
namespace L3
open PySem PySem.Spec L2 PyProof.Rows
section
variable {Q:PyProof.Rows.KeyOrd} [DecidableEq Q.α]
def RiseK (Q:PyProof.Rows.KeyOrd) (l:List (Q.α×D)):Prop:=l.Pairwise fun a b=>Q.blt a.1 b.1=true
theorem RiseK.nodup {l:List (Q.α×D)} (h:RiseK Q l):(l.map (·.1)).Nodup:=by
 rw [List.nodup_iff_pairwise_ne,List.pairwise_map]
 refine List.Pairwise.imp (fun {a b} h e=>?_) h
 rw [e,Q.irrefl] at h
 cases h
def dropR (l:List (Q.α×D)) (a:Q.α):List (Q.α×D):=l.filter fun q=>!decide (q.1=a)
def putR (l:List (Q.α×D)) (p:Q.α×D):List (Q.α×D):=dropR l p.1 ++ [p]
def putS (l:List (Q.α×D)) (p:Q.α×D):List (Q.α×D):=sortB Q.blt (putR l p)
def getR (l:List (Q.α×D)) (a:Q.α):Option D:=(l.find? fun q=>decide (q.1=a)).map (·.2)
theorem dropR_nodup {l:List (Q.α×D)} (a:Q.α) (h:(l.map (·.1)).Nodup):((dropR l a).map (·.1)).Nodup:=h.sublist (List.filter_sublist.map _)
theorem dropR_mem {l:List (Q.α×D)} {a:Q.α} {x:Q.α×D}:x∈dropR l a↔x∈l∧x.1≠a:=by
 unfold dropR
 rw [List.mem_filter]
 simp
theorem dropR_len (l:List (Q.α×D)) (a:Q.α):(dropR l a).length≤l.length:=List.length_filter_le _ _
theorem putR_nodup {l:List (Q.α×D)} (p:Q.α×D) (h:(l.map (·.1)).Nodup):((putR l p).map (·.1)).Nodup:=by
 unfold putR
 rw [List.map_append,List.nodup_append]
 refine ⟨dropR_nodup _ h,by simp,fun a ha b hb=>?_⟩
 obtain ⟨x,hx,rfl⟩:=List.mem_map.mp ha
 rw [show b=p.1 by simpa using hb]
 exact (dropR_mem.mp hx).2
theorem putR_mem {l:List (Q.α×D)} {p x:Q.α×D}:x∈putR l p↔(x∈l∧x.1≠p.1)∨x=p:=by
 unfold putR
 rw [List.mem_append,dropR_mem,List.mem_singleton]
theorem putR_len (l:List (Q.α×D)) (p:Q.α×D):(putR l p).length≤l.length + 1:=by
 unfold putR
 rw [List.length_append,List.length_singleton]
 have:=dropR_len l p.1
 omega
theorem putS_rise {l:List (Q.α×D)} (p:Q.α×D) (h:(l.map (·.1)).Nodup):RiseK Q (putS l p):=sortB_sorted Q _ (putR_nodup p h)
theorem putS_mem {l:List (Q.α×D)} {p x:Q.α×D}:x∈putS l p↔(x∈l∧x.1≠p.1)∨x=p:=by
 unfold putS
 rw [(sortB_perm _ _).mem_iff,putR_mem]
theorem putS_len (l:List (Q.α×D)) (p:Q.α×D):(putS l p).length≤l.length + 1:=by
 unfold putS
 rw [(sortB_perm _ _).length_eq]
 exact putR_len l p
theorem find_memR {l:List (Q.α×D)} {x:Q.α×D} (hn:(l.map (·.1)).Nodup) (hx:x∈l):l.find? (fun q=>decide (q.1=x.1))=some x:=by
 induction l with
 | nil=>cases hx
 | cons y l ih=>
  rw [List.map_cons,List.nodup_cons] at hn
  rcases List.mem_cons.mp hx with rfl | hx
  ·rw [List.find?_cons_of_pos (by simp)]
  ·have hne:¬y.1=x.1:=fun h=>hn.1 (by rw [h];exact List.mem_map_of_mem hx)
   rw [List.find?_cons_of_neg (by simpa using hne)]
   exact ih hn.2 hx
theorem getR_mem {l:List (Q.α×D)} {x:Q.α×D} (hn:(l.map (·.1)).Nodup) (hx:x∈l):getR l x.1=some x.2:=by
 unfold getR
 rw [find_memR hn hx];rfl
theorem getR_some {l:List (Q.α×D)} {a:Q.α} {d:D} (h:getR l a=some d):(a,d)∈l:=by
 unfold getR at h
 obtain ⟨x,hx,rfl⟩:=Option.map_eq_some_iff.mp h
 have h1:=List.mem_of_find?_eq_some hx
 have h2:x.1=a:=by have:=List.find?_some hx;simpa using this
 rw [←h2];exact h1
theorem getR_iff {l:List (Q.α×D)} {a:Q.α} {d:D} (hn:(l.map (·.1)).Nodup):getR l a=some d↔(a,d)∈l:=⟨getR_some,fun h=>getR_mem hn h⟩
theorem getR_ext {l l':List (Q.α×D)} {a:Q.α} {o:Option D} (hn:(l'.map (·.1)).Nodup) (h:∀d,(a,d)∈l'↔o=some d):getR l' a=o:=by
 cases o with
 | some d=>exact (getR_iff hn).mpr ((h d).mpr rfl)
 | none=>
  cases e:getR l' a with
  | none=>rfl
  | some d=>exact ((h d).mp (getR_some e)).symm
theorem getR_put {l:List (Q.α×D)} (p:Q.α×D) (hn:(l.map (·.1)).Nodup) (a:Q.α):getR (putS l p) a=if a=p.1 then some p.2 else getR l a:=
 getR_ext (l:=l) (putS_rise p hn).nodup fun d=>by
  rw [putS_mem]
  by_cases e:a=p.1
  ·rw [if_pos e]
   constructor
   ·rintro (⟨_,h⟩ | h)
    ·exact absurd e h
    ·rw [←h]
   ·intro h
    refine .inr ?_
    cases p
    cases h
    rw [e]
  ·rw [if_neg e,getR_iff hn]
   constructor
   ·rintro (⟨h,_⟩ | h)
    ·exact h
    ·rw [←h] at e;exact absurd rfl e
   ·exact fun h=>.inl ⟨h,e⟩
theorem getR_drop {l:List (Q.α×D)} (b:Q.α) (hn:(l.map (·.1)).Nodup) (a:Q.α):getR (dropR l b) a=if a=b then none else getR l a:=
 getR_ext (l:=l) (dropR_nodup b hn) fun d=>by
  rw [dropR_mem]
  by_cases e:a=b
  ·rw [if_pos e];simp [e]
  ·rw [if_neg e,getR_iff hn];simp [e]
theorem dropR_rise {l:List (Q.α×D)} (b:Q.α) (h:RiseK Q l):RiseK Q (dropR l b):=List.Pairwise.sublist List.filter_sublist h
theorem rise_one {l l':List (Q.α×D)} (h:RiseK Q l) (h':RiseK Q l') (hm:∀x,x∈l↔x∈l'):l=l':=by
 have nd:∀{l:List (Q.α×D)},RiseK Q l→l.Nodup:=fun {l} h=>List.nodup_iff_pairwise_ne.mpr (List.Pairwise.imp (fun {a b} h e=>by rw [e,Q.irrefl] at h;cases h) h)
 exact rising_one (lt:=fun a b:Q.α×D=>Q.blt a.1 b.1=true) (fun a=>by rw [Q.irrefl];exact Bool.false_ne_true) (fun a b c=>Q.trans _ _ _) ((List.perm_ext_iff_of_nodup (nd h) (nd h')).mpr hm) h h'
theorem sortB_same {l:List (Q.α×D)} (h:RiseK Q l):sortB Q.blt l=l:=(sort_one Q h.nodup (.refl _) h).symm
theorem apart_of {l:List Q.α} (h:l.Nodup):apartK Q.blt l=true:=by
 induction l with
 | nil=>rfl
 | cons a r ih=>
  rw [List.nodup_cons] at h
  unfold apartK
  rw [ih h.2,Bool.and_true,List.all_eq_true]
  intro b hb
  cases e1:Q.blt a b with
  | true=>rfl
  | false=>
   cases e2:Q.blt b a with
   | true=>rfl
   | false=>exact absurd (Q.total a b e1 e2 ▸ hb) h.1
end
section
variable {Z:KO} [DecidableEq Z.κ.α]
theorem keys_rows (hun:∀a,Z.un (Z.kd a)=some a) {mf:MF}:∀{l:List (Z.κ.α×D)},(∀x∈l,mf [x.2]=pure (.v (Z.kd x.1)))→keysOf Z mf (l.map (·.2))=some (l.map (·.1))
 | [],_=>rfl
 | x :: l,h=>by
  have e:keyAt Z mf x.2=some x.1:=by
   unfold keyAt
   rw [h x List.mem_cons_self]
   exact hun x.1
  rw [List.map_cons,List.map_cons]
  unfold keysOf
  rw [e,keys_rows hun fun y hy=>h y (List.mem_cons_of_mem _ hy)]
theorem zip_rows {α β:Type}:∀l:List (α×β),(l.map (·.1)).zip (l.map (·.2))=l
 | []=>rfl
 | x :: l=>by rw [List.map_cons,List.map_cons,List.zip_cons_cons,zip_rows l]
theorem sort_rows (hun:∀a,Z.un (Z.kd a)=some a) {mf:MF} {l:List (Z.κ.α×D)} (h:∀x∈l,mf [x.2]=pure (.v (Z.kd x.1))) {r:R} (hx:r.lis=some (l.map (·.2))) (hn:(l.map (·.1)).Nodup) (hl:l.length < 64) :
  fSortK Z mf r=pure (.fr ((sortB Z.κ.blt l).map (·.2))):=by
 unfold fSortK
 rw [hx]
 dsimp only
 rw [keys_rows hun h]
 dsimp only
 rw [if_pos ⟨apart_of (Q:=Z.κ.toKeyOrd) hn,by rw [List.length_map];exact hl⟩,zip_rows]
theorem unAll_kd (hun:∀a,Z.un (Z.kd a)=some a):∀es:List Z.κ.α,unAll Z (es.map Z.kd)=some es
 | []=>rfl
 | e :: es=>by
  rw [List.map_cons]
  unfold unAll
  rw [hun,unAll_kd hun es]
theorem sort_dict (hun:∀a,Z.un (Z.kd a)=some a) {kk:Z.κ.α→Key} (hkk:∀a,kD (kk a)=Z.kd a) {kvs:List (Key×D)} {es:List Z.κ.α} {l:List (Z.κ.α×D)} (hk:kvs.map (·.1)=es.map kk) (hp:(l.map (·.1)).Perm es) (hr:RiseK Z.κ.toKeyOrd l) (h64:l.length < 64) :
  fSortP Z [.dv kvs]=pure (.fr (l.map fun x=>Z.kd x.1)):=by
 have hn:es.Nodup:=hp.nodup_iff.mp hr.nodup
 have src:kvs.map (fun kv=>kD kv.1)=es.map Z.kd:=by
  have:kvs.map (fun kv=>kD kv.1)=(kvs.map (·.1)).map kD:=by rw [List.map_map];rfl
  rw [this,hk,List.map_map]
  exact List.map_congr_left fun a _=>hkk a
 have le:es.length < 64:=by rw [←hp.length_eq,List.length_map];exact h64
 have sd:srcD (.dv kvs)=some (es.map Z.kd):=by rw [←src];rfl
 rw [e_sortP,sd]
 dsimp only
 rw [unAll_kd hun]
 dsimp only
 rw [if_pos ⟨apart_of (Q:=Z.κ.toKeyOrd) hn,by rw [List.length_map];exact le⟩,zip_map]
 have hz:((es.map fun e=>(e,Z.kd e)).map (·.1)).Nodup:=by
  have:(es.map fun e=>(e,Z.kd e)).map (·.1)=es:=by rw [List.map_map];exact List.map_id es
  rw [this];exact hn
 have pm:(l.map fun x=>(x.1,Z.kd x.1)).Perm (es.map fun e=>(e,Z.kd e)):=by
  have:=hp.map fun e=>(e,Z.kd e)
  rwa [List.map_map] at this
 have one:=sort_one Z.κ.toKeyOrd hz pm (by
  rw [List.pairwise_map]
  exact hr)
 rw [←one,List.map_map]
 rfl
theorem keys_put {kk:Z.κ.α→Key} {kvs:List (Key×D)} {es:List Z.κ.α} {l:List (Z.κ.α×D)} (hk:kvs.map (·.1)=es.map kk) (hp:(l.map (·.1)).Perm es) (hn:(l.map (·.1)).Nodup) (p:Z.κ.α×D) (d:D) (hv:(dvalD kvs (kk p.1)).isSome=(getR (Q:=Z.κ.toKeyOrd) l p.1).isSome) :
  ∃es',(dputD kvs (kk p.1) d).map (·.1)=es'.map kk∧((putS (Q:=Z.κ.toKeyOrd) l p).map (·.1)).Perm es':=by
 have nd':=(putS_rise (Q:=Z.κ.toKeyOrd) p hn).nodup
 have ndes:es.Nodup:=hp.nodup_iff.mp hn
 have mem:∀a,a∈(putS (Q:=Z.κ.toKeyOrd) l p).map (·.1)↔a∈l.map (·.1)∨a=p.1:=fun a=>by
  constructor
  ·intro h
   obtain ⟨x,hx,rfl⟩:=List.mem_map.mp h
   rcases putS_mem.mp hx with ⟨h,_⟩ | rfl
   ·exact .inl (List.mem_map_of_mem h)
   ·exact .inr rfl
  ·intro h
   by_cases e:a=p.1
   ·rw [e];exact List.mem_map_of_mem (putS_mem.mpr (.inr rfl))
   ·rcases h with h | h
    ·obtain ⟨x,hx,rfl⟩:=List.mem_map.mp h
     exact List.mem_map_of_mem (putS_mem.mpr (.inl ⟨hx,e⟩))
    ·exact absurd h e
 have sm:(getR (Q:=Z.κ.toKeyOrd) l p.1).isSome=true↔p.1∈l.map (·.1):=by
  constructor
  ·intro h
   obtain ⟨d,hd⟩:=Option.isSome_iff_exists.mp h
   exact List.mem_map.mpr ⟨_,getR_some hd,rfl⟩
  ·intro h
   obtain ⟨x,hx,e⟩:=List.mem_map.mp h
   rw [←e,getR_mem hn hx];rfl
 rw [dput_keys,hv,hk]
 by_cases q:p.1∈l.map (·.1)
 ·rw [if_pos (sm.mpr q)]
  refine ⟨es,rfl,(List.perm_ext_iff_of_nodup nd' ndes).mpr fun a=>?_⟩
  rw [mem,←hp.mem_iff]
  constructor
  ·rintro (h | rfl)
   ·exact h
   ·exact q
  ·exact .inl
 ·rw [if_neg (fun h=>q (sm.mp h))]
  have ng:p.1∉es:=fun z=>q (hp.mem_iff.mpr z)
  refine ⟨es ++ [p.1],by rw [List.map_append];rfl,(List.perm_ext_iff_of_nodup nd' ?_).mpr fun a=>?_⟩
  ·rw [List.nodup_append]
   exact ⟨ndes,by simp,fun a ha b hb=>by rw [List.mem_singleton.mp hb];rintro rfl;exact ng ha⟩
  ·rw [mem,List.mem_append,←hp.mem_iff,List.mem_singleton]
end
def dicD (kvs:List (Key×D)):D:=.dic (kvs.map (·.1)) (kvs.map (·.2))
@[simp] theorem e_argd {kvs:List (Key×D)}:R.arg (.dv kvs)=dicD kvs:=rfl
theorem dval_len {kvs:List (Key×D)} {n:Nat} {α:Type} {es:List α} {kk:α→Key} (h:kvs.map (·.1)=es.map kk) (he:es.length≤n):kvs.length≤n:=by
 have:=congrArg List.length h
 rw [List.length_map,List.length_map] at this
 omega
end L3
namespace L3
open PySem PySem.Spec L2
theorem take_snoc {α:Type} {l:List α} {i:Nat} {x:α} (h:l[i]? = some x):l.take (i + 1)=l.take i ++ [x]:=by
 rw [List.take_add_one,h];rfl
theorem map_get {α β:Type} {f:α→β} {l:List α} {i:Nat} {y:β} (h:(l.map f)[i]? = some y):∃x,l[i]? = some x∧y=f x:=by
 rw [List.getElem?_map] at h
 cases e:l[i]? with
 | none=>rw [e] at h;cases h
 | some x=>rw [e] at h;exact ⟨x,rfl,(Option.some.inj h).symm⟩
theorem comp_on {α:Type} {t:En→M Bool} {el:ME} {σ:En} (f:α→D) (p:α→Bool) (g:α→D):∀xs:List α,(∀x∈xs,t (σ.set 0 (.val (f x)))=pure (p x))→(∀x∈xs,p x=true→(el (σ.set 0 (.val (f x))) >>= R.dat)=pure (g x))→
  kLoop t el σ (xs.map f)=pure ((xs.filter p).map g)
 | [],_,_=>rfl
 | x :: xs,h1,h2=>by
  have ih:=comp_on f p g xs (fun x hx=>h1 x (List.mem_cons_of_mem _ hx)) fun x hx=>h2 x (List.mem_cons_of_mem _ hx)
  rw [List.map_cons]
  unfold kLoop
  rw [h1 x List.mem_cons_self,pure_bind]
  cases e:p x with
  | false=>rw [if_neg Bool.false_ne_true,ih,List.filter_cons_of_neg (by rw [e];exact Bool.false_ne_true)]
  | true=>
   have h:=h2 x List.mem_cons_self e
   rw [if_pos rfl,←bind_assoc,h,pure_bind,ih,pure_bind,List.filter_cons_of_pos e]
   rfl
theorem comp_all {α:Type} {el:ME} {σ:En} (f:α→D) (g:α→D) (xs:List α) (h:∀x∈xs,(el (σ.set 0 (.val (f x))) >>= R.dat)=pure (g x)):kLoop tYes el σ (xs.map f)=pure (xs.map g):=by
 have:=comp_on (t:=tYes) (el:=el) (σ:=σ) f (fun _=>true) g xs (fun _ _=>rfl) fun x hx _=>h x hx
 rw [this]
 congr 2
 exact List.filter_eq_self.mpr fun _ _=>rfl
theorem for_first {α:Type} {b:D→MS} (f:α→D) (p:α→Bool) (v:α→R) (I:En→Prop):∀(xs:List α) (σ:En),I σ→
  (∀x σ,x∈xs→I σ→(p x=true→b (f x) σ=pure (.rt (v x)))∧(p x=false→∃σ',b (f x) σ=pure (.nx σ')∧I σ'))→
  (∀x,xs.find? p=some x→fLoop b (xs.map f) σ=pure (.rt (v x)))∧(xs.find? p=none→∃σ',fLoop b (xs.map f) σ=pure (.nx σ')∧I σ')
 | [],σ,h0,_=>⟨fun x h=>(nomatch h),fun _=>⟨σ,rfl,h0⟩⟩
 | x :: xs,σ,h0,step=>by
  obtain ⟨s1,s2⟩:=step x σ List.mem_cons_self h0
  cases e:p x with
  | true=>
   rw [List.find?_cons_of_pos e]
   refine ⟨fun y h=>?_,fun h=>(nomatch h)⟩
   cases h
   show (b (f x) σ >>= _)=_
   rw [s1 e];rfl
  | false=>
   obtain ⟨σ1,e1,h1⟩:=s2 e
   have ih:=for_first f p v I xs σ1 h1 fun y σ hy=>step y σ (List.mem_cons_of_mem _ hy)
   rw [List.find?_cons_of_neg (by rw [e];exact Bool.false_ne_true)]
   have u:fLoop b ((x :: xs).map f) σ=fLoop b (xs.map f) σ1:=by
    show (b (f x) σ >>= _)=_
    rw [e1];rfl
   rw [u]
   exact ih
end L3
namespace L3
open PySem PySem.Spec L2
abbrev QS:=koStr.κ.toKeyOrd
def tx (a:List Nat):Str:=⟨a.toArray⟩
abbrev cd (s:Str):List Nat:=s.cps.toList
theorem cd_tx (a:List Nat):cd (tx a)=a:=rfl
theorem unS (a:List Nat):koStr.un (koStr.kd a)=some a:=rfl
theorem kdS (a:List Nat):koStr.kd a = .str (tx a):=rfl
theorem tx_inj {a b:List Nat}:tx a=tx b↔a=b:=⟨fun h=>by rw [←cd_tx a,h,cd_tx],fun h=>by rw [h]⟩
theorem eq_txt {a b:List Nat} (ha:PySem.PyData.strOk (tx a)=true) (hb:PySem.PyData.strOk (tx b)=true):oEq (.v (.str (tx a))) (.v (.str (tx b)))=pure (.v (.bl (decide (a=b)))):=by
 rw [e_eq (x:=.v (.str (tx a))) (y:=.v (.str (tx b))) ha hb]
 show pure (R.v (D.bl (tx a == tx b)))=_
 congr 3
 rw [Bool.eq_iff_iff,beq_iff_eq,decide_eq_true_eq,tx_inj]
theorem ne_txt {a b:List Nat} (ha:PySem.PyData.strOk (tx a)=true) (hb:PySem.PyData.strOk (tx b)=true):oNe (.v (.str (tx a))) (.v (.str (tx b)))=pure (.v (.bl (!decide (a=b)))):=by
 rw [e_ne (x:=.v (.str (tx a))) (y:=.v (.str (tx b))) ha hb]
 show pure (R.v (D.bl (!(tx a == tx b))))=_
 congr 4
 rw [Bool.eq_iff_iff,beq_iff_eq,decide_eq_true_eq,tx_inj]
def Wd (a:List Nat):Prop:=PySem.PyData.strOk (tx a)=true∧1≤a.length∧a.length≤8
theorem strOk_iff {a:List Nat}:PySem.PyData.strOk (tx a)=true↔∀c∈a,c < 0x110000:=by
 unfold PySem.PyData.strOk tx
 rw [List.all_toArray,List.all_eq_true]
 simp
theorem tx_len (a:List Nat):(tx a).length=a.length:=by
 show a.toArray.size=_
 simp
theorem tx_app (a b:List Nat):tx a ++ tx b=tx (a ++ b):=by
 show (⟨a.toArray ++ b.toArray⟩:Str)=_
 unfold tx
 simp
theorem cutS_tx (a:List Nat) (lo hi:Option Int):cutS (tx a) lo hi=tx (cutD a lo hi):=rfl
theorem cut_hi {α:Type} (xs:List α) (k:Nat) (h:k≤xs.length):cutD xs none (some (k:Int))=xs.take k:=by
 unfold cutD
 rw [HT.sIx_nat,HT.sIx_none,List.drop_zero,Nat.sub_zero,Nat.min_eq_left h]
theorem cut_lo {α:Type} (xs:List α) (k:Nat) (h:k≤xs.length):cutD xs (some (k:Int)) none=xs.drop k:=by
 unfold cutD
 rw [HT.sIx_nat,HT.sIx_none,Nat.min_eq_left h,List.take_of_length_le (by rw [List.length_drop];omega)]
theorem letter_at {i:Int} (h0:0≤i) (h:i < 26):∃c,oIx (.v (.str "abcdefghijklmnopqrstuvwxyz")) (.v (.int i))=pure (.v (.str (tx [c])))∧c < 0x110000:=alpha_at h0 h
end L3
namespace L3
open PySem PySem.Spec L2
theorem e_eqS {x y:Str} (hx:PySem.PyData.strOk x=true) (hy:PySem.PyData.strOk y=true):oEq (.v (.str x)) (.v (.str y))=pure (.v (.bl (x == y))):=e_eq (x:=.v (.str x)) (y:=.v (.str y)) hx hy
theorem e_neS {x y:Str} (hx:PySem.PyData.strOk x=true) (hy:PySem.PyData.strOk y=true):oNe (.v (.str x)) (.v (.str y))=pure (.v (.bl (!(x == y)))):=e_ne (x:=.v (.str x)) (y:=.v (.str y)) hx hy
theorem ok_put:PySem.PyData.strOk "put"=true:=by decide +kernel
theorem ok_add:PySem.PyData.strOk "add"=true:=by decide +kernel
theorem ok_swap:PySem.PyData.strOk "swap"=true:=by decide +kernel
theorem ok_take:PySem.PyData.strOk "take"=true:=by decide +kernel
theorem ok_renew:PySem.PyData.strOk "renew"=true:=by decide +kernel
theorem ok_free:PySem.PyData.strOk "free"=true:=by decide +kernel
theorem ok_sure:PySem.PyData.strOk "sure"=true:=by decide +kernel
theorem ok_move:PySem.PyData.strOk "move"=true:=by decide +kernel
theorem ok_end:PySem.PyData.strOk "end"=true:=by decide +kernel
theorem ok_over:PySem.PyData.strOk "over"=true:=by decide +kernel
theorem ne_put_sure:(("put":Str) == "sure")=false:=by decide +kernel
theorem ne_put_move:(("put":Str) == "move")=false:=by decide +kernel
theorem ne_put_end:(("put":Str) == "end")=false:=by decide +kernel
theorem ne_add_put:(("add":Str) == "put")=false:=by decide +kernel
theorem ne_add_sure:(("add":Str) == "sure")=false:=by decide +kernel
theorem ne_add_move:(("add":Str) == "move")=false:=by decide +kernel
theorem ne_add_end:(("add":Str) == "end")=false:=by decide +kernel
theorem ne_swap_put:(("swap":Str) == "put")=false:=by decide +kernel
theorem ne_swap_add:(("swap":Str) == "add")=false:=by decide +kernel
theorem ne_swap_sure:(("swap":Str) == "sure")=false:=by decide +kernel
theorem ne_swap_move:(("swap":Str) == "move")=false:=by decide +kernel
theorem ne_swap_end:(("swap":Str) == "end")=false:=by decide +kernel
theorem ne_take_put:(("take":Str) == "put")=false:=by decide +kernel
theorem ne_take_add:(("take":Str) == "add")=false:=by decide +kernel
theorem ne_take_swap:(("take":Str) == "swap")=false:=by decide +kernel
theorem ne_take_free:(("take":Str) == "free")=false:=by decide +kernel
theorem ne_take_move:(("take":Str) == "move")=false:=by decide +kernel
theorem ne_take_end:(("take":Str) == "end")=false:=by decide +kernel
theorem ne_renew_put:(("renew":Str) == "put")=false:=by decide +kernel
theorem ne_renew_add:(("renew":Str) == "add")=false:=by decide +kernel
theorem ne_renew_swap:(("renew":Str) == "swap")=false:=by decide +kernel
theorem ne_renew_take:(("renew":Str) == "take")=false:=by decide +kernel
theorem ne_renew_free:(("renew":Str) == "free")=false:=by decide +kernel
theorem ne_renew_move:(("renew":Str) == "move")=false:=by decide +kernel
theorem ne_renew_end:(("renew":Str) == "end")=false:=by decide +kernel
theorem ne_free_put:(("free":Str) == "put")=false:=by decide +kernel
theorem ne_free_add:(("free":Str) == "add")=false:=by decide +kernel
theorem ne_free_swap:(("free":Str) == "swap")=false:=by decide +kernel
theorem ne_free_take:(("free":Str) == "take")=false:=by decide +kernel
theorem ne_free_renew:(("free":Str) == "renew")=false:=by decide +kernel
theorem ne_free_move:(("free":Str) == "move")=false:=by decide +kernel
theorem ne_free_end:(("free":Str) == "end")=false:=by decide +kernel
theorem ne_sure_put:(("sure":Str) == "put")=false:=by decide +kernel
theorem ne_sure_add:(("sure":Str) == "add")=false:=by decide +kernel
theorem ne_sure_swap:(("sure":Str) == "swap")=false:=by decide +kernel
theorem ne_sure_take:(("sure":Str) == "take")=false:=by decide +kernel
theorem ne_sure_renew:(("sure":Str) == "renew")=false:=by decide +kernel
theorem ne_sure_free:(("sure":Str) == "free")=false:=by decide +kernel
theorem ne_sure_move:(("sure":Str) == "move")=false:=by decide +kernel
theorem ne_sure_end:(("sure":Str) == "end")=false:=by decide +kernel
theorem ne_move_put:(("move":Str) == "put")=false:=by decide +kernel
theorem ne_move_add:(("move":Str) == "add")=false:=by decide +kernel
theorem ne_move_swap:(("move":Str) == "swap")=false:=by decide +kernel
theorem ne_move_take:(("move":Str) == "take")=false:=by decide +kernel
theorem ne_move_renew:(("move":Str) == "renew")=false:=by decide +kernel
theorem ne_move_free:(("move":Str) == "free")=false:=by decide +kernel
theorem ne_move_sure:(("move":Str) == "sure")=false:=by decide +kernel
theorem ne_move_end:(("move":Str) == "end")=false:=by decide +kernel
theorem ne_end_put:(("end":Str) == "put")=false:=by decide +kernel
theorem ne_end_add:(("end":Str) == "add")=false:=by decide +kernel
theorem ne_end_swap:(("end":Str) == "swap")=false:=by decide +kernel
theorem ne_end_take:(("end":Str) == "take")=false:=by decide +kernel
theorem ne_end_renew:(("end":Str) == "renew")=false:=by decide +kernel
theorem ne_end_free:(("end":Str) == "free")=false:=by decide +kernel
theorem ne_end_sure:(("end":Str) == "sure")=false:=by decide +kernel
theorem ne_end_move:(("end":Str) == "move")=false:=by decide +kernel
theorem ne_do_add_do_put:(("do_add":Str) == "do_put")=false:=by decide +kernel
theorem ne_do_swap_do_put:(("do_swap":Str) == "do_put")=false:=by decide +kernel
theorem ne_do_swap_do_add:(("do_swap":Str) == "do_add")=false:=by decide +kernel
theorem ne_do_take_do_put:(("do_take":Str) == "do_put")=false:=by decide +kernel
theorem ne_do_take_do_add:(("do_take":Str) == "do_add")=false:=by decide +kernel
theorem ne_do_take_do_swap:(("do_take":Str) == "do_swap")=false:=by decide +kernel
theorem ne_do_renew_do_put:(("do_renew":Str) == "do_put")=false:=by decide +kernel
theorem ne_do_renew_do_add:(("do_renew":Str) == "do_add")=false:=by decide +kernel
theorem ne_do_renew_do_swap:(("do_renew":Str) == "do_swap")=false:=by decide +kernel
theorem ne_do_renew_do_take:(("do_renew":Str) == "do_take")=false:=by decide +kernel
theorem ne_do_free_do_put:(("do_free":Str) == "do_put")=false:=by decide +kernel
theorem ne_do_free_do_add:(("do_free":Str) == "do_add")=false:=by decide +kernel
theorem ne_do_free_do_swap:(("do_free":Str) == "do_swap")=false:=by decide +kernel
theorem ne_do_free_do_take:(("do_free":Str) == "do_take")=false:=by decide +kernel
theorem ne_do_free_do_renew:(("do_free":Str) == "do_renew")=false:=by decide +kernel
theorem ne_do_sure_do_put:(("do_sure":Str) == "do_put")=false:=by decide +kernel
theorem ne_do_sure_do_add:(("do_sure":Str) == "do_add")=false:=by decide +kernel
theorem ne_do_sure_do_swap:(("do_sure":Str) == "do_swap")=false:=by decide +kernel
theorem ne_do_sure_do_take:(("do_sure":Str) == "do_take")=false:=by decide +kernel
theorem ne_do_sure_do_renew:(("do_sure":Str) == "do_renew")=false:=by decide +kernel
theorem ne_do_sure_do_free:(("do_sure":Str) == "do_free")=false:=by decide +kernel
theorem ne_do_move_do_put:(("do_move":Str) == "do_put")=false:=by decide +kernel
theorem ne_do_move_do_add:(("do_move":Str) == "do_add")=false:=by decide +kernel
theorem ne_do_move_do_swap:(("do_move":Str) == "do_swap")=false:=by decide +kernel
theorem ne_do_move_do_take:(("do_move":Str) == "do_take")=false:=by decide +kernel
theorem ne_do_move_do_renew:(("do_move":Str) == "do_renew")=false:=by decide +kernel
theorem ne_do_move_do_free:(("do_move":Str) == "do_free")=false:=by decide +kernel
theorem ne_do_move_do_sure:(("do_move":Str) == "do_sure")=false:=by decide +kernel
theorem ne_do_end_do_put:(("do_end":Str) == "do_put")=false:=by decide +kernel
theorem ne_do_end_do_add:(("do_end":Str) == "do_add")=false:=by decide +kernel
theorem ne_do_end_do_swap:(("do_end":Str) == "do_swap")=false:=by decide +kernel
theorem ne_do_end_do_take:(("do_end":Str) == "do_take")=false:=by decide +kernel
theorem ne_do_end_do_renew:(("do_end":Str) == "do_renew")=false:=by decide +kernel
theorem ne_do_end_do_free:(("do_end":Str) == "do_free")=false:=by decide +kernel
theorem ne_do_end_do_sure:(("do_end":Str) == "do_sure")=false:=by decide +kernel
theorem ne_do_end_do_move:(("do_end":Str) == "do_move")=false:=by decide +kernel
@[simp] theorem eq_put_sure:oEq (.v (.str "put")) (.v (.str "sure"))=pure (.v (.bl false)):=by rw [e_eqS ok_put ok_sure,ne_put_sure]
@[simp] theorem eq_put_move:oEq (.v (.str "put")) (.v (.str "move"))=pure (.v (.bl false)):=by rw [e_eqS ok_put ok_move,ne_put_move]
@[simp] theorem eq_put_end:oEq (.v (.str "put")) (.v (.str "end"))=pure (.v (.bl false)):=by rw [e_eqS ok_put ok_end,ne_put_end]
@[simp] theorem eq_put:oEq (.v (.str "put")) (.v (.str "put"))=pure (.v (.bl true)):=by rw [e_eqS ok_put ok_put,beq_self_eq_true]
@[simp] theorem eq_add_put:oEq (.v (.str "add")) (.v (.str "put"))=pure (.v (.bl false)):=by rw [e_eqS ok_add ok_put,ne_add_put]
@[simp] theorem eq_add_sure:oEq (.v (.str "add")) (.v (.str "sure"))=pure (.v (.bl false)):=by rw [e_eqS ok_add ok_sure,ne_add_sure]
@[simp] theorem eq_add_move:oEq (.v (.str "add")) (.v (.str "move"))=pure (.v (.bl false)):=by rw [e_eqS ok_add ok_move,ne_add_move]
@[simp] theorem eq_add_end:oEq (.v (.str "add")) (.v (.str "end"))=pure (.v (.bl false)):=by rw [e_eqS ok_add ok_end,ne_add_end]
@[simp] theorem eq_add:oEq (.v (.str "add")) (.v (.str "add"))=pure (.v (.bl true)):=by rw [e_eqS ok_add ok_add,beq_self_eq_true]
@[simp] theorem eq_swap_put:oEq (.v (.str "swap")) (.v (.str "put"))=pure (.v (.bl false)):=by rw [e_eqS ok_swap ok_put,ne_swap_put]
@[simp] theorem eq_swap_add:oEq (.v (.str "swap")) (.v (.str "add"))=pure (.v (.bl false)):=by rw [e_eqS ok_swap ok_add,ne_swap_add]
@[simp] theorem eq_swap_sure:oEq (.v (.str "swap")) (.v (.str "sure"))=pure (.v (.bl false)):=by rw [e_eqS ok_swap ok_sure,ne_swap_sure]
@[simp] theorem eq_swap_move:oEq (.v (.str "swap")) (.v (.str "move"))=pure (.v (.bl false)):=by rw [e_eqS ok_swap ok_move,ne_swap_move]
@[simp] theorem eq_swap_end:oEq (.v (.str "swap")) (.v (.str "end"))=pure (.v (.bl false)):=by rw [e_eqS ok_swap ok_end,ne_swap_end]
@[simp] theorem eq_swap:oEq (.v (.str "swap")) (.v (.str "swap"))=pure (.v (.bl true)):=by rw [e_eqS ok_swap ok_swap,beq_self_eq_true]
@[simp] theorem eq_take_free:oEq (.v (.str "take")) (.v (.str "free"))=pure (.v (.bl false)):=by rw [e_eqS ok_take ok_free,ne_take_free]
@[simp] theorem eq_take_move:oEq (.v (.str "take")) (.v (.str "move"))=pure (.v (.bl false)):=by rw [e_eqS ok_take ok_move,ne_take_move]
@[simp] theorem eq_take_end:oEq (.v (.str "take")) (.v (.str "end"))=pure (.v (.bl false)):=by rw [e_eqS ok_take ok_end,ne_take_end]
@[simp] theorem eq_take:oEq (.v (.str "take")) (.v (.str "take"))=pure (.v (.bl true)):=by rw [e_eqS ok_take ok_take,beq_self_eq_true]
@[simp] theorem nq_take:oNe (.v (.str "take")) (.v (.str "take"))=pure (.v (.bl false)):=by rw [e_neS ok_take ok_take,beq_self_eq_true];rfl
@[simp] theorem eq_renew_take:oEq (.v (.str "renew")) (.v (.str "take"))=pure (.v (.bl false)):=by rw [e_eqS ok_renew ok_take,ne_renew_take]
@[simp] theorem nq_renew_take:oNe (.v (.str "renew")) (.v (.str "take"))=pure (.v (.bl true)):=by rw [e_neS ok_renew ok_take,ne_renew_take];rfl
@[simp] theorem eq_renew_free:oEq (.v (.str "renew")) (.v (.str "free"))=pure (.v (.bl false)):=by rw [e_eqS ok_renew ok_free,ne_renew_free]
@[simp] theorem eq_renew_move:oEq (.v (.str "renew")) (.v (.str "move"))=pure (.v (.bl false)):=by rw [e_eqS ok_renew ok_move,ne_renew_move]
@[simp] theorem eq_renew_end:oEq (.v (.str "renew")) (.v (.str "end"))=pure (.v (.bl false)):=by rw [e_eqS ok_renew ok_end,ne_renew_end]
@[simp] theorem eq_free_take:oEq (.v (.str "free")) (.v (.str "take"))=pure (.v (.bl false)):=by rw [e_eqS ok_free ok_take,ne_free_take]
@[simp] theorem nq_free_take:oNe (.v (.str "free")) (.v (.str "take"))=pure (.v (.bl true)):=by rw [e_neS ok_free ok_take,ne_free_take];rfl
@[simp] theorem eq_free_move:oEq (.v (.str "free")) (.v (.str "move"))=pure (.v (.bl false)):=by rw [e_eqS ok_free ok_move,ne_free_move]
@[simp] theorem eq_free_end:oEq (.v (.str "free")) (.v (.str "end"))=pure (.v (.bl false)):=by rw [e_eqS ok_free ok_end,ne_free_end]
@[simp] theorem eq_free:oEq (.v (.str "free")) (.v (.str "free"))=pure (.v (.bl true)):=by rw [e_eqS ok_free ok_free,beq_self_eq_true]
@[simp] theorem eq_sure_put:oEq (.v (.str "sure")) (.v (.str "put"))=pure (.v (.bl false)):=by rw [e_eqS ok_sure ok_put,ne_sure_put]
@[simp] theorem eq_sure_add:oEq (.v (.str "sure")) (.v (.str "add"))=pure (.v (.bl false)):=by rw [e_eqS ok_sure ok_add,ne_sure_add]
@[simp] theorem eq_sure_swap:oEq (.v (.str "sure")) (.v (.str "swap"))=pure (.v (.bl false)):=by rw [e_eqS ok_sure ok_swap,ne_sure_swap]
@[simp] theorem eq_sure_move:oEq (.v (.str "sure")) (.v (.str "move"))=pure (.v (.bl false)):=by rw [e_eqS ok_sure ok_move,ne_sure_move]
@[simp] theorem eq_sure_end:oEq (.v (.str "sure")) (.v (.str "end"))=pure (.v (.bl false)):=by rw [e_eqS ok_sure ok_end,ne_sure_end]
@[simp] theorem eq_sure:oEq (.v (.str "sure")) (.v (.str "sure"))=pure (.v (.bl true)):=by rw [e_eqS ok_sure ok_sure,beq_self_eq_true]
@[simp] theorem eq_move_end:oEq (.v (.str "move")) (.v (.str "end"))=pure (.v (.bl false)):=by rw [e_eqS ok_move ok_end,ne_move_end]
@[simp] theorem eq_move:oEq (.v (.str "move")) (.v (.str "move"))=pure (.v (.bl true)):=by rw [e_eqS ok_move ok_move,beq_self_eq_true]
@[simp] theorem eq_end_move:oEq (.v (.str "end")) (.v (.str "move"))=pure (.v (.bl false)):=by rw [e_eqS ok_end ok_move,ne_end_move]
@[simp] theorem eq_end:oEq (.v (.str "end")) (.v (.str "end"))=pure (.v (.bl true)):=by rw [e_eqS ok_end ok_end,beq_self_eq_true]
@[simp] theorem eq_over:oEq (.v (.str "over")) (.v (.str "over"))=pure (.v (.bl true)):=by rw [e_eqS ok_over ok_over,beq_self_eq_true]
end L3
namespace K17
open PySem PySem.Spec L2 L3
theorem cell_at (ns:List Int) (k:Nat):m_law_cell_at [.lst (ns.map D.int),.int (k:Nat)]=pure (.v (.int (ns.getD k 0))):=by
 simp only [m_law_cell_at,b_law_cell_at,b_law_cell_at_1]
 by_cases h:k < ns.length
 ·simp [h,at_ints h]
 ·simp [h]
end K17
namespace K17
open PySem PySem.Spec L2 L3
theorem plain_eq:∀(n:Nat) (d:D),Pln n d→m_law_plain (n + 1) [d]=pure (.v (.bl true)):=by
 have whole:∀i:Int,m_law_whole [.int i]=pure (.v (.bl true)):=fun i=>by
  simp [m_law_whole,b_law_whole]
 intro n
 induction n with
 | zero=>
  intro d h
  cases d with
  | non=>simp [m_law_plain,b_law_plain,b_law_plain_1]
  | int i=>simp [m_law_plain,b_law_plain,b_law_plain_1,whole]
  | str x=>simp [m_law_plain,b_law_plain,b_law_plain_1]
  | tup xs=>exact absurd h.1.1 (by intro z;cases z)
  | bl b=>exact absurd h.2 (by intro z;cases z)
  | lst xs=>exact absurd h.2 (by intro z;cases z)
  | dic _ _=>exact absurd h.2 (by intro z;cases z)
  | fn _=>exact absurd h.2 (by intro z;cases z)
  | ty _=>exact absurd h.2 (by intro z;cases z)
 | succ n ih=>
  intro d h
  cases d with
  | non=>simp [m_law_plain,b_law_plain,b_law_plain_1]
  | int i=>simp [m_law_plain,b_law_plain,b_law_plain_1,whole]
  | str x=>simp [m_law_plain,b_law_plain,b_law_plain_1]
  | tup xs=>
   have hx:∀x∈xs,Pln n x:=fun x hx=>⟨⟨gdAll_iff.mp h.1.1 x hx,by
    have hw:(decide (xs.length≤1000) && widAll xs)=true:=h.1.2
    rw [Bool.and_eq_true] at hw
    exact widAll_iff.mp hw.2 x hx⟩,plnAll_iff.mp h.2 x hx⟩
   obtain ⟨σ',e,s1,rfl⟩:=for_inv (b:=fun d σ=>l_law_plain_0 (m_law_plain (n + 1)) (σ.set 1 (.val d))) (ds:=xs) (σ:=[.val (.tup xs),.emp])
    (fun i σ=>∃s1,σ=[.val (.tup xs),s1]) ⟨_,rfl⟩ (fun i d σ hd ⟨s1,es⟩=>by
     subst es
     have:=ih d (hx d (List.mem_of_getElem? hd))
     refine ⟨_,.inl (?_:_=pure (Fl.nx [.val (.tup xs),.val d])),_,rfl⟩
     simp [l_law_plain_0,this])
   rw [m_law_plain]
   simp [b_law_plain,e]
  | bl b=>exact absurd h.2 (by intro z;cases z)
  | lst xs=>exact absurd h.2 (by intro z;cases z)
  | dic _ _=>exact absurd h.2 (by intro z;cases z)
  | fn _=>exact absurd h.2 (by intro z;cases z)
  | ty _=>exact absurd h.2 (by intro z;cases z)
end K17
namespace K17
open PySem PySem.Spec L2 L3
theorem law_word_eq (c:Int):∃a,m_law_word [.int c]=pure (.v (.str (tx a)))∧Wd a:=by
 have h8:=mod_lt (a:=c * 48271 % 10000000000000) (b:=8) (by decide)
 obtain ⟨z,hz,hz9⟩:∃z:Nat,1 + c * 48271 % 10000000000000 % 8=(z:Nat)∧1≤z∧z≤8:=⟨(1 + c * 48271 % 10000000000000 % 8).toNat,by omega,by omega,by omega⟩
 obtain ⟨σ',e,r,a,s5,rfl,ho,hl⟩:=for_inv (b:=fun d σ=>l_law_word_0 (σ.set 5 (.val d))) (ds:=rngD 0 z) (σ:=[.val (.int c),.val (.str "abcdefghijklmnopqrstuvwxyz"),.val (.int (c * 48271 % 10000000000000 / 8)),.val (.int (z:Nat)),.val (.str ""),.emp])
  (fun i σ=>∃(r:Int) (a:List Nat) (s5:Slot),σ=[.val (.int c),.val (.str "abcdefghijklmnopqrstuvwxyz"),.val (.int r),.val (.int (z:Nat)),.val (.str (tx a)),s5]∧PySem.PyData.strOk (tx a)=true∧a.length=i)
  ⟨_,[],_,rfl,by decide +kernel,rfl⟩ (fun i d σ hd ⟨r,a,s5,es,ho,hl⟩=>by
   subst es
   have hi:i < z:=by
    have:=(List.getElem?_eq_some_iff.mp hd).1
    rwa [show (rngD 0 z).length=z by simp [rngD]] at this
   have h26:=mod_lt (a:=r) (b:=26) (by decide)
   obtain ⟨ch,e1,hch⟩:=letter_at h26.1 h26.2
   refine ⟨_,.inl (?_:_=pure (Fl.nx [.val (.int c),.val (.str "abcdefghijklmnopqrstuvwxyz"),.val (.int (r / 26)),.val (.int (z:Nat)),.val (.str (tx (a ++ [ch]))),.val d])),_,_,_,rfl,?_,by rw [List.length_append,hl];rfl⟩
   ·have z2:a.length + 1≤sizeLine:=Nat.le_of_lt (small1000 (by omega))
    simp only [l_law_word_0]
    simp [e1,tx_len,tx_app,z2]
   ·rw [strOk_iff] at ho ⊢
    intro x hx
    rcases List.mem_append.mp hx with hx | hx
    ·exact ho x hx
    ·rw [List.mem_singleton.mp hx];exact hch)
 have hl:a.length=z:=by rw [hl];simp [rngD]
 refine ⟨a,?_,ho,by omega,by omega⟩
 have z1:(z:Int) < 4611686018427387904:=by omega
 simp only [m_law_word,b_law_word,b_law_word_1,b_law_word_2,b_law_word_3,b_law_word_4,b_law_word_5,b_law_word_6]
 have hz':1 + c * 48271 % 8=(z:Nat):=by omega
 simp [hz',e,z1]
theorem law_near_eq {a:List Nat} (ha:Wd a) (c:Int):∃b,m_law_near [.str (tx a),.int c]=pure (.v (.str (tx b)))∧Wd b:=by
 obtain ⟨ho,h1,h8⟩:=ha
 have zl:a.length≤sizeLine:=Nat.le_of_lt (small1000 (by omega))
 have hm:=mod_lt (a:=c / 3) (b:=(a.length:Int)) (by omega)
 obtain ⟨k,hk⟩:∃k:Nat,c / 3 % (a.length:Int)=(k:Nat):=⟨(c / 3 % (a.length:Int)).toNat,by omega⟩
 have hkl:k < a.length:=by omega
 have lp:0 < a.length:=h1
 have lq:(a.length:Int) < 10 ^ 200:=by omega
 rw [strOk_iff] at ho
 simp only [m_law_near,b_law_near,b_law_near_1,b_law_near_2,b_law_near_3,b_law_near_4]
 by_cases q0:c % 3=0
 ·obtain ⟨b,e,hb⟩:=law_word_eq (c / 3)
  refine ⟨b,?_,hb⟩
  simp [q0,e]
 ·by_cases q1:c % 3=1
  ·refine ⟨a.take (k + 1),?_,strOk_iff.mpr fun x hx=>ho x (List.mem_of_mem_take hx),by rw [List.length_take];omega,by rw [List.length_take];omega⟩
   have ct:cutD a none (some ((k:Int) + 1))=a.take (k + 1):=by
    have:=cut_hi a (k + 1) (by omega)
    exact this
   simp [q0,q1,tx_len,zl,lp,lq,hk,cutS_tx,ct]
  ·have h26:=mod_lt (a:=c / 24) (b:=26) (by decide)
   obtain ⟨ch,e1,hch⟩:=letter_at h26.1 h26.2
   refine ⟨a.take k ++ [ch] ++ a.drop (k + 1),?_,strOk_iff.mpr fun x hx=>?_,by simp only [List.length_append,List.length_take,List.length_drop,List.length_singleton];omega,by simp only [List.length_append,List.length_take,List.length_drop,List.length_singleton];omega⟩
   ·have c1:cutD a none (some (k:Int))=a.take k:=cut_hi a k (by omega)
    have c2:cutD a (some ((k:Int) + 1)) none=a.drop (k + 1):=cut_lo a (k + 1) (by omega)
    have z1:min k a.length + 1≤sizeLine:=Nat.le_of_lt (small1000 (by omega))
    have z2:min k a.length + 1 + (a.length - (k + 1))≤sizeLine:=Nat.le_of_lt (small1000 (by omega))
    simp [q0,q1,tx_len,zl,lp,lq,hk,cutS_tx,c1,c2,e1,tx_app,z1,z2]
   ·rcases List.mem_append.mp hx with hx | hx
    ·rcases List.mem_append.mp hx with hx | hx
     ·exact ho x (List.mem_of_mem_take hx)
     ·rw [List.mem_singleton.mp hx];exact hch
    ·exact ho x (List.mem_of_mem_drop hx)
theorem law_pool_eq (ns:List Int):∃ws:List (List Nat),m_law_pool [.lst (ns.map D.int)]=pure (.fr (ws.map fun a=>.str (tx a)))∧(∀a∈ws,Wd a)∧ws.length=4:=by
 have q0:m_law_cell_at [.lst (ns.map D.int),.int 0]=_:=cell_at ns 0
 have q1:m_law_cell_at [.lst (ns.map D.int),.int 1]=_:=cell_at ns 1
 have q2:m_law_cell_at [.lst (ns.map D.int),.int 2]=_:=cell_at ns 2
 have q3:m_law_cell_at [.lst (ns.map D.int),.int 3]=_:=cell_at ns 3
 obtain ⟨a,ea,ha⟩:=law_word_eq (ns.getD 0 0)
 obtain ⟨b,eb,hb⟩:=law_near_eq ha (ns.getD 1 0)
 obtain ⟨c,ec,hc⟩:=law_near_eq ha (ns.getD 2 0)
 obtain ⟨d,ed,hd⟩:=law_word_eq (ns.getD 3 0)
 generalize ns.getD 0 0=c0 at *
 generalize ns.getD 1 0=c1 at *
 generalize ns.getD 2 0=c2 at *
 generalize ns.getD 3 0=c3 at *
 refine ⟨[a,b,c,d],?_,by simp only [List.forall_mem_cons];exact ⟨ha,hb,hc,hd,fun _ h=>nomatch h⟩,rfl⟩
 have z:3 < sizeLine:=small1000 (by decide)
 simp only [m_law_pool,b_law_pool,b_law_pool_1,b_law_pool_2,b_law_pool_3]
 simp [q0,q1,q2,q3,ea,eb,ec,ed,z]
theorem law_number_eq (c:Int):∃n,m_law_number [.int c]=pure (.v (.int n))∧-(10 ^ 58) < n∧n < 10 ^ 58:=by
 have h:=mod_lt (a:=c / 3) (b:=10000000000000000000000000000000000000000000000000000000000) (by decide)
 have h7:=mod_lt (a:=c / 3) (b:=7) (by decide)
 simp only [m_law_number,b_law_number,b_law_number_1,b_law_number_2,b_law_number_3]
 by_cases q0:c % 3=0
 ·exact ⟨c / 3 % 10000000000000000000000000000000000000000000000000000000000,by simp [q0],by omega,by omega⟩
 ·by_cases q1:c % 3=1
  ·exact ⟨-(c / 3 % 10000000000000000000000000000000000000000000000000000000000),by simp [q0,q1],by omega,by omega⟩
  ·exact ⟨c / 3 % 7 - 3,by simp [q0,q1],by omega,by omega⟩
end K17
namespace K17
open PySem PySem.Spec L2 L3
def DgR (x:Int×D):Prop:=∃n z:D,x.2 = .tup [.int x.1,n,z]
theorem DgR.ix {x:Int×D} (h:DgR x):oIx (.v x.2) (.v (.int 0))=pure (.v (.int x.1)):=by
 obtain ⟨n,z,e⟩:=h
 rw [e]
 simp
theorem DgR.slot {x:Int×D} (h:DgR x):slotOf x.2 = .val x.2:=by
 obtain ⟨n,z,e⟩:=h
 rw [e]
 rfl
theorem doing_of_eq {l:List (Int×D)} (h:∀x∈l,DgR x) (c le sh:D) (a:Int):m_doing_of [.tup [c,.tup (l.map (·.2)),le,sh],.int a]=pure (.v ((getR (Q:=koInt.κ.toKeyOrd) l a).getD (.tup [.int a,.int 0,.non]))):=by
 have L:=for_first (b:=fun d σ=>l_doing_of_0 (σ.set 2 (.val d))) (fun x:Int×D=>x.2) (fun x=>decide (x.1=a)) (fun x=>.v x.2) (fun σ=>∃s2,σ=[.val (.tup [c,.tup (l.map (·.2)),le,sh]),.val (.int a),s2]) l [.val (.tup [c,.tup (l.map (·.2)),le,sh]),.val (.int a),.emp] ⟨_,rfl⟩
  (fun x σ hx ⟨s2,es⟩=>by
   subst es
   have ix:=(h x hx).ix
   refine ⟨fun q=>?_,fun q=>⟨[.val (.tup [c,.tup (l.map (·.2)),le,sh]),.val (.int a),.val x.2],?_,_,rfl⟩⟩
   ·have q:x.1=a:=of_decide_eq_true q
    simp only [l_doing_of_0]
    simp [ix,q]
   ·have q:¬x.1=a:=of_decide_eq_false q
    simp only [l_doing_of_0]
    simp [ix,q])
 simp only [m_doing_of,b_doing_of,b_doing_of_1]
 unfold getR
 cases e:l.find? (fun x=>decide (x.1=a)) with
 | some x=>
  have:=L.1 x e
  simp [this]
 | none=>
  obtain ⟨σ',e',s2,rfl⟩:=L.2 e
  simp [e']
theorem lam_d {x:Int×D} (h:DgR x):fnOf 1 1 (cRet (c2 oIx (cVar 0) (cK (.int 0)))) [x.2]=pure (.v (.int x.1)):=by
 have:=h.ix
 simp [h.slot,this]
theorem with_doing_eq {l:List (Int×D)} (h:∀x∈l,DgR x) (hn:(l.map (·.1)).Nodup) (hl:l.length < 63) (c le sh:D) (a:Int) (n z:D) (hs:slotOf n = .val n) (hz:slotOf z = .val z) :
  m_with_doing [.tup [c,.tup (l.map (·.2)),le,sh],.int a,n,z]=pure (.v (.tup [c,.tup ((putS (Q:=koInt.κ.toKeyOrd) l (a,.tup [.int a,n,z])).map (·.2)),le,sh])):=by
 have c1:kLoop (cT (c2 oNe (c2 oIx (cVar 0) (cK (.int 0))) (cVar 1))) (cVar 0) [.emp,.val (.int a)] (l.map (·.2))=pure ((dropR (Q:=koInt.κ.toKeyOrd) l a).map (·.2)):=
  comp_on (fun x:Int×D=>x.2) (fun x=>!decide (x.1=a)) (fun x=>x.2) l (fun x hx=>by
   have ix:=(h x hx).ix
   simp [ix]
   rfl) fun x _ _=>by simp
 have z1:l.length < sizeLine:=small1000 (by omega)
 have dl:=dropR_len (Q:=koInt.κ.toKeyOrd) l a
 have z2:(dropR (Q:=koInt.κ.toKeyOrd) l a).length < sizeLine:=small1000 (by omega)
 have so:=sort_rows (Z:=koInt) (fun _=>rfl) (mf:=fnOf 1 1 (cRet (c2 oIx (cVar 0) (cK (.int 0))))) (l:=putR (Q:=koInt.κ.toKeyOrd) l (a,.tup [.int a,n,z])) (fun x hx=>by
  rcases (putR_mem (Q:=koInt.κ.toKeyOrd)).mp hx with ⟨hx,_⟩ | rfl
  ·exact lam_d (h x hx)
  ·exact lam_d ⟨n,z,rfl⟩) (r:=.mv ((dropR (Q:=koInt.κ.toKeyOrd) l a).map (·.2) ++ [.tup [.int a,n,z]])) (by
   show some _=some _
   unfold putR
   rw [List.map_append];rfl) (putR_nodup _ hn) (by have:=putR_len (Q:=koInt.κ.toKeyOrd) l (a,.tup [.int a,n,z]);omega)
 have e_k:∀(ma:ME) (σ:En) (mf:MF),cSortK koInt mf ma σ=(do let x ←ma σ;fSortK koInt mf x):=fun _ _ _=>rfl
 simp only [m_with_doing,b_with_doing,b_with_doing_1,b_with_doing_2]
 unfold putS
 simp [hs,hz,c1,z1,z2,so,e_k]
end K17
namespace K17
open PySem PySem.Spec L2 L3
abbrev QI:=koInt.κ.toKeyOrd
structure Dgs (l:List (Int×D)) (kvs:List (Key×D)) (n:Nat):Prop where
 rise:RiseK QI l
 row:∀x∈l,DgR x∧Pln 3 x.2
 val:∀a:Int,dvalD kvs (.inl a)=getR (Q:=QI) l a
 keys:∃es:List Int,kvs.map (·.1)=es.map Sum.inl∧(l.map (·.1)).Perm es
 len:l.length≤n
theorem Dgs.lk {l:List (Int×D)} {kvs:List (Key×D)} {n:Nat} (h:Dgs l kvs n):kvs.length≤n:=by
 obtain ⟨es,h1,h2⟩:=h.keys
 refine dval_len h1 ?_
 have:=h2.length_eq
 rw [List.length_map] at this
 have:=h.len
 omega
theorem Dgs.nil:Dgs [] [] 0:=⟨.nil,by simp,fun _=>rfl,⟨[],rfl,.refl _⟩,Nat.le_refl _⟩
theorem Dgs.put {l:List (Int×D)} {kvs:List (Key×D)} {n:Nat} (h:Dgs l kvs n) {a:Int} {m z:D} (hp:Pln 3 (.tup [.int a,m,z])):Dgs (putS (Q:=QI) l (a,.tup [.int a,m,z])) (dputD kvs (.inl a) (.tup [.int a,m,z])) (n + 1):=by
 obtain ⟨es,h1,h2⟩:=h.keys
 refine ⟨putS_rise (Q:=QI) _ h.rise.nodup,fun x hx=>?_,fun b=>?_,?_,Nat.le_trans (putS_len (Q:=QI) l _) (Nat.succ_le_succ h.len)⟩
 ·rcases (putS_mem (Q:=QI)).mp hx with ⟨hx,_⟩ | rfl
  ·exact h.row x hx
  ·exact ⟨⟨m,z,rfl⟩,hp⟩
 ·rw [dval_put,getR_put (Q:=QI) _ h.rise.nodup]
  by_cases q:b=a
  ·rw [if_pos (by rw [q]),if_pos q]
  ·rw [if_neg (fun z=>q (Sum.inl.inj z)),if_neg q];exact h.val b
 ·exact keys_put (Z:=koInt) h1 h2 h.rise.nodup (a,.tup [.int a,m,z]) _ (by rw [h.val])
end K17
namespace K17
open PySem PySem.Spec L2 L3
abbrev Rws:=List (List Nat×D)
def CeR (x:List Nat×D):Prop:=Wd x.1∧∃n:Int,n≠0∧x.2 = .tup [.str (tx x.1),.int n]
theorem CeR.ix {x:List Nat×D} (h:CeR x):oIx (.v x.2) (.v (.int 0))=pure (.v (.str (tx x.1))):=by
 obtain ⟨_,n,_,e⟩:=h
 rw [e]
 simp
theorem CeR.slot {x:List Nat×D} (h:CeR x):slotOf x.2 = .val x.2:=by
 obtain ⟨_,n,_,e⟩:=h
 rw [e]
 rfl
def cellV:Option D→Int
 | some (.tup [_,.int n])=>n
 | _=>0
theorem cell_of_eq {l:Rws} (h:∀x∈l,CeR x) (d le sh:D) {a:List Nat} (ha:Wd a):m_cell_of [.tup [.tup (l.map (·.2)),d,le,sh],.str (tx a)]=pure (.v (.int (cellV (getR (Q:=QS) l a)))):=by
 have L:=for_first (b:=fun d σ=>l_cell_of_0 (σ.set 2 (.val d))) (fun x:List Nat×D=>x.2) (fun x=>decide (x.1=a)) (fun x=>.v (.int (cellV (some x.2)))) (fun σ=>∃s2,σ=[.val (.tup [.tup (l.map (·.2)),d,le,sh]),.val (.str (tx a)),s2]) l [.val (.tup [.tup (l.map (·.2)),d,le,sh]),.val (.str (tx a)),.emp] ⟨_,rfl⟩
  (fun x σ hx ⟨s2,es⟩=>by
   subst es
   have ix:=(h x hx).ix
   have eq:=eq_txt (h x hx).1.1 ha.1
   obtain ⟨_,n,_,e⟩:=h x hx
   refine ⟨fun q=>?_,fun q=>⟨[.val (.tup [.tup (l.map (·.2)),d,le,sh]),.val (.str (tx a)),.val x.2],?_,_,rfl⟩⟩
   ·rw [q] at eq
    simp only [l_cell_of_0]
    rw [e] at ix ⊢
    simp [ix,eq,cellV]
   ·rw [q] at eq
    simp only [l_cell_of_0]
    simp [ix,eq])
 simp only [m_cell_of,b_cell_of,b_cell_of_1]
 unfold getR
 cases e:l.find? (fun x=>decide (x.1=a)) with
 | some x=>
  have:=L.1 x e
  simp [this]
 | none=>
  obtain ⟨σ',e',s2,rfl⟩:=L.2 e
  simp [e',cellV]
theorem lam_c {x:List Nat×D} (h:CeR x):fnOf 1 1 (cRet (c2 oIx (cVar 0) (cK (.int 0)))) [x.2]=pure (.v (koStr.kd x.1)):=by
 have:=h.ix
 rw [kdS]
 simp [h.slot,this]
def wcell (l:Rws) (a:List Nat) (n:Int):Rws:=if n=0 then dropR (Q:=QS) l a else putS (Q:=QS) l (a,.tup [.str (tx a),.int n])
theorem wcell_rise {l:Rws} (h:RiseK QS l) (a:List Nat) (n:Int):RiseK QS (wcell l a n):=by
 unfold wcell
 split
 ·exact dropR_rise a h
 ·exact putS_rise _ h.nodup
theorem wcell_row {l:Rws} (h:∀x∈l,CeR x) {a:List Nat} (ha:Wd a) (n:Int):∀x∈wcell l a n,CeR x:=fun x hx=>by
 unfold wcell at hx
 split at hx
 ·exact h x ((dropR_mem (Q:=QS)).mp hx).1
 ·rename_i q
  rcases (putS_mem (Q:=QS)).mp hx with ⟨hx,_⟩ | rfl
  ·exact h x hx
  ·exact ⟨ha,n,q,rfl⟩
theorem wcell_get {l:Rws} (h:RiseK QS l) (a:List Nat) (n:Int) (b:List Nat):getR (Q:=QS) (wcell l a n) b=if b=a then (if n=0 then none else some (.tup [.str (tx a),.int n])) else getR (Q:=QS) l b:=by
 unfold wcell
 split
 ·rw [getR_drop (Q:=QS) a h.nodup]
 ·rw [getR_put (Q:=QS) _ h.nodup]
theorem with_cell_eq {l:Rws} (h:∀x∈l,CeR x) (hr:RiseK QS l) (hl:l.length < 63) (d le sh:D) {a:List Nat} (ha:Wd a) (n:Int) :
  m_with_cell [.tup [.tup (l.map (·.2)),d,le,sh],.str (tx a),.int n]=pure (.v (.tup [.tup ((wcell l a n).map (·.2)),d,le,sh])):=by
 have c1:kLoop (cT (c2 oNe (c2 oIx (cVar 0) (cK (.int 0))) (cVar 1))) (cVar 0) [.emp,.val (.str (tx a))] (l.map (·.2))=pure ((dropR (Q:=QS) l a).map (·.2)):=
  comp_on (fun x:List Nat×D=>x.2) (fun x=>!decide (x.1=a)) (fun x=>x.2) l (fun x hx=>by
   have ix:=(h x hx).ix
   have ne:=ne_txt (h x hx).1.1 ha.1
   simp [ix,ne]) fun x _ _=>by simp
 have z1:l.length < sizeLine:=small1000 (by omega)
 have dl:=dropR_len (Q:=QS) l a
 have z2:(dropR (Q:=QS) l a).length < sizeLine:=small1000 (by omega)
 have e_k:∀(ma:ME) (σ:En) (mf:MF),cSortK koStr mf ma σ=(do let x ←ma σ;fSortK koStr mf x):=fun _ _ _=>rfl
 simp only [m_with_cell,b_with_cell,b_with_cell_1,b_with_cell_2]
 unfold wcell
 by_cases q:n=0
 ·have so:=sort_rows (Z:=koStr) unS (mf:=fnOf 1 1 (cRet (c2 oIx (cVar 0) (cK (.int 0))))) (l:=dropR (Q:=QS) l a) (fun x hx=>lam_c (h x ((dropR_mem (Q:=QS)).mp hx).1)) (r:=.mv ((dropR (Q:=QS) l a).map (·.2))) rfl (dropR_nodup a hr.nodup) (by omega)
  rw [sortB_same (Q:=QS) (dropR_rise a hr)] at so
  rw [if_pos q]
  simp [q,c1,z1,z2,so,e_k]
 ·have so:=sort_rows (Z:=koStr) unS (mf:=fnOf 1 1 (cRet (c2 oIx (cVar 0) (cK (.int 0))))) (l:=putR (Q:=QS) l (a,.tup [.str (tx a),.int n])) (fun x hx=>by
   rcases (putR_mem (Q:=QS)).mp hx with ⟨hx,_⟩ | rfl
   ·exact lam_c (h x hx)
   ·exact lam_c ⟨ha,n,q,rfl⟩) (r:=.mv ((dropR (Q:=QS) l a).map (·.2) ++ [.tup [.str (tx a),.int n]])) (by
    show some _=some _
    unfold putR
    rw [List.map_append];rfl) (putR_nodup _ hr.nodup) (by have:=putR_len (Q:=QS) l (a,.tup [.str (tx a),.int n]);omega)
  rw [if_neg q]
  unfold putS
  simp [q,c1,z1,z2,so,e_k]
theorem cells_pln {l:Rws} (h:∀x∈l,CeR x) (hl:l.length≤1000):Pln 2 (.tup (l.map (·.2))):=pln_tup (by rw [List.length_map];exact hl) fun d hd=>by
 obtain ⟨x,hx,rfl⟩:=List.mem_map.mp hd
 obtain ⟨hw,n,_,e⟩:=h x hx
 rw [e]
 exact pln2 (pln_str hw.1) pln_int
end K17
namespace K17
open PySem PySem.Spec L2 L3
theorem with_lease_eq (c d le sh f t:D) (hf:slotOf f = .val f) (ht:slotOf t = .val t):m_with_lease [.tup [c,d,le,sh],f,t]=pure (.v (.tup [c,d,.tup [f,t],sh])):=by
 simp [m_with_lease,b_with_lease,hf,ht]
theorem with_shut_eq (c d le sh s:D) (hs:slotOf s = .val s):m_with_shut [.tup [c,d,le,sh],s]=pure (.v (.tup [c,d,le,s])):=by
 simp [m_with_shut,b_with_shut,hs]
end K17
namespace K17
open PySem PySem.Spec L2 L3
theorem at_head (x:D) (ds:List D):atI (x :: ds) 0=some x:=at_k 0 rfl
theorem tab_put:tab_DOERS.lookup ("put":Str)=some ("do_put":Str):=by
 unfold tab_DOERS
 simp only [List.lookup_cons,beq_self_eq_true]
theorem fns_do_put:fns_DOERS.lookup ("do_put":Str)=some m_do_put:=by
 unfold fns_DOERS
 simp only [List.lookup_cons,beq_self_eq_true]
theorem out_put {s a r:D} {ds:List D} (hs:slotOf s = .val s) (ha:slotOf a = .val a) (h:m_do_put [s,a,.tup (.str "put" :: ds)]=pure (.v r)):m_outcome_of [s,a,.tup (.str "put" :: ds)]=pure (.v r):=by
 simp only [m_outcome_of,b_outcome_of,b_outcome_of_1]
 simp [hs,ha,at_head,tab_put,fns_do_put,h]
theorem tab_add:tab_DOERS.lookup ("add":Str)=some ("do_add":Str):=by
 unfold tab_DOERS
 simp only [List.lookup_cons,beq_self_eq_true,ne_add_put]
theorem fns_do_add:fns_DOERS.lookup ("do_add":Str)=some m_do_add:=by
 unfold fns_DOERS
 simp only [List.lookup_cons,beq_self_eq_true,ne_do_add_do_put]
theorem out_add {s a r:D} {ds:List D} (hs:slotOf s = .val s) (ha:slotOf a = .val a) (h:m_do_add [s,a,.tup (.str "add" :: ds)]=pure (.v r)):m_outcome_of [s,a,.tup (.str "add" :: ds)]=pure (.v r):=by
 simp only [m_outcome_of,b_outcome_of,b_outcome_of_1]
 simp [hs,ha,at_head,tab_add,fns_do_add,h]
theorem tab_swap:tab_DOERS.lookup ("swap":Str)=some ("do_swap":Str):=by
 unfold tab_DOERS
 simp only [List.lookup_cons,beq_self_eq_true,ne_swap_put,ne_swap_add]
theorem fns_do_swap:fns_DOERS.lookup ("do_swap":Str)=some m_do_swap:=by
 unfold fns_DOERS
 simp only [List.lookup_cons,beq_self_eq_true,ne_do_swap_do_put,ne_do_swap_do_add]
theorem out_swap {s a r:D} {ds:List D} (hs:slotOf s = .val s) (ha:slotOf a = .val a) (h:m_do_swap [s,a,.tup (.str "swap" :: ds)]=pure (.v r)):m_outcome_of [s,a,.tup (.str "swap" :: ds)]=pure (.v r):=by
 simp only [m_outcome_of,b_outcome_of,b_outcome_of_1]
 simp [hs,ha,at_head,tab_swap,fns_do_swap,h]
theorem tab_take:tab_DOERS.lookup ("take":Str)=some ("do_take":Str):=by
 unfold tab_DOERS
 simp only [List.lookup_cons,beq_self_eq_true,ne_take_put,ne_take_add,ne_take_swap]
theorem fns_do_take:fns_DOERS.lookup ("do_take":Str)=some m_do_take:=by
 unfold fns_DOERS
 simp only [List.lookup_cons,beq_self_eq_true,ne_do_take_do_put,ne_do_take_do_add,ne_do_take_do_swap]
theorem out_take {s a r:D} {ds:List D} (hs:slotOf s = .val s) (ha:slotOf a = .val a) (h:m_do_take [s,a,.tup (.str "take" :: ds)]=pure (.v r)):m_outcome_of [s,a,.tup (.str "take" :: ds)]=pure (.v r):=by
 simp only [m_outcome_of,b_outcome_of,b_outcome_of_1]
 simp [hs,ha,at_head,tab_take,fns_do_take,h]
theorem tab_renew:tab_DOERS.lookup ("renew":Str)=some ("do_renew":Str):=by
 unfold tab_DOERS
 simp only [List.lookup_cons,beq_self_eq_true,ne_renew_put,ne_renew_add,ne_renew_swap,ne_renew_take]
theorem fns_do_renew:fns_DOERS.lookup ("do_renew":Str)=some m_do_renew:=by
 unfold fns_DOERS
 simp only [List.lookup_cons,beq_self_eq_true,ne_do_renew_do_put,ne_do_renew_do_add,ne_do_renew_do_swap,ne_do_renew_do_take]
theorem out_renew {s a r:D} {ds:List D} (hs:slotOf s = .val s) (ha:slotOf a = .val a) (h:m_do_renew [s,a,.tup (.str "renew" :: ds)]=pure (.v r)):m_outcome_of [s,a,.tup (.str "renew" :: ds)]=pure (.v r):=by
 simp only [m_outcome_of,b_outcome_of,b_outcome_of_1]
 simp [hs,ha,at_head,tab_renew,fns_do_renew,h]
theorem tab_free:tab_DOERS.lookup ("free":Str)=some ("do_free":Str):=by
 unfold tab_DOERS
 simp only [List.lookup_cons,beq_self_eq_true,ne_free_put,ne_free_add,ne_free_swap,ne_free_take,ne_free_renew]
theorem fns_do_free:fns_DOERS.lookup ("do_free":Str)=some m_do_free:=by
 unfold fns_DOERS
 simp only [List.lookup_cons,beq_self_eq_true,ne_do_free_do_put,ne_do_free_do_add,ne_do_free_do_swap,ne_do_free_do_take,ne_do_free_do_renew]
theorem out_free {s a r:D} {ds:List D} (hs:slotOf s = .val s) (ha:slotOf a = .val a) (h:m_do_free [s,a,.tup (.str "free" :: ds)]=pure (.v r)):m_outcome_of [s,a,.tup (.str "free" :: ds)]=pure (.v r):=by
 simp only [m_outcome_of,b_outcome_of,b_outcome_of_1]
 simp [hs,ha,at_head,tab_free,fns_do_free,h]
theorem tab_sure:tab_DOERS.lookup ("sure":Str)=some ("do_sure":Str):=by
 unfold tab_DOERS
 simp only [List.lookup_cons,beq_self_eq_true,ne_sure_put,ne_sure_add,ne_sure_swap,ne_sure_take,ne_sure_renew,ne_sure_free]
theorem fns_do_sure:fns_DOERS.lookup ("do_sure":Str)=some m_do_sure:=by
 unfold fns_DOERS
 simp only [List.lookup_cons,beq_self_eq_true,ne_do_sure_do_put,ne_do_sure_do_add,ne_do_sure_do_swap,ne_do_sure_do_take,ne_do_sure_do_renew,ne_do_sure_do_free]
theorem out_sure {s a r:D} {ds:List D} (hs:slotOf s = .val s) (ha:slotOf a = .val a) (h:m_do_sure [s,a,.tup (.str "sure" :: ds)]=pure (.v r)):m_outcome_of [s,a,.tup (.str "sure" :: ds)]=pure (.v r):=by
 simp only [m_outcome_of,b_outcome_of,b_outcome_of_1]
 simp [hs,ha,at_head,tab_sure,fns_do_sure,h]
theorem tab_move:tab_DOERS.lookup ("move":Str)=some ("do_move":Str):=by
 unfold tab_DOERS
 simp only [List.lookup_cons,beq_self_eq_true,ne_move_put,ne_move_add,ne_move_swap,ne_move_take,ne_move_renew,ne_move_free,ne_move_sure]
theorem fns_do_move:fns_DOERS.lookup ("do_move":Str)=some m_do_move:=by
 unfold fns_DOERS
 simp only [List.lookup_cons,beq_self_eq_true,ne_do_move_do_put,ne_do_move_do_add,ne_do_move_do_swap,ne_do_move_do_take,ne_do_move_do_renew,ne_do_move_do_free,ne_do_move_do_sure]
theorem out_move {s a r:D} {ds:List D} (hs:slotOf s = .val s) (ha:slotOf a = .val a) (h:m_do_move [s,a,.tup (.str "move" :: ds)]=pure (.v r)):m_outcome_of [s,a,.tup (.str "move" :: ds)]=pure (.v r):=by
 simp only [m_outcome_of,b_outcome_of,b_outcome_of_1]
 simp [hs,ha,at_head,tab_move,fns_do_move,h]
theorem tab_end:tab_DOERS.lookup ("end":Str)=some ("do_end":Str):=by
 unfold tab_DOERS
 simp only [List.lookup_cons,beq_self_eq_true,ne_end_put,ne_end_add,ne_end_swap,ne_end_take,ne_end_renew,ne_end_free,ne_end_sure,ne_end_move]
theorem fns_do_end:fns_DOERS.lookup ("do_end":Str)=some m_do_end:=by
 unfold fns_DOERS
 simp only [List.lookup_cons,beq_self_eq_true,ne_do_end_do_put,ne_do_end_do_add,ne_do_end_do_swap,ne_do_end_do_take,ne_do_end_do_renew,ne_do_end_do_free,ne_do_end_do_sure,ne_do_end_do_move]
theorem out_end {s a r:D} {ds:List D} (hs:slotOf s = .val s) (ha:slotOf a = .val a) (h:m_do_end [s,a,.tup (.str "end" :: ds)]=pure (.v r)):m_outcome_of [s,a,.tup (.str "end" :: ds)]=pure (.v r):=by
 simp only [m_outcome_of,b_outcome_of,b_outcome_of_1]
 simp [hs,ha,at_head,tab_end,fns_do_end,h]
end K17
namespace K17
open PySem PySem.Spec L2 L3
section
variable {l:Rws} (h:∀x∈l,CeR x) (hr:RiseK QS l) (hl:l.length < 63) (d le sh:D) {a:List Nat} (ha:Wd a) (n i:Int)
include h hr hl ha
theorem outc_put:m_outcome_of [.tup [.tup (l.map (·.2)),d,le,sh],.int i,.tup [.str "put",.str (tx a),.int n]]=pure (.v (.tup [.tup [.tup ((wcell l a n).map (·.2)),d,le,sh],.int (cellV (getR (Q:=QS) l a))])):=
 out_put rfl rfl (by
  have e1:=with_cell_eq h hr hl d le sh ha n
  have e2:=cell_of_eq h d le sh ha
  simp [m_do_put,b_do_put,e1,e2])
theorem outc_add:m_outcome_of [.tup [.tup (l.map (·.2)),d,le,sh],.int i,.tup [.str "add",.str (tx a),.int n]]=pure (.v (.tup [.tup [.tup ((wcell l a (cellV (getR (Q:=QS) l a) + n)).map (·.2)),d,le,sh],.int (cellV (getR (Q:=QS) l a) + n)])):=
 out_add rfl rfl (by
  have e1:=with_cell_eq h hr hl d le sh ha (cellV (getR (Q:=QS) l a) + n)
  have e2:=cell_of_eq h d le sh ha
  simp [m_do_add,b_do_add,b_do_add_1,e1,e2])
theorem outc_swap (o:Int):m_outcome_of [.tup [.tup (l.map (·.2)),d,le,sh],.int i,.tup [.str "swap",.str (tx a),.int o,.int n]]=pure (.v (if cellV (getR (Q:=QS) l a)=o then .tup [.tup [.tup ((wcell l a n).map (·.2)),d,le,sh],.int 1] else .tup [.tup [.tup (l.map (·.2)),d,le,sh],.int 0])):=
 out_swap rfl rfl (by
  have e1:=with_cell_eq h hr hl d le sh ha n
  have e2:=cell_of_eq h d le sh ha
  by_cases q:cellV (getR (Q:=QS) l a)=o
  ·rw [if_pos q]
   simp [m_do_swap,b_do_swap,b_do_swap_1,e1,e2,q]
  ·rw [if_neg q]
   simp [m_do_swap,b_do_swap,b_do_swap_1,e1,e2,q])
theorem outc_sure (f g:Int) (t:D) (ht:t.gd 63=true):m_outcome_of [.tup [.tup (l.map (·.2)),d,.tup [.int f,t],sh],.int i,.tup [.str "sure",.int g,.str (tx a),.int n]]=pure (.v (if (f == g && peq t (.int i))=true then .tup [.tup [.tup ((wcell l a n).map (·.2)),d,.tup [.int f,t],sh],.int 1] else .tup [.tup [.tup (l.map (·.2)),d,.tup [.int f,t],sh],.int 0])):=
 out_sure rfl rfl (by
  have e1:=with_cell_eq h hr hl d (.tup [.int f,t]) sh ha n
  have ne:oNe (.v (.tup [.int f,t])) (.v (.tup [.int g,.int i]))=pure (.v (.bl (!(f == g && peq t (.int i))))):=by
   rw [e_ne (x:=.v (.tup [.int f,t])) (y:=.v (.tup [.int g,.int i])) (gdAll_iff.mpr (by simp only [List.forall_mem_cons];exact ⟨rfl,ht,fun _ h=>nomatch h⟩)) rfl]
   simp [peq,peqAll]
  cases q:(f == g && peq t (.int i)) with
  | true=>
   rw [q] at ne
   simp [m_do_sure,b_do_sure,b_do_sure_1,m_lease_of,b_lease_of,e1,ne]
  | false=>
   rw [q] at ne
   simp [m_do_sure,b_do_sure,b_do_sure_1,m_lease_of,b_lease_of,e1,ne])
end
section
variable (c d le sh:D) (i:Int)
theorem outc_move (z:D) (hz:slotOf z = .val z):m_outcome_of [.tup [c,d,le,sh],.int i,.tup [.str "move",z]]=pure (.v (.tup [.tup [c,d,le,z],.int 1])):=
 out_move rfl rfl (by simp [m_do_move,b_do_move,with_shut_eq c d le sh z hz])
theorem outc_end:m_outcome_of [.tup [c,d,le,sh],.int i,.tup [.str "end"]]=pure (.v (.tup [.tup [c,d,le,.str "over"],.int 1])):=
 out_end rfl rfl (by simp [m_do_end,b_do_end,with_shut_eq c d le sh (.str "over") rfl])
variable (f g:Int) (t:D) (ht:t.gd 63=true) (hs:slotOf t = .val t)
theorem not_lent_eq:m_not_lent [.tup [c,d,.tup [.int f,t],sh]]=pure (.v (.tup [.tup [c,d,.tup [.int f,t],sh],.tup [.int 0,.int f,t]])):=by
 simp [m_not_lent,b_not_lent,b_not_lent_1,m_lease_of,b_lease_of]
theorem lent_eq (u:D) (hu:slotOf u = .val u):m_lent [.tup [c,d,.tup [.int f,t],sh],.int g,u]=pure (.v (.tup [.tup [c,d,.tup [.int (g + 1),u],sh],.tup [.int 1,.int (g + 1),u]])):=by
 simp [m_lent,b_lent,with_lease_eq c d (.tup [.int f,t]) sh (.int (g + 1)) u rfl hu,hu]
theorem outc_take:m_outcome_of [.tup [c,d,.tup [.int f,t],sh],.int i,.tup [.str "take",.int g]]=pure (.v (if f=g then .tup [.tup [c,d,.tup [.int (g + 1),.int i],sh],.tup [.int 1,.int (g + 1),.int i]] else .tup [.tup [c,d,.tup [.int f,t],sh],.tup [.int 0,.int f,t]])):=
 out_take rfl rfl (by
  have e1:=lent_eq c d sh f g t (.int i) rfl
  have e2:=not_lent_eq c d sh f t
  by_cases q:f=g
  ·rw [if_pos q]
   simp [m_do_take,b_do_take,b_do_take_1,m_lease_of,b_lease_of,e1,e2,q]
   rw [q] at e1
   simp [e1]
  ·rw [if_neg q]
   simp [m_do_take,b_do_take,b_do_take_1,m_lease_of,b_lease_of,e1,e2,q])
include ht
theorem ne_lease:oNe (.v (.tup [.int f,t])) (.v (.tup [.int g,.int i]))=pure (.v (.bl (!(f == g && peq t (.int i))))):=by
 rw [e_ne (x:=.v (.tup [.int f,t])) (y:=.v (.tup [.int g,.int i])) (gdAll_iff.mpr (by simp only [List.forall_mem_cons];exact ⟨rfl,ht,fun _ h=>nomatch h⟩)) rfl]
 simp [peq,peqAll]
theorem outc_renew:m_outcome_of [.tup [c,d,.tup [.int f,t],sh],.int i,.tup [.str "renew",.int g]]=pure (.v (if (f == g && peq t (.int i))=true then .tup [.tup [c,d,.tup [.int (g + 1),.int i],sh],.tup [.int 1,.int (g + 1),.int i]] else .tup [.tup [c,d,.tup [.int f,t],sh],.tup [.int 0,.int f,t]])):=
 out_renew rfl rfl (by
  have e1:=lent_eq c d sh f g t (.int i) rfl
  have e2:=not_lent_eq c d sh f t
  have ne:=ne_lease i f g t ht
  cases q:(f == g && peq t (.int i)) with
  | true=>
   rw [q] at ne
   simp [m_do_renew,b_do_renew,b_do_renew_1,m_lease_of,b_lease_of,e1,e2,ne]
  | false=>
   rw [q] at ne
   simp [m_do_renew,b_do_renew,b_do_renew_1,m_lease_of,b_lease_of,e1,e2,ne])
theorem outc_free:m_outcome_of [.tup [c,d,.tup [.int f,t],sh],.int i,.tup [.str "free",.int g]]=pure (.v (if (f == g && peq t (.int i))=true then .tup [.tup [c,d,.tup [.int (g + 1),.non],sh],.tup [.int 1,.int (g + 1),.non]] else .tup [.tup [c,d,.tup [.int f,t],sh],.tup [.int 0,.int f,t]])):=
 out_free rfl rfl (by
  have e1:=lent_eq c d sh f g t .non rfl
  have e2:=not_lent_eq c d sh f t
  have ne:=ne_lease i f g t ht
  cases q:(f == g && peq t (.int i)) with
  | true=>
   rw [q] at ne
   simp [m_do_free,b_do_free,b_do_free_1,m_lease_of,b_lease_of,e1,e2,ne]
  | false=>
   rw [q] at ne
   simp [m_do_free,b_do_free,b_do_free_1,m_lease_of,b_lease_of,e1,e2,ne])
end
end K17
namespace K17
open PySem PySem.Spec L2 L3
theorem min63 {n:Nat} (h:n≤63):fMin2 [.v (.int 63),.v (.int (n:Int))]=pure (.v (.int (n:Int))):=by
 show pure (R.v (.int (if (n:Int) < 63 then (n:Int) else 63)))=_
 by_cases q:(n:Int) < 63
 ·rw [if_pos q]
 ·rw [if_neg q]
  have:(n:Int)=63:=by omega
  rw [this]
theorem rng_at {lo:Int} {n i:Nat} {d:D} (h:(rngD lo n)[i]? = some d):∃k:Int,d = .int k∧k=lo + i:=by
 unfold rngD at h
 rw [List.getElem?_map] at h
 obtain ⟨j,hj,rfl⟩:=Option.map_eq_some_iff.mp h
 have:j=i:=by
  rw [List.getElem?_eq_some_iff] at hj
  obtain ⟨_,e⟩:=hj
  rw [List.getElem_range] at e
  exact e.symm
 subst this
 exact ⟨_,rfl,rfl⟩
end K17
namespace K17
open PySem PySem.Spec L2 L3
def NumR (x:Int×D):Prop:=∃(n:Int) (z:D),x.2 = .tup [.int x.1,.int n,z]
theorem NumR.dg {x:Int×D} (h:NumR x):DgR x:=by obtain ⟨n,z,e⟩:=h;exact ⟨_,_,e⟩
def numV:Option D→Int
 | some (.tup [_,.int n,_])=>n
 | _=>0
theorem last_of {l:List (Int×D)} (h:∀x∈l,NumR x) (a:Int):oIx (.v ((getR (Q:=koInt.κ.toKeyOrd) l a).getD (.tup [.int a,.int 0,.non]))) (.v (.int 1))=pure (.v (.int (numV (getR (Q:=koInt.κ.toKeyOrd) l a)))):=by
 cases q:getR (Q:=koInt.κ.toKeyOrd) l a with
 | none=>simp [numV]
 | some d=>
  obtain ⟨n,z,e⟩:=h _ (getR_some q)
  have e:d = .tup [.int a,.int n,z]:=e
  subst e
  simp [numV]
theorem is_shut_eq (c d le sh:D):m_is_shut [.tup [c,d,le,sh]]=(do oNotN (.v sh) (.v .non)):=by
 simp [m_is_shut,b_is_shut,m_shut_of,b_shut_of]
section
variable {l:List (Int×D)} (h:∀x∈l,NumR x) (c le sh:D) (a n:Int)
include h
theorem done_skip (ds:D) (hd:slotOf ds = .val ds) (q:ds = .non∨(∃xs,ds = .tup xs)∧(sh = .str "over"∨(∃zs,sh = .tup zs)∨sh = .non∧n≤numV (getR (Q:=koInt.κ.toKeyOrd) l a))) :
  m_done_on [.tup [c,.tup (l.map (·.2)),le,sh],.int a,.int n,ds]=pure (.v (.tup [c,.tup (l.map (·.2)),le,sh])):=by
 have e1:=doing_of_eq (fun x hx=>(h x hx).dg) c le sh a
 have e2:=last_of h a
 simp only [m_done_on,b_done_on,b_done_on_1,b_done_on_2]
 rcases q with rfl | ⟨⟨xs,rfl⟩,rfl | ⟨zs,rfl⟩ | ⟨rfl,q⟩⟩
 ·simp
 ·simp [is_shut_eq]
 ·simp [is_shut_eq]
 ·simp [is_shut_eq,e1,e2,q]
theorem done_do (xs:List D) (q:numV (getR (Q:=koInt.κ.toKeyOrd) l a) < n) (hl:l.length < 63) (hn:(l.map (·.1)).Nodup) {c' le' sh' v:D}
  (ho:m_outcome_of [.tup [c,.tup (l.map (·.2)),le,.non],.int a,.tup xs]=pure (.v (.tup [.tup [c',.tup (l.map (·.2)),le',sh'],v]))) (hv:slotOf v = .val v) :
  m_done_on [.tup [c,.tup (l.map (·.2)),le,.non],.int a,.int n,.tup xs]=pure (.v (.tup [c',.tup ((putS (Q:=koInt.κ.toKeyOrd) l (a,.tup [.int a,.int n,v])).map (·.2)),le',sh'])):=by
 have e1:=doing_of_eq (fun x hx=>(h x hx).dg) c le .non a
 have e2:=last_of h a
 have e3:=with_doing_eq (fun x hx=>(h x hx).dg) hn hl c' le' sh' a (.int n) v rfl hv
 have q':¬n≤numV (getR (Q:=koInt.κ.toKeyOrd) l a):=by omega
 simp only [m_done_on,b_done_on,b_done_on_1,b_done_on_2]
 simp [is_shut_eq,e1,e2,q',ho,e3]
end
theorem num_put {l:List (Int×D)} (h:∀x∈l,NumR x) (a n:Int) (v:D):∀x∈putS (Q:=koInt.κ.toKeyOrd) l (a,.tup [.int a,.int n,v]),NumR x:=fun x hx=>by
 rcases (putS_mem (Q:=koInt.κ.toKeyOrd)).mp hx with ⟨hx,_⟩ | rfl
 ·exact h x hx
 ·exact ⟨n,v,rfl⟩
end K17
namespace K17
open PySem PySem.Spec L2 L3
def nonB:D→Bool
 | .non=>true
 | _=>false
theorem notN_eq (d:D):oNotN (.v d) (.v .non)=pure (.v (.bl (!nonB d))):=by cases d <;> rfl
structure Sl where
 cs:Rws
 ds:List (Int×D)
 f:Int
 t:D
 sh:D
def Sl.D (s:Sl):L3.D:=.tup [.tup (s.cs.map (·.2)),.tup (s.ds.map (·.2)),.tup [.int s.f,s.t],s.sh]
inductive Dd where
 | put (a:List Nat) (n:Int) | add (a:List Nat) (n:Int) | swap (a:List Nat) (o n:Int) | take (g:Int) | renew (g:Int) | free (g:Int) | sure (g:Int) (a:List Nat) (n:Int) | move (h:D) | fin
def Dd.D:Dd→L3.D
 | .put a n=>.tup [.str "put",.str (tx a),.int n]
 | .add a n=>.tup [.str "add",.str (tx a),.int n]
 | .swap a o n=>.tup [.str "swap",.str (tx a),.int o,.int n]
 | .take g=>.tup [.str "take",.int g]
 | .renew g=>.tup [.str "renew",.int g]
 | .free g=>.tup [.str "free",.int g]
 | .sure g a n=>.tup [.str "sure",.int g,.str (tx a),.int n]
 | .move h=>.tup [.str "move",h]
 | .fin=>.tup [.str "end"]
def wD:Option Dd→L3.D
 | none=>.non
 | some d=>d.D
def Sl.cell (s:Sl) (a:List Nat):Int:=cellV (getR (Q:=QS) s.cs a)
def Sl.put (s:Sl) (a:List Nat) (n:Int):Sl:={ s with cs:=wcell s.cs a n }
def Sl.mine (s:Sl) (g i:Int):Bool:=s.f == g && peq s.t (.int i)
def outS (s:Sl) (i:Int):Dd→Sl×L3.D
 | .put a n=>(s.put a n,.int (s.cell a))
 | .add a n=>(s.put a (s.cell a + n),.int (s.cell a + n))
 | .swap a o n=>if s.cell a=o then (s.put a n,.int 1) else (s,.int 0)
 | .take g=>if s.f=g then ({ s with f:=g + 1,t:=.int i },.tup [.int 1,.int (g + 1),.int i]) else (s,.tup [.int 0,.int s.f,s.t])
 | .renew g=>if s.mine g i=true then ({ s with f:=g + 1,t:=.int i },.tup [.int 1,.int (g + 1),.int i]) else (s,.tup [.int 0,.int s.f,s.t])
 | .free g=>if s.mine g i=true then ({ s with f:=g + 1,t:=.non },.tup [.int 1,.int (g + 1),.non]) else (s,.tup [.int 0,.int s.f,s.t])
 | .sure g a n=>if s.mine g i=true then (s.put a n,.int 1) else (s,.int 0)
 | .move h=>({ s with sh:=h },.int 1)
 | .fin=>({ s with sh:=.str "over" },.int 1)
structure SlOk (G:L3.D→Prop) (W:List (List Nat)) (s:Sl):Prop where
 row:∀x∈s.cs,CeR x
 rise:RiseK QS s.cs
 nm:∀x∈s.cs,x.1∈W
 num:∀x∈s.ds,NumR x
 dr:RiseK QI s.ds
 ak:∀x∈s.ds,0≤x.1∧x.1 < 6
 tn:s.t = .non∨∃i:Int,s.t = .int i
 sh:s.sh = .non∨s.sh = .str "over"∨(∃xs,s.sh = .tup xs)∧G s.sh
 dv:∀x∈s.ds,Pln 2 x.2
def DdOk (G:L3.D→Prop) (W:List (List Nat)):Dd→Prop
 | .put a _=>Wd a∧a∈W
 | .add a _=>Wd a∧a∈W
 | .swap a _ _=>Wd a∧a∈W
 | .sure _ a _=>Wd a∧a∈W
 | .move h=>(∃xs,h = .tup xs)∧G h
 | _=>True
theorem six_mem {z:Int} (h0:0≤z) (h6:z < 6):z∈([0,1,2,3,4,5]:List Int):=by
 have e:z=0∨z=1∨z=2∨z=3∨z=4∨z=5:=by omega
 rcases e with e | e | e | e | e | e <;> rw [e] <;> simp
section
variable {G:L3.D→Prop} {W:List (List Nat)} {s:Sl} (h:SlOk G W s)
include h
theorem SlOk.cl:s.cs.length≤W.length:=by
 have:=List.Nodup.length_le_of_subset (l₂:=W) h.rise.nodup fun x hx=>by
  obtain ⟨y,hy,rfl⟩:=List.mem_map.mp hx
  exact h.nm y hy
 rwa [List.length_map] at this
theorem SlOk.dl:s.ds.length≤6:=by
 have:=List.Nodup.length_le_of_subset (l₂:=([0,1,2,3,4,5]:List Int)) h.dr.nodup fun x hx=>by
  obtain ⟨y,hy,rfl⟩:=List.mem_map.mp hx
  exact six_mem (h.ak y hy).1 (h.ak y hy).2
 rw [List.length_map] at this
 exact this
theorem SlOk.tg:s.t.gd 63=true:=by rcases h.tn with e | ⟨i,e⟩ <;> rw [e] <;> rfl
theorem out_eq (hW:W.length < 63) (i:Int) {d:Dd} (hd:DdOk G W d):m_outcome_of [s.D,.int i,d.D]=pure (.v (.tup [(outS s i d).1.D,(outS s i d).2])):=by
 have hl:s.cs.length < 63:=by have:=h.cl;omega
 have tg:=h.tg
 obtain ⟨cs,ds,f,t,sh⟩:=s
 cases d with
 | put a n=>exact outc_put h.row h.rise hl _ _ _ hd.1 n i
 | add a n=>exact outc_add h.row h.rise hl _ _ _ hd.1 n i
 | swap a o n=>
  refine (outc_swap h.row h.rise hl _ _ _ hd.1 n i o).trans ?_
  unfold outS Sl.cell
  dsimp only
  by_cases c:cellV (getR (Q:=QS) cs a)=o
  ·rw [if_pos c,if_pos c];rfl
  ·rw [if_neg c,if_neg c];rfl
 | take g=>
  refine (outc_take _ _ _ i f g t).trans ?_
  unfold outS
  dsimp only
  by_cases c:f=g
  ·rw [if_pos c,if_pos c];rfl
  ·rw [if_neg c,if_neg c];rfl
 | renew g=>
  refine (outc_renew _ _ _ i f g t tg).trans ?_
  unfold outS Sl.mine
  dsimp only
  by_cases c:(f == g && peq t (.int i))=true
  ·rw [if_pos c,if_pos c];rfl
  ·rw [if_neg c,if_neg c];rfl
 | free g=>
  refine (outc_free _ _ _ i f g t tg).trans ?_
  unfold outS Sl.mine
  dsimp only
  by_cases c:(f == g && peq t (.int i))=true
  ·rw [if_pos c,if_pos c];rfl
  ·rw [if_neg c,if_neg c];rfl
 | sure g a n=>
  refine (outc_sure h.row h.rise hl _ _ hd.1 n i f g t tg).trans ?_
  unfold outS Sl.mine
  dsimp only
  by_cases c:(f == g && peq t (.int i))=true
  ·rw [if_pos c,if_pos c];rfl
  ·rw [if_neg c,if_neg c];rfl
 | move z=>
  obtain ⟨⟨xs,rfl⟩,_⟩:=hd
  exact outc_move _ _ _ _ i _ rfl
 | fin=>exact outc_end _ _ _ _ i
end
def Sl.last (s:Sl) (i:Int):Int:=numV (getR (Q:=QI) s.ds i)
def doneS (s:Sl) (i n:Int):Option Dd→Sl
 | none=>s
 | some d=>if (nonB s.sh)=true∧s.last i < n then { (outS s i d).1 with ds:=putS (Q:=QI) s.ds (i,.tup [.int i,.int n,(outS s i d).2]) } else s
theorem out_ds (s:Sl) (i:Int) (d:Dd):(outS s i d).1.ds=s.ds:=by
 cases d <;> unfold outS <;> first | rfl | (dsimp only;split <;> rfl)
section
variable {G:L3.D→Prop} {W:List (List Nat)} {s:Sl} (h:SlOk G W s)
include h
theorem out_slot (i:Int) (d:Dd):slotOf (outS s i d).2 = .val (outS s i d).2:=by
 cases d <;> unfold outS <;> first | rfl | (dsimp only;split <;> rfl)
theorem done_eq (hW:W.length < 63) (i n:Int) {d:Option Dd} (hd:∀x,d=some x→DdOk G W x):m_done_on [s.D,.int i,.int n,wD d]=pure (.v (doneS s i n d).D):=by
 cases d with
 | none=>exact done_skip h.num _ _ _ i n .non rfl (.inl rfl)
 | some d=>
  have hd:=hd d rfl
  unfold doneS
  dsimp only
  have dt:∃xs,d.D = .tup xs:=by cases d <;> exact ⟨_,rfl⟩
  obtain ⟨xs,dt⟩:=dt
  by_cases c:(nonB s.sh)=true∧s.last i < n
  ·rw [if_pos c]
   have e0:=out_eq h hW i hd
   have od:=out_ds s i d
   have os:=out_slot h i d
   have hsh:s.sh = .non:=by
    rcases h.sh with e | e | ⟨⟨xs,e⟩,_⟩
    ·exact e
    ·rw [e] at c;cases c.1
    ·rw [e] at c;cases c.1
   have hdl:=h.dl
   have hnd:=h.dr.nodup
   have hnum:=h.num
   generalize outS s i d=o at *
   obtain ⟨⟨cs',ds',f',t',sh'⟩,v⟩:=o
   obtain ⟨cs,ds,f,t,sh⟩:=s
   dsimp only at od os hsh e0 hdl ⊢
   subst od hsh
   show m_done_on [_,_,_,d.D]=_
   unfold Sl.D at e0 ⊢
   dsimp only at e0 ⊢
   rw [dt] at e0 ⊢
   have e1:=done_do hnum (.tup (cs.map (·.2))) (.tup [.int f,t]) i n xs c.2 (show ds'.length < 63 by omega) hnd (c':=.tup (cs'.map (·.2))) (le':=.tup [.int f',t']) (sh':=sh') (v:=v)
   exact e1 e0 os
  ·rw [if_neg c]
   show m_done_on [_,_,_,d.D]=_
   rw [dt]
   refine done_skip h.num _ _ _ i n (.tup xs) rfl (.inr ⟨⟨_,rfl⟩,?_⟩)
   rcases h.sh with e | e | ⟨⟨zs,e⟩,_⟩
   ·refine .inr (.inr ⟨e,?_⟩)
    rw [e] at c
    have:¬s.last i < n:=fun z=>c ⟨rfl,z⟩
    unfold Sl.last at this
    omega
   ·exact .inl e
   ·exact .inr (.inl ⟨zs,e⟩)
end
section
variable {G:L3.D→Prop} {W:List (List Nat)} {s:Sl} (h:SlOk G W s)
include h
theorem SlOk.put {a:List Nat} (ha:Wd a) (hw:a∈W) (n:Int):SlOk G W (s.put a n) where
 row:=wcell_row h.row ha n
 rise:=wcell_rise h.rise a n
 nm:=fun x hx=>by
  have hx:x∈wcell s.cs a n:=hx
  unfold wcell at hx
  split at hx
  ·exact h.nm x ((dropR_mem (Q:=QS)).mp hx).1
  ·rcases (putS_mem (Q:=QS)).mp hx with ⟨hx,_⟩ | rfl
   ·exact h.nm x hx
   ·exact hw
 num:=h.num
 dr:=h.dr
 ak:=h.ak
 tn:=h.tn
 sh:=h.sh
 dv:=h.dv
theorem SlOk.lease (f:Int) {t:L3.D} (ht:t = .non∨∃i:Int,t = .int i):SlOk G W { s with f:=f,t:=t }:=⟨h.row,h.rise,h.nm,h.num,h.dr,h.ak,ht,h.sh,h.dv⟩
theorem SlOk.shut {z:L3.D} (hz:z = .non∨z = .str "over"∨(∃xs,z = .tup xs)∧G z):SlOk G W { s with sh:=z }:=⟨h.row,h.rise,h.nm,h.num,h.dr,h.ak,h.tn,hz,h.dv⟩
theorem out_ok (i:Int) {d:Dd} (hd:DdOk G W d):SlOk G W (outS s i d).1:=by
 cases d with
 | put a n=>exact h.put hd.1 hd.2 n
 | add a n=>exact h.put hd.1 hd.2 _
 | swap a o n=>
  unfold outS;dsimp only;split
  ·exact h.put hd.1 hd.2 n
  ·exact h
 | take g=>
  unfold outS;dsimp only;split
  ·exact h.lease _ (.inr ⟨_,rfl⟩)
  ·exact h
 | renew g=>
  unfold outS;dsimp only;split
  ·exact h.lease _ (.inr ⟨_,rfl⟩)
  ·exact h
 | free g=>
  unfold outS;dsimp only;split
  ·exact h.lease _ (.inl rfl)
  ·exact h
 | sure g a n=>
  unfold outS;dsimp only;split
  ·exact h.put hd.1 hd.2 n
  ·exact h
 | move z=>exact h.shut (.inr (.inr hd))
 | fin=>exact h.shut (.inr (.inl rfl))
theorem out_ans (i:Int) (d:Dd):Pln 1 (outS s i d).2:=by
 have ht:Pln 0 s.t:=by
  rcases h.tn with e | ⟨i,e⟩
  ·rw [e];exact pln_non
  ·rw [e];exact pln_int
 cases d with
 | put a n=>exact pln_int
 | add a n=>exact pln_int
 | swap a o n=>
  unfold outS;dsimp only;split <;> exact pln_int
 | take g=>
  unfold outS;dsimp only;split
  ·exact pln3 pln_int pln_int pln_int
  ·exact pln3 pln_int pln_int ht
 | renew g=>
  unfold outS;dsimp only;split
  ·exact pln3 pln_int pln_int pln_int
  ·exact pln3 pln_int pln_int ht
 | free g=>
  unfold outS;dsimp only;split
  ·exact pln3 pln_int pln_int pln_non
  ·exact pln3 pln_int pln_int ht
 | sure g a n=>
  unfold outS;dsimp only;split <;> exact pln_int
 | move z=>exact pln_int
 | fin=>exact pln_int
theorem done_ok {i:Int} (h0:0≤i) (h6:i < 6) (n:Int) {d:Option Dd} (hd:∀x,d=some x→DdOk G W x):SlOk G W (doneS s i n d):=by
 cases d with
 | none=>exact h
 | some d=>
  have o:=out_ok h i (hd d rfl)
  unfold doneS
  dsimp only
  split
  ·refine ⟨o.row,o.rise,o.nm,?_,?_,?_,o.tn,o.sh,?_⟩
   ·exact num_put h.num i n _
   ·exact putS_rise _ h.dr.nodup
   ·intro x hx
    rcases (putS_mem (Q:=QI)).mp hx with ⟨hx,_⟩ | rfl
    ·exact h.ak x hx
    ·exact ⟨h0,h6⟩
   ·intro x hx
    rcases (putS_mem (Q:=QI)).mp hx with ⟨hx,_⟩ | rfl
    ·exact h.dv x hx
    ·exact pln3 pln_int pln_int (out_ans h i d)
  ·exact h
theorem SlOk.pln (hW:W.length≤1000) (hG:∀z,G z→Pln 9 z):Pln 10 s.D:=by
 have hc:=h.cl
 have hd:=h.dl
 refine pln4 (n:=9) (pln_mono (n:=3) (pln_tup (n:=2) (by rw [List.length_map];omega) fun x hx=>?_) (by decide)) (pln_mono (n:=3) (pln_tup (n:=2) (by rw [List.length_map];omega) fun x hx=>?_) (by decide)) (pln_mono (n:=1) (pln2 pln_int ?_) (by decide)) ?_
 ·obtain ⟨y,hy,rfl⟩:=List.mem_map.mp hx
  obtain ⟨w,n,_,e⟩:=h.row y hy
  rw [e]
  exact pln_mono (n:=1) (pln2 (pln_str w.1) pln_int) (by decide)
 ·obtain ⟨y,hy,rfl⟩:=List.mem_map.mp hx
  exact h.dv y hy
 ·rcases h.tn with e | ⟨i,e⟩
  ·rw [e];exact pln_non
  ·rw [e];exact pln_int
 ·rcases h.sh with e | e | ⟨_,g⟩
  ·rw [e];exact pln_non
  ·rw [e];exact pln_str (by decide +kernel)
  ·exact hG _ g
end
end K17
namespace K17
open PySem PySem.Spec L2 L3
abbrev moveH:D:=.tup [.tup [.int 2,.tup [.int 0,.int 1,.int 2]],.tup [.int 2,.tup [.int 0,.int 1,.int 2]]]
theorem pln_moveH:Pln 3 moveH:=pln2 (pln2 pln_int (pln3 pln_int pln_int pln_int)) (pln2 pln_int (pln3 pln_int pln_int pln_int))
theorem seq_nx {a b:MS} {σ σ':En} (h:a σ=pure (.nx σ')):cSeq a b σ=b σ':=by
 show (a σ >>= _)=_
 rw [h];rfl
theorem seq_rt {a b:MS} {σ:En} {r:R} (h:a σ=pure (.rt r)):cSeq a b σ=pure (.rt r):=by
 show (a σ >>= _)=_
 rw [h];rfl
theorem if_seq {c:En→M Bool} {r:R} {e b:MS} {σ:En} {q:Prop} [Decidable q] (hc:c σ=pure (decide q)) (h:q→e σ=pure (.rt r)):cSeq (cIfS c e cPass) b σ=if q then pure (.rt r) else b σ:=by
 by_cases c':q
 ·rw [if_pos c']
  refine seq_rt ?_
  simp [hc,c',h c']
 ·rw [if_neg c']
  refine seq_nx ?_
  simp [hc,c']
def D17 (ws:List (List Nat)):Dd→Prop
 | .put a _=>Wd a∧a∈ws.take 3
 | .add a _=>Wd a∧a∈ws
 | .swap a _ _=>Wd a∧a∈ws.take 3
 | .sure _ a _=>Wd a∧a∈ws.take 3
 | .move h=>h=moveH
 | _=>True
theorem D17.ok {ws:List (List Nat)} {d:Dd} (h:D17 ws d):DdOk (·=moveH) ws d:=by
 cases d with
 | put a n=>exact ⟨h.1,List.mem_of_mem_take h.2⟩
 | add a n=>exact h
 | swap a o n=>exact ⟨h.1,List.mem_of_mem_take h.2⟩
 | sure g a n=>exact ⟨h.1,List.mem_of_mem_take h.2⟩
 | move z=>exact ⟨⟨_,h⟩,h⟩
 | _=>trivial
theorem lt_eq {s0 s1 s2 s3 s5 s6 s7:Slot} {m n:Int}:cT (c2 oLt (cVar 4) (cK (.int n))) [s0,s1,s2,s3,.val (.int m),s5,s6,s7]=pure (decide (m < n)):=by
 by_cases q:m < n <;> simp [q]
theorem law_deed_in {s0:Slot} (mx f m n:Int) (h20:0≤m∧m < 20) {ws:List (List Nat)} (w v:List Nat) (hw:Wd w∧w∈ws.take 3) (hv:Wd v∧v∈ws) (at3:atI (ws.map fun a=>D.str (tx a)) 3=some (.str (tx v))) :
  ∃d:Option Dd,b_law_deed_3 [s0,.val (.int mx),.vw (ws.map fun a=>.str (tx a)),.val (.int f),.val (.int m),.val (.str (tx w)),.val (.int n),.emp]=pure (.rt (.v (wD d)))∧∀x,d=some x→D17 ws x:=by
 have some':∀x:Dd,D17 ws x→∀y,some x=some y→D17 ws y:=fun x h y e=>by cases e;exact h
 rw [b_law_deed_3,if_seq (r:=.v (Dd.add v n).D) lt_eq (fun _=>by simp [at3,Dd.D])]
 by_cases q1:m < 6
 ·exact ⟨some (.add v n),if_pos q1,some' _ hv⟩
 rw [if_neg q1,b_law_deed_4,if_seq (r:=.v (Dd.add w n).D) lt_eq (fun _=>by simp [Dd.D])]
 by_cases q2:m < 8
 ·exact ⟨some (.add w n),if_pos q2,some' _ ⟨hw.1,List.mem_of_mem_take hw.2⟩⟩
 rw [if_neg q2,b_law_deed_5,if_seq (r:=.v (Dd.put w n).D) lt_eq (fun _=>by simp [Dd.D])]
 by_cases q3:m < 10
 ·exact ⟨some (.put w n),if_pos q3,some' _ hw⟩
 have h3:=mod_lt (a:=mx / 3) (b:=3) (by decide)
 obtain ⟨o,eo⟩:∃o:Int,atI [D.int 0,.int n,.int 5] (mx / 3 % 3)=some (.int o):=by
  have:mx / 3 % 3=0∨mx / 3 % 3=1∨mx / 3 % 3=2:=by omega
  rcases this with e | e | e <;> rw [e] <;> exact ⟨_,rfl⟩
 rw [if_neg q3,b_law_deed_6,if_seq (r:=.v (Dd.swap w o (n + 1)).D) lt_eq (fun _=>by simp [Dd.D,eo])]
 by_cases q4:m < 12
 ·exact ⟨some (.swap w o (n + 1)),if_pos q4,some' _ hw⟩
 rw [if_neg q4,b_law_deed_7]
 by_cases q5:m < 18
 ·have q6:m=12∨m=13∨m=14∨m=15∨m=16∨m=17:=by omega
  have a0:∀(xs:List D) (i:Nat) (d:D),xs[i]? = some d→atI xs (i:Nat)=some d:=fun xs i d h=>at_k i h
  have b0:=a0 [.str "take",.str "renew",.str "free",.str "sure",.str "sure",.str "take"] 0 _ rfl
  have b1:=a0 [.str "take",.str "renew",.str "free",.str "sure",.str "sure",.str "take"] 1 _ rfl
  have b2:=a0 [.str "take",.str "renew",.str "free",.str "sure",.str "sure",.str "take"] 2 _ rfl
  have b3:=a0 [.str "take",.str "renew",.str "free",.str "sure",.str "sure",.str "take"] 3 _ rfl
  have b4:=a0 [.str "take",.str "renew",.str "free",.str "sure",.str "sure",.str "take"] 4 _ rfl
  have b5:=a0 [.str "take",.str "renew",.str "free",.str "sure",.str "sure",.str "take"] 5 _ rfl
  have c1:oEq (.v (.str "take")) (.v (.str "sure"))=pure (.v (.bl false)):=by kernel_rfl
  have c2:oEq (.v (.str "renew")) (.v (.str "sure"))=pure (.v (.bl false)):=by kernel_rfl
  have c3:oEq (.v (.str "free")) (.v (.str "sure"))=pure (.v (.bl false)):=by kernel_rfl
  have c4:oEq (.v (.str "sure")) (.v (.str "sure"))=pure (.v (.bl true)):=by kernel_rfl
  simp only [Int.natCast_zero,Int.natCast_one,Int.cast_ofNat_Int] at b0 b1 b2 b3 b4 b5
  rcases q6 with e | e | e | e | e | e <;> subst e
  ·exact ⟨some (.take f),seq_rt (by simp [Dd.D,wD,b0,c1]),some' _ trivial⟩
  ·exact ⟨some (.renew f),seq_rt (by simp [Dd.D,wD,b1,c2]),some' _ trivial⟩
  ·exact ⟨some (.free f),seq_rt (by simp [Dd.D,wD,b2,c3]),some' _ trivial⟩
  ·exact ⟨some (.sure f w n),seq_rt (by simp [Dd.D,wD,b3,c4]),some' _ hw⟩
  ·exact ⟨some (.sure f w n),seq_rt (by simp [Dd.D,wD,b4,c4]),some' _ hw⟩
  ·exact ⟨some (.take f),seq_rt (by simp [Dd.D,wD,b5,c1]),some' _ trivial⟩
 rw [seq_nx (σ':=[s0,.val (.int mx),.vw (ws.map fun a=>.str (tx a)),.val (.int f),.val (.int m),.val (.str (tx w)),.val (.int n),.emp]) (by simp [q5])]
 rw [b_law_deed_8]
 have h4:=mod_lt (a:=mx / 9) (b:=4) (by decide)
 by_cases q6:m=18∨mx / 9 % 4 > 0
 ·refine ⟨none,seq_rt ?_,fun x e=>by cases e⟩
  rcases q6 with rfl | q6
  ·simp [wD]
  ·by_cases q7:m=18
   ·subst q7;simp [wD]
   ·simp [q6,q7,wD]
 ·have q7:¬m=18:=fun z=>q6 (.inl z)
  have q8:¬mx / 9 % 4 > 0:=fun z=>q6 (.inr z)
  have h2:=mod_lt (a:=mx / 36) (b:=2) (by decide)
  have b0:atI [D.tup [.str "end"],.tup [.str "move",moveH]] 0=some (.tup [.str "end"]):=rfl
  have b1:atI [D.tup [.str "end"],.tup [.str "move",moveH]] 1=some (.tup [.str "move",moveH]):=rfl
  have q9:mx / 36 % 2=0∨mx / 36 % 2=1:=by omega
  rcases q9 with e | e
  ·exact ⟨some .fin,(seq_nx (σ':=[s0,.val (.int mx),.vw (ws.map fun a=>.str (tx a)),.val (.int f),.val (.int m),.val (.str (tx w)),.val (.int n),.emp]) (by simp [q7,q8])).trans (by simp [b_law_deed_9,e,b0,wD,Dd.D]),some' _ trivial⟩
  ·exact ⟨some (.move moveH),(seq_nx (σ':=[s0,.val (.int mx),.vw (ws.map fun a=>.str (tx a)),.val (.int f),.val (.int m),.val (.str (tx w)),.val (.int n),.emp]) (by simp [q7,q8])).trans (by simp [b_law_deed_9,e,b1,wD,Dd.D]),some' _ rfl⟩
theorem law_deed_eq (c mx f:Int) {ws:List (List Nat)} (hw:∀a∈ws,Wd a) (hl:ws.length=4):∃d:Option Dd,m_law_deed [.int c,.int mx,.lst (ws.map fun a=>.str (tx a)),.int f]=pure (.v (wD d))∧∀x,d=some x→D17 ws x:=by
 have h4:=mod_lt (a:=mx) (b:=3) (by decide)
 obtain ⟨j,hj⟩:∃j:Nat,mx % 3=(j:Nat):=⟨(mx % 3).toNat,by omega⟩
 have hjl:j < ws.length:=by omega
 have at':atI (ws.map fun a=>D.str (tx a)) (j:Int)=some (.str (tx ws[j])):=at_k j (by rw [List.getElem?_map,List.getElem?_eq_getElem hjl];rfl)
 have at3:atI (ws.map fun a=>D.str (tx a)) 3=some (.str (tx (ws[3]'(by omega)))):=at_k 3 (by rw [List.getElem?_map,List.getElem?_eq_getElem (by omega)];rfl)
 have wj:Wd ws[j]∧ws[j]∈ws.take 3:=⟨hw ws[j] (List.getElem_mem hjl),by
  rw [List.mem_take_iff_getElem]
  exact ⟨j,by omega,rfl⟩⟩
 have w3:Wd (ws[3]'(by omega))∧(ws[3]'(by omega))∈ws:=⟨hw _ (List.getElem_mem _),List.getElem_mem _⟩
 obtain ⟨n,en,_⟩:=law_number_eq (c / 20)
 have h20:=mod_lt (a:=c) (b:=20) (by decide)
 obtain ⟨d,e,h⟩:=law_deed_in (s0:=.val (.int c)) mx f (c % 20) n h20 _ _ wj w3 at3
 exact ⟨d,by
  simp only [m_law_deed,b_law_deed,b_law_deed_1,b_law_deed_2]
  simp [hj,at',en,e],h⟩
end K17
namespace K17
open PySem PySem.Spec L2 L3
def Ten (t:D):Prop:=t = .non∨∃j:Int,0≤j∧j < 6∧t = .int j
section
variable (f a:Int) {t:D}
theorem ne_non:oNe (.v .non) (.v (.int a))=pure (.v (.bl true)):=by kernel_rfl
theorem in_put:oIn true (.v (.str "put")) (.v (.tup [.str "take",.str "renew",.str "free"]))=pure (.v (.bl true)):=by kernel_rfl
theorem in_add:oIn true (.v (.str "add")) (.v (.tup [.str "take",.str "renew",.str "free"]))=pure (.v (.bl true)):=by kernel_rfl
theorem in_swap:oIn true (.v (.str "swap")) (.v (.tup [.str "take",.str "renew",.str "free"]))=pure (.v (.bl true)):=by kernel_rfl
theorem in_sure:oIn true (.v (.str "sure")) (.v (.tup [.str "take",.str "renew",.str "free"]))=pure (.v (.bl true)):=by kernel_rfl
theorem in_move:oIn true (.v (.str "move")) (.v (.tup [.str "take",.str "renew",.str "free"]))=pure (.v (.bl true)):=by kernel_rfl
theorem in_end:oIn true (.v (.str "end")) (.v (.tup [.str "take",.str "renew",.str "free"]))=pure (.v (.bl true)):=by kernel_rfl
theorem in_take:oIn true (.v (.str "take")) (.v (.tup [.str "take",.str "renew",.str "free"]))=pure (.v (.bl false)):=by kernel_rfl
theorem in_renew:oIn true (.v (.str "renew")) (.v (.tup [.str "take",.str "renew",.str "free"]))=pure (.v (.bl false)):=by kernel_rfl
theorem in_free:oIn true (.v (.str "free")) (.v (.tup [.str "take",.str "renew",.str "free"]))=pure (.v (.bl false)):=by kernel_rfl
theorem nt_take:oNe (.v (.str "take")) (.v (.str "take"))=pure (.v (.bl false)):=by kernel_rfl
theorem nt_renew:oNe (.v (.str "renew")) (.v (.str "take"))=pure (.v (.bl true)):=by kernel_rfl
theorem nt_free:oNe (.v (.str "free")) (.v (.str "take"))=pure (.v (.bl true)):=by kernel_rfl
theorem ef_take:oEq (.v (.str "take")) (.v (.str "free"))=pure (.v (.bl false)):=by kernel_rfl
theorem ef_renew:oEq (.v (.str "renew")) (.v (.str "free"))=pure (.v (.bl false)):=by kernel_rfl
theorem ef_free:oEq (.v (.str "free")) (.v (.str "free"))=pure (.v (.bl true)):=by kernel_rfl
theorem at_of (i:Nat) {xs:List D} {d:D} (h:xs[i]? = some d):atI xs (i:Nat)=some d:=at_k i h
theorem law_lent_eq (ht:Ten t) (h0:0≤a) (h6:a < 6) (d:Dd):∃(f':Int) (t':D),m_law_lent [.tup [.int f,t],.int a,d.D]=pure (.v (.tup [.int f',t']))∧Ten t':=by
 have i0:atI [D.int a,.non] 0=some (.int a):=rfl
 have i1:atI [D.int a,.non] 1=some .non:=rfl
 have st:slotOf t = .val t:=by rcases ht with rfl | ⟨j,_,_,rfl⟩ <;> rfl
 have ta:Ten (.int a):=.inr ⟨a,h0,h6,rfl⟩
 cases d with
 | put w n=>exact ⟨f,t,by simp [m_law_lent,b_law_lent,Dd.D,in_put],ht⟩
 | add w n=>exact ⟨f,t,by simp [m_law_lent,b_law_lent,Dd.D,in_add],ht⟩
 | swap w o n=>exact ⟨f,t,by simp [m_law_lent,b_law_lent,Dd.D,in_swap],ht⟩
 | sure g w n=>exact ⟨f,t,by simp [m_law_lent,b_law_lent,Dd.D,in_sure],ht⟩
 | move z=>exact ⟨f,t,by simp [m_law_lent,b_law_lent,Dd.D,in_move],ht⟩
 | fin=>exact ⟨f,t,by simp [m_law_lent,b_law_lent,Dd.D,in_end],ht⟩
 | take g=>
  by_cases c:g=f
  ·subst c
   exact ⟨g + 1,.int a,by simp [m_law_lent,b_law_lent,b_law_lent_1,b_law_lent_2,Dd.D,in_take,nt_take,ef_take,i0],ta⟩
  ·exact ⟨f,t,by simp [m_law_lent,b_law_lent,Dd.D,in_take,c],ht⟩
 | renew g=>
  by_cases c:g=f
  ·subst c
   rcases ht with rfl | ⟨j,j0,j6,rfl⟩
   ·exact ⟨g,.non,by simp [m_law_lent,b_law_lent,b_law_lent_1,Dd.D,in_renew,nt_renew,ne_non],.inl rfl⟩
   ·by_cases c:j=a
    ·subst c
     exact ⟨g + 1,.int j,by simp [m_law_lent,b_law_lent,b_law_lent_1,b_law_lent_2,Dd.D,in_renew,nt_renew,ef_renew,i0],ta⟩
    ·exact ⟨g,.int j,by simp [m_law_lent,b_law_lent,b_law_lent_1,Dd.D,in_renew,nt_renew,c],.inr ⟨j,j0,j6,rfl⟩⟩
  ·exact ⟨f,t,by simp [m_law_lent,b_law_lent,Dd.D,in_renew,c],ht⟩
 | free g=>
  by_cases c:g=f
  ·subst c
   rcases ht with rfl | ⟨j,j0,j6,rfl⟩
   ·exact ⟨g,.non,by simp [m_law_lent,b_law_lent,b_law_lent_1,Dd.D,in_free,nt_free,ne_non],.inl rfl⟩
   ·by_cases c:j=a
    ·subst c
     exact ⟨g + 1,.non,by simp [m_law_lent,b_law_lent,b_law_lent_1,b_law_lent_2,Dd.D,in_free,nt_free,ef_free,i1],.inl rfl⟩
    ·exact ⟨g,.int j,by simp [m_law_lent,b_law_lent,b_law_lent_1,Dd.D,in_free,nt_free,c],.inr ⟨j,j0,j6,rfl⟩⟩
  ·exact ⟨f,t,by simp [m_law_lent,b_law_lent,Dd.D,in_free,c],ht⟩
end
structure Rw where
 a:Int
 n:Int
 d:Option Dd
def Rw.D (r:Rw):L3.D:=.tup [.int r.a,.int r.n,wD r.d]
structure RwOk (ws:List (List Nat)) (r:Rw):Prop where
 lo:0≤r.a
 hi:r.a < 6
 pos:1≤r.n
 dd:∀x,r.d=some x→D17 ws x
def IntT (kvs:List (Key×L3.D)):Prop:=∀a:Int,∃n:Int,(dvalD kvs (.inl a)).getD (.int 0) = .int n
theorem wD_slot (d:Option Dd):slotOf (wD d) = .val (wD d):=by
 cases d with
 | none=>rfl
 | some d=>cases d <;> rfl
end K17
namespace K17
open PySem PySem.Spec L2 L3
theorem max2_eq (a b:Int):∃m:Int,fMax2 [.v (.int a),.v (.int b)]=pure (.v (.int m))∧a≤m∧b≤m∧(m=a∨m=b):=by
 by_cases c:b > a
 ·exact ⟨b,by simp [fMax2,c],by omega,Int.le_refl _,.inr rfl⟩
 ·exact ⟨a,by simp [fMax2,c],Int.le_refl _,by omega,.inl rfl⟩
theorem IntT.put {kvs:List (Key×D)} (h:IntT kvs) (a n:Int):IntT (dputD kvs (.inl a) (.int n)):=fun b=>by
 rw [dval_put]
 split
 ·exact ⟨n,rfl⟩
 ·exact h b
abbrev St17 (ns:List Int) (ws:List (List Nat)) (rs:List Rw) (kl kk:List (Key×D)) (f:Int) (t:D) (s6 s7 s8 s9 s10:Slot):En:=
 [.vw (ns.map D.int),.vw (ws.map fun a=>.str (tx a)),.ow false (rs.map Rw.D),.dct kl,.dct kk,.val (.tup [.int f,t]),s6,s7,s8,s9,s10]
structure LR (ws:List (List Nat)) (i:Nat) (rs:List Rw) (kl kk:List (Key×D)) (t:D):Prop where
 rw':∀r∈rs,RwOk ws r
 len:rs.length=i
 il:IntT kl
 ik:IntT kk
 nl:kl.length≤i
 nk:kk.length≤i
 ten:Ten t
inductive LSr (ns:List Int) (ws:List (List Nat)) (i:Nat):En→Prop
 | mk {rs:List Rw} {kl kk:List (Key×D)} {f:Int} {t:D} {s6 s7 s8 s9 s10:Slot} (h:LR ws i rs kl kk t):LSr ns ws i (St17 ns ws rs kl kk f t s6 s7 s8 s9 s10)
theorem turn17 {ns:List Int} {ws:List (List Nat)} (hw:∀a∈ws,Wd a) (hl:ws.length=4) {i:Nat} {rs:List Rw} {kl kk:List (Key×D)} {f:Int} {t:D} {s7 s8 s9 s10:Slot} (h:LR ws i rs kl kk t) (hi:i < 60) {k:Int} (k0:0≤k) (k1:k < 63) {c:Int} (atk:atI (ns.map D.int) k=some (.int c)) :
  ∃σ',l_law_rows_0 (St17 ns ws rs kl kk f t (.val (.int k)) s7 s8 s9 s10)=pure (.nx σ')∧LSr ns ws (i + 1) σ':=by
 have mk1:CMulB k k:=mulS (by omega) (by omega)
 obtain ⟨mx,emx⟩:∃x,(c * 48271 + k * k * 7919) % 2147483647=x:=⟨_,rfl⟩
 rw [l_law_rows_0,seq_nx (σ':=St17 ns ws rs kl kk f t (.val (.int k)) (.val (.int mx)) s8 s9 s10) (by simp [atk,mk1,emx])]
 have h6:=mod_lt (a:=mx / 72) (b:=6) (by decide)
 rw [seq_nx (σ':=St17 ns ws rs kl kk f t (.val (.int k)) (.val (.int mx)) (.val (.int (mx / 72 % 6))) s9 s10) (by simp)]
 obtain ⟨a,a0,a6,ea⟩:∃a:Int,0≤a∧a < 6∧cIfS (tAndM (cT (c2 oEq (c2 oMod (c2 oDivB (cVar 7) (cK (.int 2592))) (cK (.int 2))) (cK (.int 1)))) (cT (c2 oNotN (c2 oIx (cVar 5) (cK (.int 1))) (cK (.non))))) (cSet 8 (c2 oIx (cVar 5) (cK (.int 1)))) cPass (St17 ns ws rs kl kk f t (.val (.int k)) (.val (.int mx)) (.val (.int (mx / 72 % 6))) s9 s10)=pure (.nx (St17 ns ws rs kl kk f t (.val (.int k)) (.val (.int mx)) (.val (.int a)) s9 s10)):=by
  by_cases q:mx / 2592 % 2=1
  ·rcases h.ten with rfl | ⟨j,j0,j6,rfl⟩
   ·exact ⟨_,h6.1,h6.2,by simp [q,notN_eq,nonB]⟩
   ·exact ⟨j,j0,j6,by simp [q,notN_eq,nonB]⟩
  ·exact ⟨_,h6.1,h6.2,by simp [q]⟩
 rw [seq_nx ea]
 obtain ⟨la,el⟩:=h.il a
 have p30:oPow (.v (.int 10)) (.v (.int 30))=pure (.v (.int 1000000000000000000000000000000)):=by kernel_rfl
 obtain ⟨v,ev,w,rfl⟩:=pick (fun v=>∃w:Int,v = .int w) [.int 0,.int (-1),.int 1,.int 1,.int 1,.int 1000000000000000000000000000000] (mx / 432) 6 rfl (by decide) (by
  simp only [List.forall_mem_cons]
  exact ⟨⟨_,rfl⟩,⟨_,rfl⟩,⟨_,rfl⟩,⟨_,rfl⟩,⟨_,rfl⟩,⟨_,rfl⟩,fun _ h=>nomatch h⟩)
 obtain ⟨num,en,n1,_,_⟩:=max2_eq 1 (la + w)
 rw [seq_nx (σ':=St17 ns ws rs kl kk f t (.val (.int k)) (.val (.int mx)) (.val (.int a)) (.val (.int num)) s10) (by simp [el,p30,ev,en])]
 obtain ⟨la',ela,_,_,_⟩:=max2_eq num la
 have lk:kl.length < 1000:=by have:=h.nl;omega
 rw [seq_nx (σ':=St17 ns ws rs (dputD kl (.inl a) (.int la')) kk f t (.val (.int k)) (.val (.int mx)) (.val (.int a)) (.val (.int num)) s10) (by simp [el,ela,lk])]
 obtain ⟨v2,ev2,w2,rfl⟩:=pick (fun v=>∃w:Int,v = .int w) [.int 0,.int 0,.int 0,.int 0,.int 1,.int (-1)] (mx / 5184) 6 rfl (by decide) (by
  simp only [List.forall_mem_cons]
  exact ⟨⟨_,rfl⟩,⟨_,rfl⟩,⟨_,rfl⟩,⟨_,rfl⟩,⟨_,rfl⟩,⟨_,rfl⟩,fun _ h=>nomatch h⟩)
 obtain ⟨g,eg,_,_,_⟩:=max2_eq 0 (f + w2)
 obtain ⟨d,ed,hd⟩:=law_deed_eq c mx g hw hl
 have sd:=wD_slot d
 rw [seq_nx (σ':=St17 ns ws rs (dputD kl (.inl a) (.int la')) kk f t (.val (.int k)) (.val (.int mx)) (.val (.int a)) (.val (.int num)) (.val (wD d))) (by simp [atk,ev2,eg,ed,sd])]
 obtain ⟨ka,eka⟩:=h.ik a
 have lkk:kk.length < 1000:=by have:=h.nk;omega
 have ln:=dput_len kl (.inl a) (.int la')
 have ln2:=dput_len kk (.inl a) (.int num)
 have fin:∀(kk':List (Key×D)) (f':Int) (t':D),IntT kk'→kk'.length≤i + 1→Ten t'→∃σ',cMutS 2 uAppend (cCons (cTup (cCons (cVar 8) (cCons (cVar 9) (cCons (cVar 10) cNil)))) cNil) (St17 ns ws rs (dputD kl (.inl a) (.int la')) kk' f' t' (.val (.int k)) (.val (.int mx)) (.val (.int a)) (.val (.int num)) (.val (wD d)))=pure (.nx σ')∧LSr ns ws (i + 1) σ':=fun kk' f' t' i1 l1 T1=>by
  have z:rs.length < sizeLine:=small1000 (by have:=h.len;omega)
  refine ⟨St17 ns ws (rs ++ [⟨a,num,d⟩]) (dputD kl (.inl a) (.int la')) kk' f' t' (.val (.int k)) (.val (.int mx)) (.val (.int a)) (.val (.int num)) (.val (wD d)),?_,.mk ⟨fun r hr=>?_,?_,h.il.put a la',i1,?_,l1,T1⟩⟩
  ·simp [z,Rw.D,St17]
  ·rcases List.mem_append.mp hr with hr | hr
   ·exact h.rw' r hr
   ·rw [List.mem_singleton.mp hr];exact ⟨a0,a6,n1,hd⟩
  ·rw [List.length_append,h.len];rfl
  ·have:=h.nl;omega
 cases d with
 | none=>
  rw [seq_nx (σ':=St17 ns ws rs (dputD kl (.inl a) (.int la')) kk f t (.val (.int k)) (.val (.int mx)) (.val (.int a)) (.val (.int num)) (.val (wD none))) (by simp [notN_eq,nonB,wD])]
  exact fin kk f t h.ik (by have:=h.nk;omega) h.ten
 | some d=>
  have nb:nonB d.D=false:=by cases d <;> rfl
  have ib:(R.v d.D).isN=false:=by cases d <;> rfl
  obtain ⟨f',t',et,ht'⟩:=law_lent_eq f a h.ten a0 a6 d
  by_cases q:num > ka
  ·have q':ka < num:=q
   rw [seq_nx (σ':=St17 ns ws rs (dputD kl (.inl a) (.int la')) (dputD kk (.inl a) (.int num)) f' t' (.val (.int k)) (.val (.int mx)) (.val (.int a)) (.val (.int num)) (.val (wD (some d)))) (by simp [ib,wD,eka,q',lkk,et])]
   exact fin _ f' t' (h.ik.put a num) (by have:=h.nk;omega) ht'
  ·have q':¬ka < num:=q
   rw [seq_nx (σ':=St17 ns ws rs (dputD kl (.inl a) (.int la')) kk f t (.val (.int k)) (.val (.int mx)) (.val (.int a)) (.val (.int num)) (.val (wD (some d)))) (by simp [ib,wD,eka,q'])]
   exact fin kk f t h.ik (by have:=h.nk;omega) h.ten
end K17
namespace K17
open PySem PySem.Spec L2 L3
theorem rows_eq (ns:List Int) (hn:ns.length≤63) {ws:List (List Nat)} (hw:∀a∈ws,Wd a) (hl:ws.length=4):∃rs:List Rw,m_law_rows [.lst (ns.map D.int),.lst (ws.map fun a=>.str (tx a))]=pure (.fr (rs.map Rw.D))∧(∀r∈rs,RwOk ws r)∧rs.length≤59:=by
 obtain ⟨σ',e,ls⟩:=for_inv (b:=fun d σ=>l_law_rows_0 (σ.set 6 (.val d))) (ds:=rngD 4 (ns.length - 4)) (σ:=St17 ns ws [] [] [] 0 .non .emp .emp .emp .emp .emp)
  (fun i σ=>LSr ns ws i σ) (.mk ⟨by simp,rfl,fun _=>⟨0,rfl⟩,fun _=>⟨0,rfl⟩,Nat.le_refl _,Nat.le_refl _,.inl rfl⟩) (fun i d σ hd hyp=>by
   cases hyp with
   | @mk rs kl kk f t s6 s7 s8 s9 s10 H=>
   have hi:i < ns.length - 4:=by
    have:=(List.getElem?_eq_some_iff.mp hd).1
    rwa [show (rngD 4 (ns.length - 4)).length=ns.length - 4 by simp [rngD]] at this
   obtain ⟨k,rfl,hk⟩:=rng_at hd
   have hlt:4 + i < ns.length:=by omega
   have atk:atI (ns.map D.int) k=some (.int (ns[4 + i]'hlt)):=by
    have:=at_of (4 + i) (xs:=ns.map D.int) (d:=.int (ns[4 + i]'hlt)) (by rw [List.getElem?_map,List.getElem?_eq_getElem hlt];rfl)
    rw [hk]
    exact_mod_cast this
   obtain ⟨σ',e,h⟩:=turn17 hw hl H (by omega) (k:=k) (by omega) (by omega) atk (f:=f) (s7:=s7) (s8:=s8) (s9:=s9) (s10:=s10)
   exact ⟨σ',.inl e,h⟩)
 have mn:fMin2 [.v (.int 63),.v (.int (ns.length:Int))]=pure (.v (.int (ns.length:Int))):=min63 hn
 have b2:(ns.length:Int) < 4611686018427387904:=by omega
 have b3:-4611686018427387904≤(ns.length:Int):=by omega
 have b4:((ns.length:Int) - 4).toNat=ns.length - 4:=by omega
 rw [show (rngD 4 (ns.length - 4)).length=ns.length - 4 by simp [rngD]] at ls
 cases ls with
 | mk H=>
 refine ⟨_,?_,H.rw',by rw [H.len];omega⟩
 simp only [St17,List.map_nil] at e
 simp only [m_law_rows,b_law_rows,b_law_rows_1,b_law_rows_2,b_law_rows_3,b_law_rows_4,b_law_rows_5]
 simp [mn,b2,b3,b4,e]
def stepS (s:Sl) (r:Rw):Sl:=doneS s r.a r.n r.d
def at17 (s:Sl) (rs:List Rw) (i:Nat):Sl:=(rs.take i).foldl stepS s
theorem at17_succ {s:Sl} {rs:List Rw} {i:Nat} {r:Rw} (h:rs[i]? = some r):at17 s rs (i + 1)=stepS (at17 s rs i) r:=by
 unfold at17
 rw [take_snoc h,List.foldl_append];rfl
abbrev Ok17 (ws:List (List Nat)) (s:Sl):Prop:=SlOk (·=moveH) ws s
theorem step_ok {ws:List (List Nat)} {s:Sl} (h:Ok17 ws s) {r:Rw} (hr:RwOk ws r):Ok17 ws (stepS s r):=done_ok h hr.lo hr.hi r.n fun x e=>(hr.dd x e).ok
theorem at17_ok {ws:List (List Nat)} {s:Sl} (h:Ok17 ws s) {rs:List Rw} (hr:∀r∈rs,RwOk ws r):∀i,Ok17 ws (at17 s rs i)
 | 0=>h
 | i + 1=>by
  cases e:rs[i]? with
  | none=>
   have:at17 s rs (i + 1)=at17 s rs i:=by
    unfold at17
    have hl:=List.getElem?_eq_none_iff.mp e
    rw [List.take_of_length_le (by omega),List.take_of_length_le hl]
   rw [this];exact at17_ok h hr i
  | some r=>rw [at17_succ e];exact step_ok (at17_ok h hr i) (hr r (List.mem_of_getElem? e))
def told17 (s:Sl) (rs:List Rw):List Sl:=(List.range rs.length).map fun i=>at17 s rs (i + 1)
theorem along_eq {ws:List (List Nat)} (hl:ws.length=4) {s:Sl} (h:Ok17 ws s) {rs:List Rw} (hr:∀r∈rs,RwOk ws r) (hn:rs.length≤59):m_along [s.D,.lst (rs.map Rw.D)]=pure (.fr ((told17 s rs).map Sl.D)):=by
 obtain ⟨σ',e,s3,rfl⟩:=for_inv (b:=fun d σ=>l_along_0 (σ.set 3 (.val d))) (ds:=rs.map Rw.D) (σ:=[.val s.D,.vw (rs.map Rw.D),.ow false [],.emp])
  (fun i σ=>∃s3,σ=[.val (at17 s rs i).D,.vw (rs.map Rw.D),.ow false ((List.range i).map fun j=>(at17 s rs (j + 1)).D),s3]) ⟨_,rfl⟩ (fun i d σ hd hyp=>by
   obtain ⟨s3,rfl⟩:=hyp
   obtain ⟨r,er,rfl⟩:=map_get hd
   have hi:=(List.getElem?_eq_some_iff.mp er).1
   have ro:=hr r (List.mem_of_getElem? er)
   have de:=done_eq (at17_ok h hr i) (by omega) r.a r.n fun x e=>(ro.dd x e).ok
   rw [show doneS (at17 s rs i) r.a r.n r.d=at17 s rs (i + 1) from (at17_succ er).symm] at de
   have sd:=wD_slot r.d
   have z:i < sizeLine:=small1000 (by omega)
   refine ⟨[.val (at17 s rs (i + 1)).D,.vw (rs.map Rw.D),.ow false ((List.range (i + 1)).map fun j=>(at17 s rs (j + 1)).D),.val r.D],.inl ?_,_,rfl⟩
   have s1:slotOf (at17 s rs (i + 1)).D = .val (at17 s rs (i + 1)).D:=rfl
   have s2:slotOf (at17 s rs i).D = .val (at17 s rs i).D:=rfl
   rw [List.range_succ,List.map_append]
   unfold Rw.D
   simp only [l_along_0]
   simp [de,s1,s2,sd,z])
 have z:told17 s rs=(List.range rs.length).map fun i=>at17 s rs (i + 1):=rfl
 rw [List.length_map] at e
 simp only [m_along,b_along,b_along_1,b_along_2]
 have s2:slotOf s.D = .val s.D:=rfl
 rw [z,List.map_map]
 simp [s2,e]
 rfl
end K17
namespace K17
open PySem PySem.Spec L2 L3
theorem whole_eq (i:Int):m_law_whole [.int i]=pure (.v (.bl true)):=by
 simp only [m_law_whole,b_law_whole];kernel_rfl
theorem isi_tup (xs:List D):fIsi [.v (.tup xs),.v (.ty "tuple")]=pure (.v (.bl true)):=by kernel_rfl
theorem isi_str (x:Str):fIsi [.v (.str x),.v (.ty "str")]=pure (.v (.bl true)):=by kernel_rfl
section
variable {ws:List (List Nat)} {s:Sl} (h:Ok17 ws s) (hl:ws.length=4)
include h hl
theorem form_l1 {s0 s1 s2 s3 s4 s5:Slot}:∃s2',fLoop (fun d σ=>l_law_form_1 (σ.set 2 (.val d))) (s.cs.map (·.2)) [s0,s1,s2,s3,s4,s5]=pure (.nx [s0,s1,s2',s3,s4,s5]):=by
 obtain ⟨σ',e,s2',rfl⟩:=for_inv (b:=fun d σ=>l_law_form_1 (σ.set 2 (.val d))) (ds:=s.cs.map (·.2)) (σ:=[s0,s1,s2,s3,s4,s5]) (fun _ σ=>∃s2',σ=[s0,s1,s2',s3,s4,s5]) ⟨_,rfl⟩ (fun i d σ hd hyp=>by
  obtain ⟨s2',rfl⟩:=hyp
  obtain ⟨x,hx,rfl⟩:=map_get hd
  obtain ⟨w,n,n0,e⟩:=h.row x (List.mem_of_getElem? hx)
  rw [e]
  refine ⟨[s0,s1,.val (.tup [.str (tx x.1),.int n]),s3,s4,s5],.inl ?_,_,rfl⟩
  simp only [l_law_form_1]
  simp [isi_tup,isi_str,whole_eq,n0])
 exact ⟨s2',e⟩
theorem form_l2 {s0 s1 s2 s3 s4 s5:Slot}:∃s3',fLoop (fun d σ=>l_law_form_2 (σ.set 3 (.val d))) (s.ds.map (·.2)) [s0,s1,s2,s3,s4,s5]=pure (.nx [s0,s1,s2,s3',s4,s5]):=by
 obtain ⟨σ',e,s2',rfl⟩:=for_inv (b:=fun d σ=>l_law_form_2 (σ.set 3 (.val d))) (ds:=s.ds.map (·.2)) (σ:=[s0,s1,s2,s3,s4,s5]) (fun _ σ=>∃s3',σ=[s0,s1,s2,s3',s4,s5]) ⟨_,rfl⟩ (fun i d σ hd hyp=>by
  obtain ⟨s2',rfl⟩:=hyp
  obtain ⟨x,hx,rfl⟩:=map_get hd
  obtain ⟨n,z,e⟩:=h.num x (List.mem_of_getElem? hx)
  rw [e]
  refine ⟨[s0,s1,s2,.val (.tup [.int x.1,.int n,z]),s4,s5],.inl ?_,_,rfl⟩
  simp only [l_law_form_2]
  simp [isi_tup,whole_eq])
 exact ⟨s2',e⟩
theorem form_names:fSortS koStr okStr [.v (.lst (s.cs.map fun x=>D.str (tx x.1)))]=pure (.fr (s.cs.map fun x=>D.str (tx x.1))):=by
 have nd:=h.rise.nodup
 have un:=unAll_kd (Z:=koStr) (fun _=>rfl) (s.cs.map (·.1))
 rw [List.map_map] at un
 have ln:=h.cl
 rw [e_sortS]
 show (match some (s.cs.map fun x=>D.str (tx x.1)) with | some ds=>_ | none=>bad)=_
 dsimp only
 rw [show (s.cs.map fun x=>D.str (tx x.1))=s.cs.map (koStr.kd ∘ (·.1)) from rfl,un]
 dsimp only
 rw [if_pos ⟨rfl,apart_of nd,by rw [List.length_map];omega⟩]
 have so:sortB koStr.κ.blt ((s.cs.map (·.1)).zip (s.cs.map (koStr.kd ∘ (·.1))))=(s.cs.map fun x=>(x.1,koStr.kd x.1)):=by
  rw [List.zip_map']
  refine sortB_same (Q:=QS) ?_
  unfold RiseK
  rw [List.pairwise_map]
  exact h.rise
 rw [so,List.map_map];rfl
theorem form_askers:fSortS koInt okInt [.v (.lst (s.ds.map fun x=>D.int x.1))]=pure (.fr (s.ds.map fun x=>D.int x.1)):=by
 have nd:=h.dr.nodup
 have un:=unAll_kd (Z:=koInt) (fun _=>rfl) (s.ds.map (·.1))
 rw [List.map_map] at un
 have ln:=h.dl
 have okI:okInt (s.ds.map (·.1))=true:=by
  unfold okInt
  rw [Bool.and_eq_true,decide_eq_true_eq,List.all_eq_true]
  refine ⟨fun k hk=>?_,?_⟩
  ·obtain ⟨x,hx,rfl⟩:=List.mem_map.mp hk
   have:=h.ak x hx
   simp [this.1,this.2]
  ·rw [List.pairwise_map]
   exact h.dr.imp fun {a b} q=>by simpa using q
 rw [e_sortS]
 show (match some (s.ds.map fun x=>D.int x.1) with | some ds=>_ | none=>bad)=_
 dsimp only
 rw [show (s.ds.map fun x=>D.int x.1)=s.ds.map (koInt.kd ∘ (·.1)) from rfl,un]
 dsimp only
 rw [if_pos ⟨okI,apart_of nd,by rw [List.length_map];omega⟩]
 have so:sortB koInt.κ.blt ((s.ds.map (·.1)).zip (s.ds.map (koInt.kd ∘ (·.1))))=(s.ds.map fun x=>(x.1,koInt.kd x.1)):=by
  rw [List.zip_map']
  refine sortB_same (Q:=QI) ?_
  unfold RiseK
  rw [List.pairwise_map]
  exact h.dr
 rw [so,List.map_map];rfl
end
end K17
namespace K17
open PySem PySem.Spec L2 L3
theorem eq_lst {x y:R} {xs:List D} (hx:x.arg = .lst xs) (hy:y.arg = .lst xs) (h:gdAll xs 63=true):oEq x y=pure (.v (.bl true)):=by
 have g:(D.lst xs).gd 64=true:=h
 unfold oEq
 rw [hx,hy,if_pos ⟨g,g⟩,peq_refl g]
section
variable {ws:List (List Nat)} {s:Sl} (h:Ok17 ws s) (hl:ws.length=4)
include h hl
theorem slate_pln:Pln 10 s.D:=h.pln (by omega) fun z e=>by rw [e];exact pln_mono pln_moveH (by decide)
theorem form_eq:m_law_form [s.D]=pure (.v (.bl true)):=by
 have pl:=plain_eq 11 s.D (pln_mono (slate_pln h hl) (by decide))
 have f1:=fun s0 s1 s2 s3 s4 s5=>form_l1 h hl (s0:=s0) (s1:=s1) (s2:=s2) (s3:=s3) (s4:=s4) (s5:=s5)
 have f2:=fun s0 s1 s2 s3 s4 s5=>form_l2 h hl (s0:=s0) (s1:=s1) (s2:=s2) (s3:=s3) (s4:=s4) (s5:=s5)
 have n1:=form_names h hl
 have n2:=form_askers h hl
 have cl:=h.cl
 have dl:=h.dl
 have z1:s.cs.length < sizeLine:=small1000 (by omega)
 have z2:s.ds.length < sizeLine:=small1000 (by omega)
 have c1:kLoop tYes (c2 oIx (cVar 0) (cK (.int 0))) [.emp] (s.cs.map (·.2))=pure (s.cs.map fun x=>D.str (tx x.1)):=comp_all (fun x:List Nat×D=>x.2) (fun x=>D.str (tx x.1)) s.cs fun x hx=>by
  obtain ⟨w,n,n0,e⟩:=h.row x hx
  simp [e]
 have c2':kLoop tYes (c2 oIx (cVar 0) (cK (.int 0))) [.emp] (s.ds.map (·.2))=pure (s.ds.map fun x=>D.int x.1):=comp_all (fun x:Int×D=>x.2) (fun x=>D.int x.1) s.ds fun x hx=>by
  obtain ⟨n,z,e⟩:=h.num x hx
  simp [e]
 have e1:oEq (.v (.lst (s.cs.map fun x=>D.str (tx x.1)))) (.fr (s.cs.map fun x=>D.str (tx x.1)))=pure (.v (.bl true)):=eq_lst rfl rfl (gdAll_iff.mpr fun x hx=>by obtain ⟨y,hy,rfl⟩:=List.mem_map.mp hx;exact (h.row y hy).1.1)
 have e2:oEq (.v (.lst (s.ds.map fun x=>D.int x.1))) (.fr (s.ds.map fun x=>D.int x.1))=pure (.v (.bl true)):=eq_lst rfl rfl (gdAll_iff.mpr fun x hx=>by obtain ⟨y,_,rfl⟩:=List.mem_map.mp hx;rfl)
 have l0:∀(a b c:List D) (s0 s1 s2 s3 s4 s5:Slot),fLoop (fun d σ=>l_law_form_0 (σ.set 1 (.val d))) [.tup a,.tup b,.tup c] [s0,s1,s2,s3,s4,s5]=pure (.nx [s0,.val (.tup c),s2,s3,s4,s5]):=fun a b c s0 s1 s2 s3 s4 s5=>by
  simp [fLoop,l_law_form_0,isi_tup]
 have sx:¬(HT.sIx 4 0 none=0∧HT.sIx 4 4 (some 3)=4):=by decide
 obtain ⟨cs,ds,f,t,sh⟩:=s
 unfold Sl.D at pl ⊢
 dsimp only at *
 have ct:cutD [D.tup (cs.map (·.2)),.tup (ds.map (·.2)),.tup [.int f,t],sh] none (some 3)=[D.tup (cs.map (·.2)),.tup (ds.map (·.2)),.tup [.int f,t]]:=rfl
 obtain ⟨s2,g1⟩:=f1 (.val (.tup [.tup (cs.map (·.2)),.tup (ds.map (·.2)),.tup [.int f,t],sh])) (.val (.tup [.int f,t])) .emp .emp .emp .emp
 obtain ⟨s3,g2⟩:=f2 (.val (.tup [.tup (cs.map (·.2)),.tup (ds.map (·.2)),.tup [.int f,t],sh])) (.val (.tup [.int f,t])) s2 .emp .emp .emp
 simp only [m_law_form,b_law_form,b_law_form_1,b_law_form_2,b_law_form_3,b_law_form_4,b_law_form_5,b_law_form_6]
 simp [isi_tup,pl,ct,sx,l0,g1,g2,c1,c2',n1,n2,e1,e2,z1,z2]
end
end K17
namespace K17
open PySem PySem.Spec L2 L3
def kvC (x:List Nat×D):Key×D:=(.inr (tx x.1),.int (cellV (some x.2)))
def cellsK (l:Rws):List (Key×D):=l.map kvC
theorem key_ne {a b:List Nat}:((.inr (tx a):Key) = .inr (tx b))↔a=b:=⟨fun z=>tx_inj.mp (Sum.inr.inj z),fun z=>by rw [z]⟩
theorem cellsK_val {l:Rws} (hn:(l.map (·.1)).Nodup) (a:List Nat):(dvalD (cellsK l) (.inr (tx a))).getD (.int 0) = .int (cellV (getR (Q:=QS) l a)):=by
 unfold dvalD getR cellsK
 rw [List.find?_map]
 have e:((fun kv:Key×D=>decide (kv.1 = .inr (tx a))) ∘ kvC)=fun q:List Nat×D=>decide (q.1=a):=by
  funext q
  simp only [Function.comp_apply,kvC,key_ne]
 rw [e]
 cases l.find? fun q=>decide (q.1=a) with
 | none=>rfl
 | some x=>rfl
theorem cellsK_some {l:Rws} (hn:(l.map (·.1)).Nodup) {x:List Nat×D} (hx:x∈l):dvalD (cellsK l) (.inr (tx x.1))=some (.int (cellV (some x.2))):=by
 unfold dvalD cellsK
 rw [List.find?_map]
 have e:((fun kv:Key×D=>decide (kv.1 = .inr (tx x.1))) ∘ kvC)=fun q:List Nat×D=>decide (q.1=x.1):=by
  funext q
  simp only [Function.comp_apply,kvC,key_ne]
 rw [e,find_memR (Q:=QS) hn hx]
 rfl
theorem cellsK_drop (l:Rws) (a:List Nat):ddropD (cellsK l) (.inr (tx a))=cellsK (dropR (Q:=QS) l a):=by
 unfold ddropD cellsK dropR
 rw [List.filter_map]
 congr 1
 refine List.filter_congr fun x _=>?_
 simp only [Function.comp_apply,kvC,ne_eq,key_ne,decide_not]
theorem cellsK_ints (l:Rws):intsD (cellsK l)=true:=by
 unfold intsD cellsK
 rw [List.all_map,List.all_eq_true]
 intro x _;rfl
theorem cellsK_same {l:Rws} (hn:(l.map (·.1)).Nodup):sameD (cellsK l) (cellsK l)=true:=by
 unfold sameD
 rw [List.all_eq_true]
 intro p hp
 obtain ⟨x,hx,rfl⟩:=List.mem_map.mp hp
 show (match dvalD (cellsK l) (.inr (tx x.1)),D.int (cellV (some x.2)) with | some (.int m),.int n=>decide (n=m) | _,_=>false)=true
 rw [cellsK_some hn hx]
 simp
theorem cellsK_put {l:Rws} {x:List Nat×D} (h:∀y∈l,y.1≠x.1):dputD (cellsK l) (.inr (tx x.1)) (.int (cellV (some x.2)))=cellsK (l ++ [x]):=by
 unfold dputD
 rw [if_neg]
 ·unfold cellsK;rw [List.map_append];rfl
 ·rw [List.any_eq_true]
  rintro ⟨p,hp,e⟩
  obtain ⟨y,hy,rfl⟩:=List.mem_map.mp hp
  exact h y hy (key_ne.mp (of_decide_eq_true e))
theorem cells_eq {l:Rws} (h:∀x∈l,CeR x) (hr:RiseK QS l) (hl:l.length < 64) (d le sh:D):m_law_cells [.tup [.tup (l.map (·.2)),d,le,sh]]=pure (cellsK l):=by
 obtain ⟨σ',e,t2,t3,rfl⟩:=for_inv (b:=fun d σ=>match d with
   | .tup es=>if es.length=2 then l_law_cells_0 (setsD [2,3] es σ) else bad
   | _=>bad) (ds:=l.map (·.2)) (σ:=[.val (.tup [.tup (l.map (·.2)),d,le,sh]),.dct [],.emp,.emp])
  (fun i σ=>∃t2 t3,σ=[.val (.tup [.tup (l.map (·.2)),d,le,sh]),.dct (cellsK (l.take i)),t2,t3])
  ⟨_,_,rfl⟩ (fun i d' σ hd hyp=>by
   obtain ⟨t2,t3,rfl⟩:=hyp
   obtain ⟨x,hx,rfl⟩:=map_get hd
   have hi:i < l.length:=(List.getElem?_eq_some_iff.mp hx).1
   obtain ⟨hw,n,hn,e⟩:=h x (List.mem_of_getElem? hx)
   have lk:(cellsK (l.take i)).length < 1000:=by unfold cellsK;rw [List.length_map,List.length_take];omega
   have nd:((l.take (i + 1)).map (·.1)).Nodup:=(hr.nodup).sublist ((List.take_sublist _ _).map _)
   rw [take_snoc hx,List.map_append,List.nodup_append] at nd
   have pu:=cellsK_put (l:=l.take i) (x:=x) fun y hy=>nd.2.2 _ (List.mem_map_of_mem hy) _ (by simp)
   have ec:cellV (some x.2)=n:=by rw [e];rfl
   rw [ec] at pu
   refine ⟨_,.inl (?_:_=pure (Fl.nx [.val (.tup [.tup (l.map (·.2)),d,le,sh]),.dct (cellsK (l.take (i + 1))),.val (.str (tx x.1)),.val (.int n)])),_,_,rfl⟩
   rw [e,take_snoc hx,←pu]
   simp [l_law_cells_0,lk])
 rw [List.length_map,List.take_of_length_le (Nat.le_refl _)] at e
 have hi:iT (c2 oIx (cVar 0) (cK (.int 0))) [.val (.tup [.tup (l.map (·.2)),d,le,sh]),.dct [],.emp,.emp]=pure (l.map (·.2)):=by simp
 have e':cForT [2,3] (iT (c2 oIx (cVar 0) (cK (.int 0)))) l_law_cells_0 [.val (.tup [.tup (l.map (·.2)),d,le,sh]),.dct [],.emp,.emp]=pure (.nx [.val (.tup [.tup (l.map (·.2)),d,le,sh]),.dct (cellsK l),t2,t3]):=by
  show (iT _ _ >>= _)=_
  rw [hi]
  exact e
 have e0:b_law_cells [.val (.tup [.tup (l.map (·.2)),d,le,sh]),.emp,.emp,.emp]=pure (.nx [.val (.tup [.tup (l.map (·.2)),d,le,sh]),.dct (cellsK l),t2,t3]):=by
  rw [b_law_cells,seq_nx (σ':=[.val (.tup [.tup (l.map (·.2)),d,le,sh]),.dct [],.emp,.emp]) (by simp),seq_nx e']
  rfl
 show (b_law_cells [.val (.tup [.tup (l.map (·.2)),d,le,sh]),.emp,.emp,.emp] >>= _)=_
 rw [e0]
 rfl
theorem drop_wcell {l:Rws} (hr:RiseK QS l) (a:List Nat) (n:Int):dropR (Q:=QS) (wcell l a n) a=dropR (Q:=QS) l a:=by
 refine rise_one (Q:=QS) (dropR_rise _ (wcell_rise hr a n)) (dropR_rise _ hr) fun x=>?_
 rw [dropR_mem (Q:=QS),dropR_mem (Q:=QS)]
 unfold wcell
 split
 ·rw [dropR_mem (Q:=QS)];exact ⟨fun z=>⟨z.1.1,z.2⟩,fun z=>⟨z,z.2⟩⟩
 ·rw [putS_mem (Q:=QS)]
  constructor
  ·rintro ⟨⟨z,_⟩ | rfl,q⟩
   ·exact ⟨z,q⟩
   ·exact absurd rfl q
  ·exact fun z=>⟨.inl ⟨z.1,z.2⟩,z.2⟩
end K17
namespace K17
open PySem PySem.Spec L2 L3
theorem ne_self {d:D} (g:d.gd 64=true):oNe (.v d) (.v d)=pure (.v (.bl false)):=by
 unfold oNe
 rw [show (R.v d).arg=d from rfl,if_pos ⟨g,g⟩,peq_refl g];rfl
theorem eq_self' {d:D} (g:d.gd 64=true):oEq (.v d) (.v d)=pure (.v (.bl true)):=by
 unfold oEq
 rw [show (R.v d).arg=d from rfl,if_pos ⟨g,g⟩,peq_refl g]
theorem et_take:oEq (.v (.str "take")) (.v (.str "take"))=pure (.v (.bl true)):=by kernel_rfl
theorem et_renew:oEq (.v (.str "renew")) (.v (.str "take"))=pure (.v (.bl false)):=by kernel_rfl
theorem et_free:oEq (.v (.str "free")) (.v (.str "take"))=pure (.v (.bl false)):=by kernel_rfl
theorem eq_nonI (a:Int):oEq (.v .non) (.v (.int a))=pure (.v (.bl false)):=by kernel_rfl
theorem int_t:fInt [.v (.bl true)]=pure (.v (.int 1)):=by kernel_rfl
theorem int_f:fInt [.v (.bl false)]=pure (.v (.int 0)):=by kernel_rfl
section
variable {ws:List (List Nat)} {s:Sl} (h:Ok17 ws s) (hl:ws.length=4)
include h hl
theorem cells_gd:(D.tup (s.cs.map (·.2))).gd 64=true:=by
 have:=h.cl
 exact (pln_mono (cells_pln h.row (by omega)) (by decide:2≤64)).1.1
theorem leased_eq (hs:s.sh = .non) (a n:Int) (ds':List (Int×D)) {d:Dd} (hd:(∃g,d = .take g)∨(∃g,d = .renew g)∨∃g,d = .free g) :
  m_law_leased [s.D,({ (outS s a d).1 with ds:=ds' }:Sl).D,.tup [.int a,.int n,d.D],(outS s a d).2]=pure (.v (.bl true)):=by
 have gc:=cells_gd h hl
 have tn:=h.tn
 have i0:atI [D.int a,.non] 0=some (.int a):=rfl
 have i1:atI [D.int a,.non] 1=some .non:=rfl
 obtain ⟨cs,ds,f,t,sh⟩:=s
 have hs:sh = .non:=hs
 subst hs
 have gc:(D.tup (cs.map (·.2))).gd 64=true:=gc
 have nc:=ne_self gc
 have tn:t = .non∨∃i:Int,t = .int i:=tn
 have gt:∀x:Int,(D.tup [.int x,t]).gd 64=true:=fun x=>by rcases tn with rfl | ⟨i,rfl⟩ <;> rfl
 have gt3:∀x y:Int,(D.tup [.int x,.int y,t]).gd 64=true:=fun x y=>by rcases tn with rfl | ⟨i,rfl⟩ <;> rfl
 have st:slotOf t = .val t:=by rcases tn with rfl | ⟨i,rfl⟩ <;> rfl
 have q1:∀x:Int,oEq (.v (.tup [.int x,t])) (.v (.tup [.int x,t]))=pure (.v (.bl true)):=fun x=>eq_self' (gt x)
 have q2:∀x y:Int,oEq (.v (.tup [.int x,.int y,t])) (.v (.tup [.int x,.int y,t]))=pure (.v (.bl true)):=fun x y=>eq_self' (gt3 x y)
 have q3:∀x:Int,∀t,Ten t→True:=fun _ _ _=>trivial
 have q4:∀x y:Int,oEq (.v (.tup [.int x,.int y])) (.v (.tup [.int x,.int y]))=pure (.v (.bl true)):=fun x y=>eq_self' rfl
 have q5:∀x y z:Int,oEq (.v (.tup [.int x,.int y,.int z])) (.v (.tup [.int x,.int y,.int z]))=pure (.v (.bl true)):=fun x y z=>eq_self' rfl
 have q6:∀x:Int,oEq (.v (.tup [.int x,.non])) (.v (.tup [.int x,.non]))=pure (.v (.bl true)):=fun x=>eq_self' rfl
 have q7:∀x y:Int,oEq (.v (.tup [.int x,.int y,.non])) (.v (.tup [.int x,.int y,.non]))=pure (.v (.bl true)):=fun x y=>eq_self' rfl
 simp only [m_law_leased,b_law_leased,b_law_leased_1,b_law_leased_2,b_law_leased_3,b_law_leased_4,b_law_leased_5]
 rcases hd with ⟨g,rfl⟩ | ⟨g,rfl⟩ | ⟨g,rfl⟩
 ·unfold outS Sl.D Dd.D
  dsimp only
  by_cases c:f=g
  ·subst c
   rw [if_pos rfl]
   simp [st,et_take,ef_take,i0,nc,int_t,int_f,q4,q5]
  ·have c':¬g=f:=fun z=>c z.symm
   rw [if_neg c]
   simp [st,c',nc,int_f,q1,q2]
 ·unfold outS Sl.mine Sl.D Dd.D
  dsimp only
  by_cases c:f=g
  ·subst c
   rcases tn with rfl | ⟨i,rfl⟩
   ·rw [if_neg (by simp [peq])]
    simp [et_renew,eq_nonI,nc,int_f,q6,q7]
   ·by_cases c:i=a
    ·subst c
     rw [if_pos (by simp [peq])]
     simp [et_renew,ef_renew,i0,nc,int_t,int_f,q4,q5]
    ·rw [if_neg (by simp [peq,c])]
     simp [et_renew,c,nc,int_f,q4,q5]
  ·have c':¬g=f:=fun z=>c z.symm
   rw [if_neg (by simp [c])]
   simp [st,c',nc,int_f,q1,q2]
 ·unfold outS Sl.mine Sl.D Dd.D
  dsimp only
  by_cases c:f=g
  ·subst c
   rcases tn with rfl | ⟨i,rfl⟩
   ·rw [if_neg (by simp [peq])]
    simp [et_free,eq_nonI,nc,int_f,q6,q7]
   ·by_cases c:i=a
    ·subst c
     rw [if_pos (by simp [peq])]
     simp [et_free,ef_free,i1,nc,int_t,int_f,q6,q7]
    ·rw [if_neg (by simp [peq,c])]
     simp [et_free,c,nc,int_f,q4,q5]
  ·have c':¬g=f:=fun z=>c z.symm
   rw [if_neg (by simp [c])]
   simp [st,c',nc,int_f,q1,q2]
end
end K17
namespace K17
open PySem PySem.Spec L2 L3
theorem wcell_val {l:Rws} (hr:RiseK QS l) (a:List Nat) (n:Int):cellV (getR (Q:=QS) (wcell l a n) a)=n:=by
 rw [wcell_get hr,if_pos rfl]
 by_cases c:n=0
 ·rw [if_pos c,c];rfl
 ·rw [if_neg c];rfl
theorem es_put:oEq (.v (.str "put")) (.v (.str "sure"))=pure (.v (.bl false)):=by kernel_rfl
theorem es_add:oEq (.v (.str "add")) (.v (.str "sure"))=pure (.v (.bl false)):=by kernel_rfl
theorem es_swap:oEq (.v (.str "swap")) (.v (.str "sure"))=pure (.v (.bl false)):=by kernel_rfl
theorem es_sure:oEq (.v (.str "sure")) (.v (.str "sure"))=pure (.v (.bl true)):=by kernel_rfl
theorem ep_put:oEq (.v (.str "put")) (.v (.str "put"))=pure (.v (.bl true)):=by kernel_rfl
theorem ep_add:oEq (.v (.str "add")) (.v (.str "put"))=pure (.v (.bl false)):=by kernel_rfl
theorem ep_swap:oEq (.v (.str "swap")) (.v (.str "put"))=pure (.v (.bl false)):=by kernel_rfl
theorem ep_sure:oEq (.v (.str "sure")) (.v (.str "put"))=pure (.v (.bl false)):=by kernel_rfl
theorem ea_add:oEq (.v (.str "add")) (.v (.str "add"))=pure (.v (.bl true)):=by kernel_rfl
theorem ea_swap:oEq (.v (.str "swap")) (.v (.str "add"))=pure (.v (.bl false)):=by kernel_rfl
theorem ea_sure:oEq (.v (.str "sure")) (.v (.str "add"))=pure (.v (.bl false)):=by kernel_rfl
theorem ew_swap:oEq (.v (.str "swap")) (.v (.str "swap"))=pure (.v (.bl true)):=by kernel_rfl
theorem ew_sure:oEq (.v (.str "sure")) (.v (.str "swap"))=pure (.v (.bl false)):=by kernel_rfl
section
variable {l l':Rws} (h:∀x∈l,CeR x) (hr:RiseK QS l) (hl:l.length < 64) (h':∀x∈l',CeR x) (hr':RiseK QS l') (hl':l'.length < 64) {w:List Nat} (hd:dropR (Q:=QS) l' w=dropR (Q:=QS) l w)
include h hr hl h' hr' hl' hd
theorem written_mid {d le sh d' le' sh':D} {s2 s3 s4 s5 s6:Slot}:b_law_written_4 [.val (.tup [.tup (l.map (·.2)),d,le,sh]),.val (.tup [.tup (l'.map (·.2)),d',le',sh']),s2,s3,s4,s5,s6,.val (.str (tx w)),.emp,.emp,.emp,.emp,.emp]
  = b_law_written_9 [.val (.tup [.tup (l.map (·.2)),d,le,sh]),.val (.tup [.tup (l'.map (·.2)),d',le',sh']),s2,s3,s4,s5,s6,.val (.str (tx w)),.dct (cellsK (dropR (Q:=QS) l w)),.dct (cellsK (dropR (Q:=QS) l w)),.val (.int (cellV (getR (Q:=QS) l w))),.val (.int (cellV (getR (Q:=QS) l' w))),.emp]:=by
 have c1:=cells_eq h hr hl d le sh
 have c2:=cells_eq h' hr' hl' d' le' sh'
 have v1:=cellsK_val hr.nodup w
 have v2:=cellsK_val hr'.nodup w
 have d1:=cellsK_drop l w
 have d2:=cellsK_drop l' w
 rw [hd] at d2
 have i1:=cellsK_ints (dropR (Q:=QS) l w)
 have sm:=cellsK_same (dropR_nodup (Q:=QS) w hr.nodup)
 rw [b_law_written_4,seq_nx (σ':=[.val (.tup [.tup (l.map (·.2)),d,le,sh]),.val (.tup [.tup (l'.map (·.2)),d',le',sh']),s2,s3,s4,s5,s6,.val (.str (tx w)),.dct (cellsK l),.emp,.emp,.emp,.emp]) (by simp [c1])]
 rw [b_law_written_5,seq_nx (σ':=[.val (.tup [.tup (l.map (·.2)),d,le,sh]),.val (.tup [.tup (l'.map (·.2)),d',le',sh']),s2,s3,s4,s5,s6,.val (.str (tx w)),.dct (cellsK l),.dct (cellsK l'),.emp,.emp,.emp]) (by simp [c2])]
 rw [b_law_written_6,seq_nx (σ':=[.val (.tup [.tup (l.map (·.2)),d,le,sh]),.val (.tup [.tup (l'.map (·.2)),d',le',sh']),s2,s3,s4,s5,s6,.val (.str (tx w)),.dct (cellsK (dropR (Q:=QS) l w)),.dct (cellsK l'),.val (.int (cellV (getR (Q:=QS) l w))),.emp,.emp]) (by simp [keyD,v1,d1])]
 rw [b_law_written_7,seq_nx (σ':=[.val (.tup [.tup (l.map (·.2)),d,le,sh]),.val (.tup [.tup (l'.map (·.2)),d',le',sh']),s2,s3,s4,s5,s6,.val (.str (tx w)),.dct (cellsK (dropR (Q:=QS) l w)),.dct (cellsK (dropR (Q:=QS) l w)),.val (.int (cellV (getR (Q:=QS) l w))),.val (.int (cellV (getR (Q:=QS) l' w))),.emp]) (by simp [keyD,v2,d2])]
 rw [b_law_written_8,seq_nx (σ':=[.val (.tup [.tup (l.map (·.2)),d,le,sh]),.val (.tup [.tup (l'.map (·.2)),d',le',sh']),s2,s3,s4,s5,s6,.val (.str (tx w)),.dct (cellsK (dropR (Q:=QS) l w)),.dct (cellsK (dropR (Q:=QS) l w)),.val (.int (cellV (getR (Q:=QS) l w))),.val (.int (cellV (getR (Q:=QS) l' w))),.emp]) (by simp [i1,sm])]
end
section
variable {ws:List (List Nat)} {s:Sl} (h:Ok17 ws s) (hl:ws.length=4)
include h hl
theorem written_eq (hs:s.sh = .non) (a n:Int) (ds':List (Int×D)) {d:Dd} (ok:D17 ws d) (hd:(∃w m,d = .put w m)∨(∃w m,d = .add w m)∨(∃w o m,d = .swap w o m)∨∃g w m,d = .sure g w m) :
  m_law_written [s.D,({ (outS s a d).1 with ds:=ds' }:Sl).D,.tup [.int a,.int n,d.D],(outS s a d).2]=pure (.v (.bl true)):=by
 have oo:=out_ok h a ok.ok
 have cl:=h.cl
 have cl':=oo.cl
 have tn:=h.tn
 have row:=h.row
 have rise:=h.rise
 have row':=oo.row
 have rise':=oo.rise
 obtain ⟨cs,ds,f,t,sh⟩:=s
 have hs:sh = .non:=hs
 subst hs
 have tn:t = .non∨∃i:Int,t = .int i:=tn
 have gt:(D.tup [.int f,t]).gd 64=true:=by rcases tn with rfl | ⟨i,rfl⟩ <;> rfl
 have nt:=ne_self gt
 have z1:cs.length < 64:=by have:cs.length≤ws.length:=cl;omega
 rcases hd with ⟨w,m,rfl⟩ | ⟨w,m,rfl⟩ | ⟨w,o,m,rfl⟩ | ⟨g,w,m,rfl⟩
 ·have md:=written_mid row rise z1 (wcell_row row ok.1 m) (wcell_rise rise w m) (Nat.lt_of_le_of_lt (show (wcell cs w m).length≤ws.length from cl') (by omega)) (drop_wcell rise w m) (d:=.tup (ds.map (·.2))) (le:=.tup [.int f,t]) (sh:=.non) (d':=.tup (ds'.map (·.2))) (le':=.tup [.int f,t]) (sh':=.non) (s2:=.val (.tup [.int a,.int n,.tup [.str "put",.str (tx w),.int m]])) (s3:=.val (.int (cellV (getR (Q:=QS) cs w)))) (s4:=.val (.int a)) (s5:=.val (.int n)) (s6:=.val (.tup [.str "put",.str (tx w),.int m]))
  rw [wcell_val rise] at md
  unfold outS Sl.put Sl.cell Sl.D Dd.D
  dsimp only
  simp only [m_law_written,b_law_written,b_law_written_1,b_law_written_2,b_law_written_3]
  simp [nt,es_put,md,b_law_written_9,ep_put]
 ·have md:=written_mid row rise z1 (wcell_row row ok.1 (cellV (getR (Q:=QS) cs w) + m)) (wcell_rise rise w _) (Nat.lt_of_le_of_lt (show (wcell cs w (cellV (getR (Q:=QS) cs w) + m)).length≤ws.length from cl') (by omega)) (drop_wcell rise w _) (d:=.tup (ds.map (·.2))) (le:=.tup [.int f,t]) (sh:=.non) (d':=.tup (ds'.map (·.2))) (le':=.tup [.int f,t]) (sh':=.non) (s2:=.val (.tup [.int a,.int n,.tup [.str "add",.str (tx w),.int m]])) (s3:=.val (.int (cellV (getR (Q:=QS) cs w) + m))) (s4:=.val (.int a)) (s5:=.val (.int n)) (s6:=.val (.tup [.str "add",.str (tx w),.int m]))
  rw [wcell_val rise] at md
  unfold outS Sl.put Sl.cell Sl.D Dd.D
  dsimp only
  simp only [m_law_written,b_law_written,b_law_written_1,b_law_written_2,b_law_written_3]
  simp [nt,es_add,md,b_law_written_9,b_law_written_10,ep_add,ea_add]
 ·by_cases c:cellV (getR (Q:=QS) cs w)=o
  ·have e:outS ⟨cs,ds,f,t,.non⟩ a (.swap w o m)=({ cs:=wcell cs w m,ds:=ds,f:=f,t:=t,sh:=.non },.int 1):=if_pos c
   rw [e] at cl' ⊢
   have md:=written_mid row rise z1 (wcell_row row ok.1 m) (wcell_rise rise w m) (Nat.lt_of_le_of_lt (show (wcell cs w m).length≤ws.length from cl') (by omega)) (drop_wcell rise w m) (d:=.tup (ds.map (·.2))) (le:=.tup [.int f,t]) (sh:=.non) (d':=.tup (ds'.map (·.2))) (le':=.tup [.int f,t]) (sh':=.non) (s2:=.val (.tup [.int a,.int n,.tup [.str "swap",.str (tx w),.int o,.int m]])) (s3:=.val (.int 1)) (s4:=.val (.int a)) (s5:=.val (.int n)) (s6:=.val (.tup [.str "swap",.str (tx w),.int o,.int m]))
   rw [wcell_val rise] at md
   unfold Sl.D Dd.D
   dsimp only
   simp only [m_law_written,b_law_written,b_law_written_1,b_law_written_2,b_law_written_3]
   simp [nt,es_swap,md,b_law_written_9,b_law_written_10,b_law_written_11,b_law_written_12,ep_swap,ea_swap,ew_swap,c]
  ·have e:outS ⟨cs,ds,f,t,.non⟩ a (.swap w o m)=(⟨cs,ds,f,t,.non⟩,.int 0):=if_neg c
   rw [e]
   have md:=written_mid row rise z1 row rise z1 (w:=w) rfl (d:=.tup (ds.map (·.2))) (le:=.tup [.int f,t]) (sh:=.non) (d':=.tup (ds'.map (·.2))) (le':=.tup [.int f,t]) (sh':=.non) (s2:=.val (.tup [.int a,.int n,.tup [.str "swap",.str (tx w),.int o,.int m]])) (s3:=.val (.int 0)) (s4:=.val (.int a)) (s5:=.val (.int n)) (s6:=.val (.tup [.str "swap",.str (tx w),.int o,.int m]))
   unfold Sl.D Dd.D
   dsimp only
   simp only [m_law_written,b_law_written,b_law_written_1,b_law_written_2,b_law_written_3]
   simp [nt,es_swap,md,b_law_written_9,b_law_written_10,b_law_written_11,b_law_written_12,b_law_written_13,ep_swap,ea_swap,ew_swap,c]
 ·have em:oEq (.v (.tup [.int f,t])) (.v (.tup [.int g,.int a]))=pure (.v (.bl (Sl.mine ⟨cs,ds,f,t,.non⟩ g a))):=by
   unfold oEq Sl.mine
   rw [show (R.v (.tup [.int f,t])).arg = .tup [.int f,t] from rfl,show (R.v (.tup [.int g,.int a])).arg = .tup [.int g,.int a] from rfl,if_pos ⟨gt,rfl⟩]
   rcases tn with rfl | ⟨i,rfl⟩ <;> simp [peq,peqAll]
  by_cases c:Sl.mine ⟨cs,ds,f,t,.non⟩ g a=true
  ·have e:outS ⟨cs,ds,f,t,.non⟩ a (.sure g w m)=({ cs:=wcell cs w m,ds:=ds,f:=f,t:=t,sh:=.non },.int 1):=if_pos c
   rw [e] at cl' ⊢
   rw [c] at em
   have md:=written_mid row rise z1 (wcell_row row ok.1 m) (wcell_rise rise w m) (Nat.lt_of_le_of_lt (show (wcell cs w m).length≤ws.length from cl') (by omega)) (drop_wcell rise w m) (d:=.tup (ds.map (·.2))) (le:=.tup [.int f,t]) (sh:=.non) (d':=.tup (ds'.map (·.2))) (le':=.tup [.int f,t]) (sh':=.non) (s2:=.val (.tup [.int a,.int n,.tup [.str "sure",.int g,.str (tx w),.int m]])) (s3:=.val (.int 1)) (s4:=.val (.int a)) (s5:=.val (.int n)) (s6:=.val (.tup [.str "sure",.int g,.str (tx w),.int m]))
   rw [wcell_val rise] at md
   unfold Sl.D Dd.D
   dsimp only
   simp only [m_law_written,b_law_written,b_law_written_1,b_law_written_2,b_law_written_3]
   simp [nt,es_sure,md,b_law_written_9,b_law_written_10,b_law_written_11,b_law_written_12,ep_sure,ea_sure,ew_sure,em]
  ·have e:outS ⟨cs,ds,f,t,.non⟩ a (.sure g w m)=(⟨cs,ds,f,t,.non⟩,.int 0):=if_neg c
   rw [e]
   rw [Bool.not_eq_true] at c
   rw [c] at em
   have md:=written_mid row rise z1 row rise z1 (w:=w) rfl (d:=.tup (ds.map (·.2))) (le:=.tup [.int f,t]) (sh:=.non) (d':=.tup (ds'.map (·.2))) (le':=.tup [.int f,t]) (sh':=.non) (s2:=.val (.tup [.int a,.int n,.tup [.str "sure",.int g,.str (tx w),.int m]])) (s3:=.val (.int 0)) (s4:=.val (.int a)) (s5:=.val (.int n)) (s6:=.val (.tup [.str "sure",.int g,.str (tx w),.int m]))
   unfold Sl.D Dd.D
   dsimp only
   simp only [m_law_written,b_law_written,b_law_written_1,b_law_written_2,b_law_written_3]
   simp [nt,es_sure,md,b_law_written_9,b_law_written_10,b_law_written_11,b_law_written_12,b_law_written_13,ep_sure,ea_sure,ew_sure,em]
end
end K17
namespace K17
open PySem PySem.Spec L2 L3
theorem pln_slot {d:D} (h:d.pln=true):slotOf d = .val d:=by
 cases d <;> first | rfl | cases h
def ansV:Option D→D
 | some (.tup [_,_,z])=>z
 | _=>.non
section
variable {l:List (Int×D)} (hr:RiseK QI l) (hn:∀x∈l,NumR x) (hp:∀x∈l,Pln 2 x.2) (hl:l.length≤6)
include hr hn hp hl
theorem put_take {i:Nat} {x:Int×D} (hx:l[i]? = some x):putS (Q:=QI) (l.take i) x=l.take (i + 1):=by
 have r1:RiseK QI (l.take (i + 1)):=List.Pairwise.sublist (List.take_sublist _ _) hr
 have nd:((l.take (i + 1)).map (·.1)).Nodup:=r1.nodup
 have nd0:((l.take i).map (·.1)).Nodup:=RiseK.nodup (Q:=QI) (List.Pairwise.sublist (List.take_sublist _ _) hr)
 refine rise_one (Q:=QI) (putS_rise (Q:=QI) _ nd0) r1 fun y=>?_
 rw [putS_mem (Q:=QI),take_snoc hx,List.mem_append,List.mem_singleton]
 rw [take_snoc hx,List.map_append,List.nodup_append] at nd
 constructor
 ·rintro (⟨z,_⟩ | z)
  ·exact .inl z
  ·exact .inr z
 ·rintro (z | z)
  ·exact .inl ⟨z,nd.2.2 _ (List.mem_map_of_mem z) _ (by simp)⟩
  ·exact .inr z
theorem step_l0 {s0 s1 s2 s3 s4 s5 s8 s9:Slot}:∃kvs s7,Dgs l kvs 6∧fLoop (fun d σ=>l_law_step_0 (σ.set 7 (.val d))) (l.map (·.2)) [s0,s1,s2,s3,s4,s5,.dct [],.emp,s8,s9]=pure (.nx [s0,s1,s2,s3,s4,s5,.dct kvs,s7,s8,s9]):=by
 obtain ⟨σ',e,kvs,s7,rfl,dg⟩:=for_inv (b:=fun d σ=>l_law_step_0 (σ.set 7 (.val d))) (ds:=l.map (·.2)) (σ:=[s0,s1,s2,s3,s4,s5,.dct [],.emp,s8,s9])
  (fun i σ=>∃kvs s7,σ=[s0,s1,s2,s3,s4,s5,.dct kvs,s7,s8,s9]∧Dgs (l.take i) kvs i) ⟨[],_,rfl,Dgs.nil⟩ (fun i d σ hd hyp=>by
   obtain ⟨kvs,s7,rfl,dg⟩:=hyp
   obtain ⟨x,hx,rfl⟩:=map_get hd
   have hi:i < l.length:=(List.getElem?_eq_some_iff.mp hx).1
   obtain ⟨n,z,e⟩:=hn x (List.mem_of_getElem? hx)
   have px:=hp x (List.mem_of_getElem? hx)
   rw [e] at px ⊢
   have lk:=dg.lk
   have lk1:kvs.length < 1000:=by omega
   have dg':=dg.put (pln_mono px (by decide:2≤3))
   rw [show (x.1,D.tup [.int x.1,.int n,z])=x by rw [←e],put_take hr hn hp hl hx] at dg'
   refine ⟨[s0,s1,s2,s3,s4,s5,.dct (dputD kvs (.inl x.1) (.tup [.int x.1,.int n,z])),.val (.tup [.int x.1,.int n,z]),s8,s9],.inl ?_,_,_,rfl,dg'⟩
   simp [l_law_step_0,lk1])
 rw [List.length_map,List.take_of_length_le (Nat.le_refl _)] at dg
 exact ⟨kvs,s7,⟨dg.rise,dg.row,dg.val,dg.keys,Nat.le_trans dg.len hl⟩,e⟩
theorem step_l1 (a:Int) {s0 s1 s2 s4 s5 s6 s7 s9:Slot}:∃s7',fLoop (fun d σ=>l_law_step_1 (σ.set 7 (.val d))) (l.map (·.2)) [s0,s1,s2,.val (.int a),s4,s5,s6,s7,.val .non,s9]=pure (.nx [s0,s1,s2,.val (.int a),s4,s5,s6,s7',.val (ansV (getR (Q:=QI) l a)),s9]):=by
 obtain ⟨σ',e,s7',rfl⟩:=for_inv (b:=fun d σ=>l_law_step_1 (σ.set 7 (.val d))) (ds:=l.map (·.2)) (σ:=[s0,s1,s2,.val (.int a),s4,s5,s6,s7,.val .non,s9])
  (fun i σ=>∃s7',σ=[s0,s1,s2,.val (.int a),s4,s5,s6,s7',.val (ansV (getR (Q:=QI) (l.take i) a)),s9]) ⟨_,rfl⟩ (fun i d σ hd hyp=>by
   obtain ⟨s7',rfl⟩:=hyp
   obtain ⟨x,hx,rfl⟩:=map_get hd
   obtain ⟨n,z,e⟩:=hn x (List.mem_of_getElem? hx)
   have px:=hp x (List.mem_of_getElem? hx)
   rw [e] at px
   have zs:slotOf z = .val z:=pln_slot ((plnAll_iff.mp px.2) z (by simp))
   have nd0:((l.take i).map (·.1)).Nodup:=RiseK.nodup (Q:=QI) (List.Pairwise.sublist (List.take_sublist _ _) hr)
   have g:=getR_put (Q:=QI) x nd0 a
   rw [put_take hr hn hp hl hx] at g
   rw [g]
   by_cases c:a=x.1
   ·subst c
    rw [if_pos rfl]
    refine ⟨[s0,s1,s2,.val (.int x.1),s4,s5,s6,.val (.tup [.int x.1,.int n,z]),.val z,s9],.inl ?_,_,by rw [e];rfl⟩
    rw [e]
    simp [l_law_step_1,zs]
   ·rw [if_neg c]
    have c':¬x.1=a:=fun z=>c z.symm
    refine ⟨[s0,s1,s2,.val (.int a),s4,s5,s6,.val (.tup [.int x.1,.int n,z]),.val (ansV (getR (Q:=QI) (l.take i) a)),s9],.inl ?_,_,rfl⟩
    rw [e]
    simp [l_law_step_1,c'])
 rw [List.length_map,List.take_of_length_le (Nat.le_refl _)] at e
 exact ⟨s7',e⟩
end
end K17
namespace K17
open PySem PySem.Spec L2 L3
theorem ee_end:oEq (.v (.str "end")) (.v (.str "end"))=pure (.v (.bl true)):=by kernel_rfl
theorem em_end:oEq (.v (.str "end")) (.v (.str "move"))=pure (.v (.bl false)):=by kernel_rfl
theorem ee_move:oEq (.v (.str "move")) (.v (.str "end"))=pure (.v (.bl false)):=by kernel_rfl
theorem em_move:oEq (.v (.str "move")) (.v (.str "move"))=pure (.v (.bl true)):=by kernel_rfl
section
variable {ws:List (List Nat)} {s:Sl} (h:Ok17 ws s) (hl:ws.length=4)
include h hl
theorem step_mid {a n:Int} {d:Dd} (ro:RwOk ws ⟨a,n,some d⟩) (hs:s.sh = .non) (hc:s.last a < n):∃kvs s7,b_law_step [.val s.D,.val (stepS s ⟨a,n,some d⟩).D,.val (.tup [.int a,.int n,d.D]),.emp,.emp,.emp,.emp,.emp,.emp,.emp]
  = b_law_step_7 [.val s.D,.val (stepS s ⟨a,n,some d⟩).D,.val (.tup [.int a,.int n,d.D]),.val (.int a),.val (.int n),.val d.D,.dct kvs,s7,.val (outS s a d).2,.emp]:=by
 have es:stepS s ⟨a,n,some d⟩={ (outS s a d).1 with ds:=putS (Q:=QI) s.ds (a,.tup [.int a,.int n,(outS s a d).2]) }:=by
  unfold stepS doneS
  dsimp only
  rw [if_pos ⟨by rw [hs];rfl,hc⟩]
 have o':Ok17 ws (stepS s ⟨a,n,some d⟩):=step_ok h ro
 have ed:(stepS s ⟨a,n,some d⟩).ds=putS (Q:=QI) s.ds (a,.tup [.int a,.int n,(outS s a d).2]):=by rw [es]
 have pv:=out_ans h a d
 have sv:=out_slot h a d
 have dr:=h.dr
 have num:=h.num
 have dv:=h.dv
 have dl:=h.dl
 have dr':=o'.dr
 have num':=o'.num
 have dv':=o'.dv
 have dl':=o'.dl
 rw [ed] at dr' num' dv' dl'
 generalize (outS s a d).2=v at *
 generalize stepS s ⟨a,n,some d⟩=s' at *
 clear es o'
 have ga:ansV (getR (Q:=QI) (putS (Q:=QI) s.ds (a,.tup [.int a,.int n,v])) a)=v:=by
  rw [getR_put (Q:=QI) _ dr.nodup,if_pos rfl];rfl
 have gd':(D.tup ((putS (Q:=QI) s.ds (a,.tup [.int a,.int n,v])).map (·.2))).gd 64=true:=(pln_mono (pln_tup (n:=2) (by rw [List.length_map];omega) fun x hx=>by
  obtain ⟨y,hy,rfl⟩:=List.mem_map.mp hx
  exact dv' y hy) (by decide:3≤64)).1.1
 have sd:slotOf d.D = .val d.D:=wD_slot (some d)
 obtain ⟨cs,ds,f,t,sh⟩:=s
 obtain ⟨cs',ds',f',t',sh'⟩:=s'
 have ed:ds'=putS (Q:=QI) ds (a,.tup [.int a,.int n,v]):=ed
 subst ed
 unfold Sl.D
 dsimp only at *
 obtain ⟨kvs,s7,dg,e0⟩:=step_l0 dr num dv dl (s0:=.val (.tup [.tup (cs.map (·.2)),.tup (ds.map (·.2)),.tup [.int f,t],sh])) (s1:=.val (.tup [.tup (cs'.map (·.2)),.tup ((putS (Q:=QI) ds (a,.tup [.int a,.int n,v])).map (·.2)),.tup [.int f',t'],sh'])) (s2:=.val (.tup [.int a,.int n,d.D])) (s3:=.val (.int a)) (s4:=.val (.int n)) (s5:=.val d.D) (s8:=.emp) (s9:=.emp)
 obtain ⟨s7',e1⟩:=step_l1 dr' num' dv' dl' a (s0:=.val (.tup [.tup (cs.map (·.2)),.tup (ds.map (·.2)),.tup [.int f,t],sh])) (s1:=.val (.tup [.tup (cs'.map (·.2)),.tup ((putS (Q:=QI) ds (a,.tup [.int a,.int n,v])).map (·.2)),.tup [.int f',t'],sh'])) (s2:=.val (.tup [.int a,.int n,d.D])) (s4:=.val (.int n)) (s5:=.val d.D) (s6:=.dct kvs) (s7:=s7) (s9:=.emp)
 rw [ga] at e1
 have dg':=dg.put (a:=a) (m:=.int n) (z:=v) (pln_mono (pln3 (n:=1) pln_int pln_int pv) (by decide:2≤3))
 have lk:=dg.lk
 have lk1:kvs.length < 1000:=by omega
 obtain ⟨ks,h1,h3⟩:=dg'.keys
 have so:=sort_dict (Z:=koInt) (fun _=>rfl) (kk:=Sum.inl) (fun _=>rfl) h1 h3 dg'.rise (by omega)
 have cp:kLoop tYes (c2 oDIx (cVar 1) (cVar 0)) [.emp,.vd (dputD kvs (.inl a) (.tup [.int a,.int n,v]))] ((putS (Q:=QI) ds (a,.tup [.int a,.int n,v])).map fun x=>koInt.kd x.1)=pure ((putS (Q:=QI) ds (a,.tup [.int a,.int n,v])).map (·.2)):=comp_all (fun x:Int×D=>D.int x.1) (·.2) _ fun x hx=>by
  have hv:=dg'.val x.1
  rw [getR_mem (Q:=QI) dg'.rise.nodup hx] at hv
  simp [hv]
 have z:(putS (Q:=QI) ds (a,.tup [.int a,.int n,v])).length < sizeLine:=small1000 (by omega)
 have nn:=ne_self gd'
 generalize putS (Q:=QI) ds (a,.tup [.int a,.int n,v])=dq at *
 generalize ek:dputD kvs (.inl a) (.tup [.int a,.int n,v])=kq at *
 refine ⟨kq,s7',?_⟩
 rw [b_law_step,seq_nx (σ':=[.val (.tup [.tup (cs.map (·.2)),.tup (ds.map (·.2)),.tup [.int f,t],sh]),.val (.tup [.tup (cs'.map (·.2)),.tup (dq.map (·.2)),.tup [.int f',t'],sh']),.val (.tup [.int a,.int n,d.D]),.val (.int a),.val (.int n),.val d.D,.emp,.emp,.emp,.emp]) (by simp [sd])]
 rw [b_law_step_1,seq_nx (σ':=[.val (.tup [.tup (cs.map (·.2)),.tup (ds.map (·.2)),.tup [.int f,t],sh]),.val (.tup [.tup (cs'.map (·.2)),.tup (dq.map (·.2)),.tup [.int f',t'],sh']),.val (.tup [.int a,.int n,d.D]),.val (.int a),.val (.int n),.val d.D,.dct [],.emp,.emp,.emp]) (by simp)]
 rw [b_law_step_2,seq_nx (σ':=[.val (.tup [.tup (cs.map (·.2)),.tup (ds.map (·.2)),.tup [.int f,t],sh]),.val (.tup [.tup (cs'.map (·.2)),.tup (dq.map (·.2)),.tup [.int f',t'],sh']),.val (.tup [.int a,.int n,d.D]),.val (.int a),.val (.int n),.val d.D,.dct kvs,s7,.emp,.emp]) (by simp [e0])]
 rw [b_law_step_3,seq_nx (σ':=[.val (.tup [.tup (cs.map (·.2)),.tup (ds.map (·.2)),.tup [.int f,t],sh]),.val (.tup [.tup (cs'.map (·.2)),.tup (dq.map (·.2)),.tup [.int f',t'],sh']),.val (.tup [.int a,.int n,d.D]),.val (.int a),.val (.int n),.val d.D,.dct kvs,s7,.val .non,.emp]) (by simp)]
 rw [b_law_step_4,seq_nx (σ':=[.val (.tup [.tup (cs.map (·.2)),.tup (ds.map (·.2)),.tup [.int f,t],sh]),.val (.tup [.tup (cs'.map (·.2)),.tup (dq.map (·.2)),.tup [.int f',t'],sh']),.val (.tup [.int a,.int n,d.D]),.val (.int a),.val (.int n),.val d.D,.dct kvs,s7',.val v,.emp]) (by simp [e1])]
 rw [b_law_step_5,seq_nx (σ':=[.val (.tup [.tup (cs.map (·.2)),.tup (ds.map (·.2)),.tup [.int f,t],sh]),.val (.tup [.tup (cs'.map (·.2)),.tup (dq.map (·.2)),.tup [.int f',t'],sh']),.val (.tup [.int a,.int n,d.D]),.val (.int a),.val (.int n),.val d.D,.dct kq,s7',.val v,.emp]) (by simp [lk1,ek])]
 rw [b_law_step_6,seq_nx (σ':=[.val (.tup [.tup (cs.map (·.2)),.tup (ds.map (·.2)),.tup [.int f,t],sh]),.val (.tup [.tup (cs'.map (·.2)),.tup (dq.map (·.2)),.tup [.int f',t'],sh']),.val (.tup [.int a,.int n,d.D]),.val (.int a),.val (.int n),.val d.D,.dct kq,s7',.val v,.emp]) (by simp [so,cp,z,nn])]
end
end K17
namespace K17
open PySem PySem.Spec L2 L3
theorem en_put:oEq (.v (.str "put")) (.v (.str "end"))=pure (.v (.bl false)):=by kernel_rfl
theorem en_add:oEq (.v (.str "add")) (.v (.str "end"))=pure (.v (.bl false)):=by kernel_rfl
theorem en_swap:oEq (.v (.str "swap")) (.v (.str "end"))=pure (.v (.bl false)):=by kernel_rfl
theorem en_sure:oEq (.v (.str "sure")) (.v (.str "end"))=pure (.v (.bl false)):=by kernel_rfl
theorem en_take:oEq (.v (.str "take")) (.v (.str "end"))=pure (.v (.bl false)):=by kernel_rfl
theorem en_renew:oEq (.v (.str "renew")) (.v (.str "end"))=pure (.v (.bl false)):=by kernel_rfl
theorem en_free:oEq (.v (.str "free")) (.v (.str "end"))=pure (.v (.bl false)):=by kernel_rfl
theorem mo_put:oEq (.v (.str "put")) (.v (.str "move"))=pure (.v (.bl false)):=by kernel_rfl
theorem mo_add:oEq (.v (.str "add")) (.v (.str "move"))=pure (.v (.bl false)):=by kernel_rfl
theorem mo_swap:oEq (.v (.str "swap")) (.v (.str "move"))=pure (.v (.bl false)):=by kernel_rfl
theorem mo_sure:oEq (.v (.str "sure")) (.v (.str "move"))=pure (.v (.bl false)):=by kernel_rfl
theorem mo_take:oEq (.v (.str "take")) (.v (.str "move"))=pure (.v (.bl false)):=by kernel_rfl
theorem mo_renew:oEq (.v (.str "renew")) (.v (.str "move"))=pure (.v (.bl false)):=by kernel_rfl
theorem mo_free:oEq (.v (.str "free")) (.v (.str "move"))=pure (.v (.bl false)):=by kernel_rfl
theorem ni_put:oIn false (.v (.str "put")) (.v (.tup [.str "take",.str "renew",.str "free"]))=pure (.v (.bl false)):=by kernel_rfl
theorem ni_add:oIn false (.v (.str "add")) (.v (.tup [.str "take",.str "renew",.str "free"]))=pure (.v (.bl false)):=by kernel_rfl
theorem ni_swap:oIn false (.v (.str "swap")) (.v (.tup [.str "take",.str "renew",.str "free"]))=pure (.v (.bl false)):=by kernel_rfl
theorem ni_sure:oIn false (.v (.str "sure")) (.v (.tup [.str "take",.str "renew",.str "free"]))=pure (.v (.bl false)):=by kernel_rfl
theorem ni_take:oIn false (.v (.str "take")) (.v (.tup [.str "take",.str "renew",.str "free"]))=pure (.v (.bl true)):=by kernel_rfl
theorem ni_renew:oIn false (.v (.str "renew")) (.v (.tup [.str "take",.str "renew",.str "free"]))=pure (.v (.bl true)):=by kernel_rfl
theorem ni_free:oIn false (.v (.str "free")) (.v (.tup [.str "take",.str "renew",.str "free"]))=pure (.v (.bl true)):=by kernel_rfl
theorem eq_over:oEq (.v (.str "over")) (.v (.str "over"))=pure (.v (.bl true)):=by kernel_rfl
section
variable {ws:List (List Nat)} {s:Sl} (h:Ok17 ws s) (hl:ws.length=4)
include h hl
theorem step_eq {a n:Int} {d:Dd} (ro:RwOk ws ⟨a,n,some d⟩) (hs:s.sh = .non) (hc:s.last a < n):m_law_step [s.D,(stepS s ⟨a,n,some d⟩).D,.tup [.int a,.int n,d.D]]=pure (.v (.bl true)):=by
 have ok:=ro.dd d rfl
 have es:stepS s ⟨a,n,some d⟩={ (outS s a d).1 with ds:=putS (Q:=QI) s.ds (a,.tup [.int a,.int n,(outS s a d).2]) }:=by
  unfold stepS doneS
  dsimp only
  rw [if_pos ⟨by rw [hs];rfl,hc⟩]
 obtain ⟨kvs,s7,md⟩:=step_mid h hl ro hs hc
 have sv:=out_slot h a d
 have gc:=cells_gd h hl
 have tn:=h.tn
 have L:=fun hd=>leased_eq h hl hs a n (putS (Q:=QI) s.ds (a,.tup [.int a,.int n,(outS s a d).2])) (d:=d) hd
 have W:=fun hd=>written_eq h hl hs a n (putS (Q:=QI) s.ds (a,.tup [.int a,.int n,(outS s a d).2])) (d:=d) ok hd
 rw [←es] at L W
 have fin:b_law_step_7 [.val s.D,.val (stepS s ⟨a,n,some d⟩).D,.val (.tup [.int a,.int n,d.D]),.val (.int a),.val (.int n),.val d.D,.dct kvs,s7,.val (outS s a d).2,.emp]=pure (.rt (.v (.bl true))):=by
  have s1:slotOf s.D = .val s.D:=rfl
  have s2:slotOf (stepS s ⟨a,n,some d⟩).D = .val (stepS s ⟨a,n,some d⟩).D:=rfl
  cases d with
  | put w m=>
   have W:=W (.inl ⟨w,m,rfl⟩)
   unfold Dd.D at W ⊢
   simp only [b_law_step_7,b_law_step_8,b_law_step_9]
   simp [en_put,mo_put,ni_put,sv,s1,s2,W]
  | add w m=>
   have W:=W (.inr (.inl ⟨w,m,rfl⟩))
   unfold Dd.D at W ⊢
   simp only [b_law_step_7,b_law_step_8,b_law_step_9]
   simp [en_add,mo_add,ni_add,sv,s1,s2,W]
  | swap w o m=>
   have W:=W (.inr (.inr (.inl ⟨w,o,m,rfl⟩)))
   unfold Dd.D at W ⊢
   simp only [b_law_step_7,b_law_step_8,b_law_step_9]
   simp [en_swap,mo_swap,ni_swap,sv,s1,s2,W]
  | sure g w m=>
   have W:=W (.inr (.inr (.inr ⟨g,w,m,rfl⟩)))
   unfold Dd.D at W ⊢
   simp only [b_law_step_7,b_law_step_8,b_law_step_9]
   simp [en_sure,mo_sure,ni_sure,sv,s1,s2,W]
  | take g=>
   have L:=L (.inl ⟨g,rfl⟩)
   unfold Dd.D at L ⊢
   simp only [b_law_step_7,b_law_step_8,b_law_step_9]
   simp [en_take,mo_take,ni_take,sv,s1,s2,L]
  | renew g=>
   have L:=L (.inr (.inl ⟨g,rfl⟩))
   unfold Dd.D at L ⊢
   simp only [b_law_step_7,b_law_step_8,b_law_step_9]
   simp [en_renew,mo_renew,ni_renew,sv,s1,s2,L]
  | free g=>
   have L:=L (.inr (.inr ⟨g,rfl⟩))
   unfold Dd.D at L ⊢
   simp only [b_law_step_7,b_law_step_8,b_law_step_9]
   simp [en_free,mo_free,ni_free,sv,s1,s2,L]
  | move z=>
   have ez:z=moveH:=ok
   subst ez
   rw [es]
   obtain ⟨cs,ds,f,t,sh⟩:=s
   have gt:(D.tup [.int f,t]).gd 64=true:=by rcases (show t = .non∨∃i:Int,t = .int i from tn) with rfl | ⟨i,rfl⟩ <;> rfl
   have q1:=eq_self' (show (D.tup (cs.map (·.2))).gd 64=true from gc)
   have q2:=eq_self' gt
   have q3:oEq (.v moveH) (.v moveH)=pure (.v (.bl true)):=eq_self' rfl
   unfold outS Sl.D Dd.D
   dsimp only
   simp only [b_law_step_7]
   simp [ee_move,em_move,q1,q2,q3]
  | fin=>
   rw [es]
   obtain ⟨cs,ds,f,t,sh⟩:=s
   have gt:(D.tup [.int f,t]).gd 64=true:=by rcases (show t = .non∨∃i:Int,t = .int i from tn) with rfl | ⟨i,rfl⟩ <;> rfl
   have q1:=eq_self' (show (D.tup (cs.map (·.2))).gd 64=true from gc)
   have q2:=eq_self' gt
   unfold outS Sl.D Dd.D
   dsimp only
   simp only [b_law_step_7]
   simp [ee_end,em_end,q1,q2,eq_over]
 rw [fin] at md
 show (b_law_step [.val s.D,.val (stepS s ⟨a,n,some d⟩).D,.val (.tup [.int a,.int n,d.D]),.emp,.emp,.emp,.emp,.emp,.emp,.emp] >>= _)=_
 rw [md]
 rfl
end
end K17
namespace K17
open PySem PySem.Spec L2 L3
def isDone (s:Sl) (r:Rw):Bool:=r.d.isSome && nonB s.sh && decide (s.last r.a < r.n)
theorem not_done {s:Sl} {r:Rw} (h:isDone s r=false):stepS s r=s:=by
 obtain ⟨a,n,d⟩:=r
 cases d with
 | none=>rfl
 | some d=>
  unfold stepS doneS
  dsimp only
  rw [if_neg]
  rintro ⟨h1,h2⟩
  unfold isDone at h
  rw [h1,decide_eq_true h2] at h
  cases h
theorem done_of {s:Sl} {r:Rw} (h:isDone s r=true):∃d,r.d=some d∧nonB s.sh=true∧s.last r.a < r.n:=by
 unfold isDone at h
 rw [Bool.and_eq_true,Bool.and_eq_true,decide_eq_true_eq] at h
 obtain ⟨⟨h1,h2⟩,h3⟩:=h
 obtain ⟨d,e⟩:=Option.isSome_iff_exists.mp h1
 exact ⟨d,e,h2,h3⟩
theorem step_form {s:Sl} {a n:Int} {d:Dd} (hs:nonB s.sh=true) (hc:s.last a < n):stepS s ⟨a,n,some d⟩={ (outS s a d).1 with ds:=putS (Q:=QI) s.ds (a,.tup [.int a,.int n,(outS s a d).2]) }:=by
 unfold stepS doneS
 dsimp only
 rw [if_pos ⟨hs,hc⟩]
theorem nonB_iff {d:D}:nonB d=true↔d = .non:=by cases d <;> simp [nonB]
theorem last_step {ws:List (List Nat)} {s:Sl} (h:Ok17 ws s) {a n:Int} {d:Dd} (hs:nonB s.sh=true) (hc:s.last a < n) (b:Int):(stepS s ⟨a,n,some d⟩).last b=if b=a then n else s.last b:=by
 rw [step_form hs hc]
 unfold Sl.last
 dsimp only
 rw [getR_put (Q:=QI) _ h.dr.nodup]
 split
 ·rfl
 ·rfl
def opnD:Dd→Bool
 | .move _=>false
 | .fin=>false
 | _=>true
theorem sh_step {ws:List (List Nat)} {s:Sl} (h:Ok17 ws s) {a n:Int} {d:Dd} (ok:D17 ws d) (hs:nonB s.sh=true) (hc:s.last a < n):nonB (stepS s ⟨a,n,some d⟩).sh=opnD d:=by
 rw [step_form hs hc]
 cases d with
 | move z=>rw [show z=moveH from ok];rfl
 | fin=>rfl
 | put w m=>exact hs
 | add w m=>exact hs
 | swap w o m=>unfold outS;dsimp only;split <;> exact hs
 | sure g w m=>unfold outS;dsimp only;split <;> exact hs
 | take g=>unfold outS;dsimp only;split <;> exact hs
 | renew g=>unfold outS;dsimp only;split <;> exact hs
 | free g=>unfold outS;dsimp only;split <;> exact hs
theorem opn_eq (d:Dd):∃w:Str,oIx (.v d.D) (.v (.int 0))=pure (.v (.str w))∧∃b1 b2:Bool,oNe (.v (.str w)) (.v (.str "end"))=pure (.v (.bl b1))∧oNe (.v (.str w)) (.v (.str "move"))=pure (.v (.bl b2))∧(b1 && b2)=opnD d:=by
 cases d with
 | put w m=>exact ⟨"put",rfl,true,true,by kernel_rfl,by kernel_rfl,rfl⟩
 | add w m=>exact ⟨"add",rfl,true,true,by kernel_rfl,by kernel_rfl,rfl⟩
 | swap w o m=>exact ⟨"swap",rfl,true,true,by kernel_rfl,by kernel_rfl,rfl⟩
 | sure g w m=>exact ⟨"sure",rfl,true,true,by kernel_rfl,by kernel_rfl,rfl⟩
 | take g=>exact ⟨"take",rfl,true,true,by kernel_rfl,by kernel_rfl,rfl⟩
 | renew g=>exact ⟨"renew",rfl,true,true,by kernel_rfl,by kernel_rfl,rfl⟩
 | free g=>exact ⟨"free",rfl,true,true,by kernel_rfl,by kernel_rfl,rfl⟩
 | move z=>exact ⟨"move",rfl,true,false,by kernel_rfl,by kernel_rfl,rfl⟩
 | fin=>exact ⟨"end",rfl,false,true,by kernel_rfl,by kernel_rfl,rfl⟩
def s00:Sl:=⟨[],[],0,.non,.non⟩
theorem s00_ok (ws:List (List Nat)):Ok17 ws s00:=⟨by simp [s00],.nil,by simp [s00],by simp [s00],.nil,by simp [s00],.inl rfl,.inl rfl,by simp [s00]⟩
def doneAt (rs:List Rw) (j:Nat):Bool:=match rs[j]? with
 | some r=>isDone (at17 s00 rs j) r
 | none=>false
def doneK (rs:List Rw) (i:Nat):List Nat:=(List.range i).filter (doneAt rs)
theorem doneK_succ (rs:List Rw) (i:Nat):doneK rs (i + 1)=doneK rs i ++ if doneAt rs i=true then [i] else []:=by
 unfold doneK
 rw [List.range_succ,List.filter_append]
 congr 1
 by_cases c:doneAt rs i=true
 ·rw [if_pos c,List.filter_cons_of_pos c];rfl
 ·rw [if_neg c,List.filter_cons_of_neg c];rfl
abbrev WSt (rs:List Rw) (i:Nat) (kl:List (Key×D)) (s6 s7 s8 s9:Slot):En:=
 [.vw ((told17 s00 rs).map Sl.D),.vw (rs.map Rw.D),.val (at17 s00 rs i).D,.val (.bl (nonB (at17 s00 rs i).sh)),.dct kl,.ow false ((doneK rs i).map fun j=>.int (j:Nat)),s6,s7,s8,s9]
structure WL (rs:List Rw) (i:Nat) (kl:List (Key×D)):Prop where
 val:∀a:Int,(dvalD kl (.inl a)).getD (.int 0) = .int ((at17 s00 rs i).last a)
 len:kl.length≤i
theorem walk_turn {ws:List (List Nat)} (hl:ws.length=4) {rs:List Rw} (hr:∀r∈rs,RwOk ws r) (hn:rs.length≤59) {i:Nat} {r:Rw} (er:rs[i]? = some r) {kl:List (Key×D)} (w:WL rs i kl) {s7 s8 s9:Slot} :
  ∃kl' t6 t7 t8 t9,l_law_walked_0 (WSt rs i kl (.val (.int (i:Nat))) s7 s8 s9)=pure (.nx (WSt rs (i + 1) kl' t6 t7 t8 t9))∧WL rs (i + 1) kl':=by
 have hi:i < rs.length:=(List.getElem?_eq_some_iff.mp er).1
 have ro:=hr r (List.mem_of_getElem? er)
 have oi:=at17_ok (s00_ok ws) hr i
 have oi1:=at17_ok (s00_ok ws) hr (i + 1)
 have es:=at17_succ (s:=s00) er
 have dk:=doneK_succ rs i
 have da:doneAt rs i=isDone (at17 s00 rs i) r:=by unfold doneAt;rw [er]
 have fe:=form_eq oi1 hl
 have a1:atI (rs.map Rw.D) (i:Nat)=some r.D:=at_of i (by rw [List.getElem?_map,er];rfl)
 have a2:atI ((told17 s00 rs).map Sl.D) (i:Nat)=some (at17 s00 rs (i + 1)).D:=at_of i (by
  unfold told17
  rw [List.map_map,List.getElem?_map,List.getElem?_range hi];rfl)
 have wl:=w.val r.a
 have gd1:(at17 s00 rs (i + 1)).D.gd 64=true:=(pln_mono (slate_pln oi1 hl) (by decide)).1.1
 have s2:slotOf (at17 s00 rs (i + 1)).D = .val (at17 s00 rs (i + 1)).D:=rfl
 have s1:slotOf (at17 s00 rs i).D = .val (at17 s00 rs i).D:=rfl
 have lk:kl.length < 1000:=by have:=w.len;omega
 have zz:(doneK rs i).length < sizeLine:=small1000 (by
  have:(doneK rs i).length≤i:=by unfold doneK;exact Nat.le_trans (List.length_filter_le _ _) (by rw [List.length_range];exact Nat.le_refl _)
  omega)
 obtain ⟨a,n,d⟩:=r
 have sd:=wD_slot d
 unfold WSt
 have lv:=w.val
 have ll:=w.len
 generalize (told17 s00 rs).map Sl.D=tl at a2 ⊢
 generalize rs.map Rw.D=rl at a1 ⊢
 unfold Rw.D at a1
 dsimp only at a1 wl sd
 rw [l_law_walked_0,seq_nx (σ':=[.vw tl,.vw rl,.val (at17 s00 rs i).D,.val (.bl (nonB (at17 s00 rs i).sh)),.dct kl,.ow false ((doneK rs i).map fun j=>.int (j:Nat)),.val (.int (i:Nat)),.val (.int a),.val (.int n),.val (wD d)]) (by simp [a1,sd])]
 rw [seq_nx (σ':=[.vw tl,.vw rl,.val (at17 s00 rs i).D,.val (.bl (nonB (at17 s00 rs i).sh)),.dct kl,.ow false ((doneK rs i).map fun j=>.int (j:Nat)),.val (.int (i:Nat)),.val (.int a),.val (.int n),.val (wD d)]) (by simp [a2,fe])]
 by_cases c:isDone (at17 s00 rs i) ⟨a,n,d⟩=true
 ·obtain ⟨d',ed,c2,c3⟩:=done_of c
  have ed:d=some d':=ed
  subst ed
  have c3:(at17 s00 rs i).last a < n:=c3
  have c3':¬n≤(at17 s00 rs i).last a:=by omega
  have nb:(R.v d'.D).isN=false:=by cases d' <;> rfl
  have hs:(at17 s00 rs i).sh = .non:=nonB_iff.mp c2
  have se:=step_eq oi hl ro hs c3
  rw [←es] at se
  obtain ⟨wd,w0,b1,b2,w1,w2,w3⟩:=opn_eq d'
  have sh:=sh_step oi (ro.dd d' rfl) c2 c3
  have la:=last_step oi (a:=a) (n:=n) (d:=d') c2 c3
  rw [←es] at sh la
  rw [da,if_pos c] at dk
  refine ⟨dputD kl (.inl a) (.int n),.val (.int (i:Nat)),.val (.int a),.val (.int n),.val (wD (some d')),?_,fun b=>?_,Nat.le_trans (dput_len _ _ _) (by omega)⟩
  ·have w4:(if b1=true then b2 else false)=opnD d':=by rw [←w3];cases b1 <;> rfl
   rw [sh,dk,List.map_append]
   rw [seq_nx (σ':=[.vw tl,.vw rl,.val (at17 s00 rs i).D,.val (.bl (opnD d')),.dct (dputD kl (.inl a) (.int n)),.ow false ((doneK rs i).map (fun j=>D.int (j:Nat)) ++ [.int (i:Nat)]),.val (.int (i:Nat)),.val (.int a),.val (.int n),.val d'.D]) (by
    simp [nb,c2,wl,c3',a1,a2,s1,s2,se,lk,wD,w0,w1,w2,zz]
    rw [←w4]
    cases b1 <;> rfl)]
   simp [a2,s2,wD]
  ·rw [dval_put,la]
   by_cases q:b=a
   ·rw [if_pos (by rw [q]),if_pos q];rfl
   ·rw [if_neg (fun z=>q (Sum.inl.inj z)),if_neg q];exact lv b
 ·rw [Bool.not_eq_true] at c
  have nd:=not_done c
  rw [nd] at es
  rw [da,c] at dk
  have nn:=ne_self gd1
  rw [es] at nn a2 s2 ⊢
  rw [dk,if_neg Bool.false_ne_true,List.append_nil]
  refine ⟨kl,.val (.int (i:Nat)),.val (.int a),.val (.int n),.val (wD d),?_,fun b=>by rw [es];exact lv b,by omega⟩
  rw [seq_nx (σ':=[.vw tl,.vw rl,.val (at17 s00 rs i).D,.val (.bl (nonB (at17 s00 rs i).sh)),.dct kl,.ow false ((doneK rs i).map fun j=>.int (j:Nat)),.val (.int (i:Nat)),.val (.int a),.val (.int n),.val (wD d)]) (by
   unfold isDone at c
   cases d with
   | none=>simp [wD,a2,nn]
   | some d=>
    have nb:(R.v d.D).isN=false:=by cases d <;> rfl
    cases e:nonB (at17 s00 rs i).sh with
    | false=>simp [wD,nb,a2,nn]
    | true=>
     rw [e] at c
     have c3:¬(at17 s00 rs i).last a < n:=by simpa using c
     have c3':n≤(at17 s00 rs i).last a:=by omega
     simp [wD,nb,wl,c3',a2,nn])]
  simp [a2,s2]
theorem walked_eq {ws:List (List Nat)} (hl:ws.length=4) {rs:List Rw} (hr:∀r∈rs,RwOk ws r) (hn:rs.length≤59):m_law_walked [.lst ((told17 s00 rs).map Sl.D),.lst (rs.map Rw.D)]=pure (.fr ((doneK rs rs.length).map fun j=>.int (j:Nat))):=by
 obtain ⟨σ',e,kl,t6,t7,t8,t9,rfl,w⟩:=for_inv (b:=fun d σ=>l_law_walked_0 (σ.set 6 (.val d))) (ds:=rngD 0 rs.length) (σ:=WSt rs 0 [] .emp .emp .emp .emp)
  (fun i σ=>∃kl t6 t7 t8 t9,σ=WSt rs i kl t6 t7 t8 t9∧WL rs i kl) ⟨_,_,_,_,_,rfl,fun _=>rfl,Nat.le_refl _⟩ (fun i d σ hd hyp=>by
   obtain ⟨kl,t6,t7,t8,t9,rfl,w⟩:=hyp
   have hi:i < rs.length:=by
    have:=(List.getElem?_eq_some_iff.mp hd).1
    rwa [show (rngD 0 rs.length).length=rs.length by simp [rngD]] at this
   obtain ⟨k,rfl,hk⟩:=rng_at hd
   have hk:k=(i:Int):=by omega
   subst hk
   obtain ⟨kl',u6,u7,u8,u9,e,w'⟩:=walk_turn hl hr hn (r:=rs[i]) (List.getElem?_eq_getElem hi) w (s7:=t7) (s8:=t8) (s9:=t9)
   exact ⟨_,.inl e,kl',u6,u7,u8,u9,rfl,w'⟩)
 rw [show (rngD 0 rs.length).length=rs.length by simp [rngD]] at e
 have b2:(rs.length:Int) < 4611686018427387904:=by omega
 have b3:-4611686018427387904≤(rs.length:Int):=by omega
 unfold WSt at e
 have z0:(at17 s00 rs 0).D = .tup [.tup [],.tup [],.tup [.int 0,.non],.non]:=rfl
 have z1:nonB (at17 s00 rs 0).sh=true:=rfl
 have z2:(doneK rs 0).map (fun j=>D.int (j:Nat))=[]:=rfl
 rw [z0,z1,z2] at e
 generalize (told17 s00 rs).map Sl.D=tl at e ⊢
 generalize hrl:rs.map Rw.D=rl at e ⊢
 have ln:rl.length=rs.length:=by rw [←hrl,List.length_map]
 simp only [m_law_walked,b_law_walked,b_law_walked_1,b_law_walked_2,b_law_walked_3,b_law_walked_4,b_law_walked_5]
 simp [ln,b2,b3,e]
end K17
namespace K17
open PySem PySem.Spec L2 L3
def addOf (w:List Nat):Dd→Int
 | .add v n=>if v=w then n else 0
 | _=>0
def isL:Dd→Bool
 | .take _=>true
 | .renew _=>true
 | .free _=>true
 | _=>false
theorem filter_one {l:List (Int×D)} (hn:(l.map (·.1)).Nodup) {x:Int×D} (hx:x∈l):l.filter (fun y=>decide (y.1=x.1))=[x]:=by
 induction l with
 | nil=>cases hx
 | cons y l ih=>
  rw [List.map_cons,List.nodup_cons] at hn
  rcases List.mem_cons.mp hx with rfl | hx
  ·rw [List.filter_cons_of_pos (by simp)]
   congr 1
   refine List.filter_eq_nil_iff.mpr fun z hz=>?_
   have:z.1≠x.1:=fun e=>hn.1 (e ▸ List.mem_map_of_mem hz)
   simpa using this
  ·have:y.1≠x.1:=fun e=>hn.1 (e ▸ List.mem_map_of_mem hx)
   rw [List.filter_cons_of_neg (by simpa using this)]
   exact ih hn.2 hx
theorem out_lent (s:Sl) (a:Int) (d:Dd) (h:isL d=true):∃x y,(outS s a d).2 = .tup [.int ((outS s a d).1.f - s.f),x,y]:=by
 cases d with
 | take g=>
  unfold outS;dsimp only;split
  ·rename_i c;exact ⟨_,_,by rw [←c,show s.f + 1 - s.f=(1:Int) by omega]⟩
  ·exact ⟨_,_,by rw [Int.sub_self]⟩
 | renew g=>
  unfold outS;dsimp only;split
  ·rename_i c
   have:s.f=g:=by unfold Sl.mine at c;rw [Bool.and_eq_true,beq_iff_eq] at c;exact c.1
   exact ⟨_,_,by rw [←this,show s.f + 1 - s.f=(1:Int) by omega]⟩
  ·exact ⟨_,_,by rw [Int.sub_self]⟩
 | free g=>
  unfold outS;dsimp only;split
  ·rename_i c
   have:s.f=g:=by unfold Sl.mine at c;rw [Bool.and_eq_true,beq_iff_eq] at c;exact c.1
   exact ⟨_,_,by rw [←this,show s.f + 1 - s.f=(1:Int) by omega]⟩
  ·exact ⟨_,_,by rw [Int.sub_self]⟩
 | _=>cases h
theorem out_f (s:Sl) (a:Int) (d:Dd) (h:isL d=false):(outS s a d).1.f=s.f:=by
 cases d <;> first | rfl | (unfold outS;dsimp only;split <;> rfl) | cases h
theorem out_cell {ws:List (List Nat)} {s:Sl} (h:Ok17 ws s) (a:Int) {d:Dd} (ok:D17 ws d) {w:List Nat} (hw:w∉ws.take 3):(outS s a d).1.cell w=s.cell w + addOf w d:=by
 have put:∀(v:List Nat) (n:Int),v≠w→(s.put v n).cell w=s.cell w:=fun v n ne=>by
  unfold Sl.put Sl.cell
  dsimp only
  rw [wcell_get h.rise,if_neg (Ne.symm ne)]
 cases d with
 | put v n=>exact (put v n fun e=>hw (e ▸ ok.2)).trans (Int.add_zero _).symm
 | add v n=>
  show _=s.cell w + (if v=w then n else 0)
  by_cases c:v=w
  ·subst c
   rw [if_pos rfl]
   exact wcell_val h.rise v _
  ·rw [if_neg c];exact (put v _ c).trans (Int.add_zero _).symm
 | swap v o n=>
  unfold outS;dsimp only;split
  ·exact (put v n fun e=>hw (e ▸ ok.2)).trans (Int.add_zero _).symm
  ·exact (Int.add_zero _).symm
 | sure g v n=>
  unfold outS;dsimp only;split
  ·exact (put v n fun e=>hw (e ▸ ok.2)).trans (Int.add_zero _).symm
  ·exact (Int.add_zero _).symm
 | take g=>unfold outS;dsimp only;split <;> exact (Int.add_zero _).symm
 | renew g=>unfold outS;dsimp only;split <;> exact (Int.add_zero _).symm
 | free g=>unfold outS;dsimp only;split <;> exact (Int.add_zero _).symm
 | move z=>exact (Int.add_zero _).symm
 | fin=>exact (Int.add_zero _).symm
def addJ (rs:List Rw) (w:List Nat) (j:Nat):Int:=match rs[j]? with
 | some ⟨_,_,some d⟩=>addOf w d
 | _=>0
def lntJ (rs:List Rw) (j:Nat):Int:=(at17 s00 rs (j + 1)).f - (at17 s00 rs j).f
def sumL (f:Nat→Int) (l:List Nat):Int:=(l.map f).foldl (· + ·) 0
theorem sumL_snoc (f:Nat→Int) (l:List Nat) (j:Nat):sumL f (l ++ [j])=sumL f l + f j:=by
 unfold sumL;rw [List.map_append,List.foldl_append];rfl
theorem sum_f (rs:List Rw):∀i,i≤rs.length→(at17 s00 rs i).f=sumL (lntJ rs) (doneK rs i)
 | 0,_=>rfl
 | i + 1,h=>by
  have ih:=sum_f rs i (by omega)
  have er:rs[i]? = some (rs[i]'(by omega)):=List.getElem?_eq_getElem _
  rw [doneK_succ]
  by_cases c:doneAt rs i=true
  ·rw [if_pos c,sumL_snoc,←ih];unfold lntJ;omega
  ·rw [if_neg c,List.append_nil,←ih,at17_succ er]
   have:isDone (at17 s00 rs i) (rs[i]'(by omega))=false:=by unfold doneAt at c;rw [er] at c;simpa using c
   rw [not_done this]
theorem sum_c {ws:List (List Nat)} {rs:List Rw} (hr:∀r∈rs,RwOk ws r) {w:List Nat} (hw:w∉ws.take 3):∀i,i≤rs.length→(at17 s00 rs i).cell w=sumL (addJ rs w) (doneK rs i)
 | 0,_=>rfl
 | i + 1,h=>by
  have ih:=sum_c hr hw i (by omega)
  have er:rs[i]? = some (rs[i]'(by omega)):=List.getElem?_eq_getElem _
  have ro:=hr _ (List.mem_of_getElem? er)
  rw [doneK_succ,at17_succ er]
  by_cases c:doneAt rs i=true
  ·have c':isDone (at17 s00 rs i) (rs[i]'(by omega))=true:=by unfold doneAt at c;rw [er] at c;exact c
   rw [if_pos c,sumL_snoc,←ih]
   unfold addJ
   rw [er]
   generalize rs[i]'(by omega)=r at *
   obtain ⟨d,ed,c2,c3⟩:=done_of c'
   obtain ⟨a,n,d'⟩:=r
   have ed:d'=some d:=ed
   subst ed
   rw [step_form c2 c3]
   exact out_cell (at17_ok (s00_ok ws) hr i) a (ro.dd d rfl) hw
  ·rw [if_neg c,List.append_nil,←ih]
   have:isDone (at17 s00 rs i) (rs[i]'(by omega))=false:=by unfold doneAt at c;rw [er] at c;simpa using c
   rw [not_done this]
end K17
namespace K17
open PySem PySem.Spec L2 L3
abbrev LSt (ns:List Int) (ws:List (List Nat)) (rs:List Rw) (dn:List D) (t l:Int) (s8 s9 s10 s11 s12:Slot):En:=
 [.vw (ns.map D.int),.val (.lst (ws.map fun a=>.str (tx a))),.val (.lst (rs.map Rw.D)),.val (.lst (rs.map Rw.D)),.val (.lst ((told17 s00 rs).map Sl.D)),.val (.lst dn),.val (.int t),.val (.int l),s8,s9,s10,s11,s12]
theorem add_word (d:Dd):(∃v n,d = .add v n)∨(∃w:Str,∃r,d.D = .tup (.str w :: r)∧oEq (.v (.str w)) (.v (.str "add"))=pure (.v (.bl false))∧∀u,addOf u d=0):=by
 cases d with
 | add v n=>exact .inl ⟨v,n,rfl⟩
 | put v n=>exact .inr ⟨"put",_,rfl,by kernel_rfl,fun _=>rfl⟩
 | swap v o n=>exact .inr ⟨"swap",_,rfl,by kernel_rfl,fun _=>rfl⟩
 | sure g v n=>exact .inr ⟨"sure",_,rfl,by kernel_rfl,fun _=>rfl⟩
 | take g=>exact .inr ⟨"take",_,rfl,by kernel_rfl,fun _=>rfl⟩
 | renew g=>exact .inr ⟨"renew",_,rfl,by kernel_rfl,fun _=>rfl⟩
 | free g=>exact .inr ⟨"free",_,rfl,by kernel_rfl,fun _=>rfl⟩
 | move z=>exact .inr ⟨"move",_,rfl,by kernel_rfl,fun _=>rfl⟩
 | fin=>exact .inr ⟨"end",_,rfl,by kernel_rfl,fun _=>rfl⟩
theorem isl_word (d:Dd):∃w:Str,∃r,d.D = .tup (.str w :: r)∧oIn false (.v (.str w)) (.v (.tup [.str "take",.str "renew",.str "free"]))=pure (.v (.bl (isL d))):=by
 cases d with
 | add v n=>exact ⟨"add",_,rfl,ni_add⟩
 | put v n=>exact ⟨"put",_,rfl,ni_put⟩
 | swap v o n=>exact ⟨"swap",_,rfl,ni_swap⟩
 | sure g v n=>exact ⟨"sure",_,rfl,ni_sure⟩
 | take g=>exact ⟨"take",_,rfl,ni_take⟩
 | renew g=>exact ⟨"renew",_,rfl,ni_renew⟩
 | free g=>exact ⟨"free",_,rfl,ni_free⟩
 | move z=>exact ⟨"move",_,rfl,by kernel_rfl⟩
 | fin=>exact ⟨"end",_,rfl,by kernel_rfl⟩
theorem eq_tx (a b:List Nat) (ha:Wd a) (hb:Wd b):oEq (.v (.str (tx a))) (.v (.str (tx b)))=pure (.v (.bl (decide (a=b)))):=by
 unfold oEq
 rw [if_pos ⟨ha.1,hb.1⟩]
 show pure (R.v (.bl (peq (.str (tx a)) (.str (tx b)))))=_
 congr 3
 by_cases c:a=b
 ·subst c;simp [peq]
 ·have:tx a≠tx b:=fun e=>c (tx_inj.mp e)
  simp [peq,c,this]
theorem law_turn {ws:List (List Nat)} (hw:∀a∈ws,Wd a) (hl:ws.length=4) {ns:List Int} {rs:List Rw} (hr:∀r∈rs,RwOk ws r) (hn:rs.length≤59) {j:Nat} (dj:doneAt rs j=true) {dn:List D} {t l:Int} {s9 s10 s11 s12:Slot} {w3:List Nat} (e3:ws[3]? = some w3) :
  ∃t9 t10,l_law_0 (LSt ns ws rs dn t l (.val (.int (j:Nat))) s9 s10 s11 s12)=pure (.nx (LSt ns ws rs dn (t + addJ rs w3 j) (l + lntJ rs j) (.val (.int (j:Nat))) t9 t10 s11 s12)):=by
 unfold doneAt at dj
 cases er:rs[j]? with
 | none=>rw [er] at dj;cases dj
 | some r=>
  rw [er] at dj
  have dj:isDone (at17 s00 rs j) r=true:=dj
  have hj:j < rs.length:=(List.getElem?_eq_some_iff.mp er).1
  have ro:=hr r (List.mem_of_getElem? er)
  have oi:=at17_ok (s00_ok ws) hr j
  have oi1:=at17_ok (s00_ok ws) hr (j + 1)
  have es:=at17_succ (s:=s00) er
  have a1:atI (rs.map Rw.D) (j:Nat)=some r.D:=at_of j (by rw [List.getElem?_map,er];rfl)
  have a2:atI ((told17 s00 rs).map Sl.D) (j:Nat)=some (at17 s00 rs (j + 1)).D:=at_of j (by
   unfold told17
   rw [List.map_map,List.getElem?_map,List.getElem?_range hj];rfl)
  have a3:atI (ws.map fun a=>D.str (tx a)) 3=some (.str (tx w3)):=at_of 3 (by rw [List.getElem?_map,e3];rfl)
  have w3d:=hw w3 (List.mem_of_getElem? e3)
  obtain ⟨d,ed,k2,k3⟩:=done_of dj
  obtain ⟨a,n,d'⟩:=r
  have ed:d'=some d:=ed
  subst ed
  have aj:addJ rs w3 j=addOf w3 d:=by unfold addJ;rw [er]
  rw [aj]
  have sf:=step_form (d:=d) k2 k3
  rw [←es] at sf
  have fj:lntJ rs j=(outS (at17 s00 rs j) a d).1.f - (at17 s00 rs j).f:=by unfold lntJ;rw [sf]
  rw [fj]
  have sd:slotOf d.D = .val d.D:=wD_slot (some d)
  have ok:=ro.dd d rfl
  unfold LSt
  generalize ns.map D.int=nl
  generalize hpl:ws.map (fun a=>D.str (tx a))=pl at a3 ⊢
  generalize rs.map Rw.D=rl at a1 ⊢
  generalize (told17 s00 rs).map Sl.D=tl at a2 ⊢
  unfold Rw.D wD at a1
  dsimp only at a1
  rw [l_law_0,seq_nx (σ':=[.vw nl,.val (.lst pl),.val (.lst rl),.val (.lst rl),.val (.lst tl),.val (.lst dn),.val (.int t),.val (.int l),.val (.int (j:Nat)),.val d.D,s10,s11,s12]) (by simp [a1,sd])]
  rw [seq_nx (σ':=[.vw nl,.val (.lst pl),.val (.lst rl),.val (.lst rl),.val (.lst tl),.val (.lst dn),.val (.int (t + addOf w3 d)),.val (.int l),.val (.int (j:Nat)),.val d.D,s10,s11,s12]) (by
   rcases add_word d with ⟨v,m,rfl⟩ | ⟨w,r,e,q,z⟩
   ·have ev:=eq_tx v w3 ok.1 w3d
    unfold Dd.D
    by_cases c:v=w3
    ·subst c
     have:addOf v (.add v m)=m:=if_pos rfl
     rw [this]
     simp [ea_add,a3,ev]
    ·have:addOf w3 (.add v m)=0:=if_neg c
     rw [this,Int.add_zero]
     simp [ea_add,a3,ev,c]
   ·rw [e,z,Int.add_zero]
    simp [q])]
  obtain ⟨w,rr,e,q⟩:=isl_word d
  cases il:isL d with
  | false=>
   rw [il] at q
   rw [out_f _ _ _ il,Int.sub_self,Int.add_zero]
   refine ⟨.val d.D,s10,?_⟩
   rw [e]
   simp [q]
  | true=>
   rw [il] at q
   obtain ⟨x,y,ev⟩:=out_lent (at17 s00 rs j) a d il
   have nd:=oi1.dr.nodup
   have mem:(a,D.tup [.int a,.int n,(outS (at17 s00 rs j) a d).2])∈(at17 s00 rs (j + 1)).ds:=by
    rw [sf];exact (putS_mem (Q:=QI)).mpr (.inr rfl)
   have fo:=filter_one nd mem
   have i0:∀v:D,atI [v] 0=some v:=fun v=>rfl
   have pv:=out_ans oi a d
   have sv:=out_slot oi a d
   have cp:kLoop (cT (c2 oEq (c2 oIx (cVar 0) (cK (.int 0))) (c2 oIx (c2 oIx (cVar 1) (cVar 2)) (cK (.int 0))))) (c2 oIx (cVar 0) (cK (.int 2))) [.emp,.val (.lst rl),.val (.int (j:Nat))] ((at17 s00 rs (j + 1)).ds.map (·.2))=pure [(outS (at17 s00 rs j) a d).2]:=by
    have:=comp_on (t:=cT (c2 oEq (c2 oIx (cVar 0) (cK (.int 0))) (c2 oIx (c2 oIx (cVar 1) (cVar 2)) (cK (.int 0))))) (el:=c2 oIx (cVar 0) (cK (.int 2))) (σ:=[.emp,.val (.lst rl),.val (.int (j:Nat))]) (fun x:Int×D=>x.2) (fun x=>decide (x.1=a)) (fun x=>match x.2 with | .tup [_,_,z]=>z | _=>.non) (at17 s00 rs (j + 1)).ds (fun x hx=>by
     obtain ⟨m,z,e⟩:=oi1.num x hx
     by_cases c:x.1=a
     ·simp [e,a1,c]
     ·have cb:(x.1 == a)=false:=by simpa using c
      simp [e,a1,c,cb]) (fun x hx _=>by
     obtain ⟨m,z,e⟩:=oi1.num x hx
     simp [e])
    rw [this]
    rw [show (fun x:Int×D=>decide (x.1=a))=fun y=>decide (y.1=(a,D.tup [.int a,.int n,(outS (at17 s00 rs j) a d).2]).1) from rfl,fo]
    rfl
   have dl:=oi1.dl
   have z:(1:Nat) < sizeLine:=small1000 (by decide)
   refine ⟨.val d.D,.val (.lst [(outS (at17 s00 rs j) a d).2]),?_⟩
   unfold Sl.D at a2
   rw [e]
   rw [ev] at cp ⊢
   have z1:(at17 s00 rs (j + 1)).ds.length < sizeLine:=small1000 (by omega)
   simp [q,a2,cp,i0,z1,z]
end K17
namespace K17
open PySem PySem.Spec L2 L3
theorem ne_lst {x y:R} {xs:List D} (hx:x.arg = .lst xs) (hy:y.arg = .lst xs) (h:gdAll xs 63=true):oNe x y=pure (.v (.bl false)):=by
 have g:(D.lst xs).gd 64=true:=h
 unfold oNe
 rw [hx,hy,if_pos ⟨g,g⟩,peq_refl g];rfl
theorem at_last {α:Type} {xs:List α} {x:α} (h:xs.getLast? = some x):atI xs (-1)=some x:=by
 unfold atI ixN
 rw [if_neg (by decide)]
 have hp:0 < xs.length:=by
  cases xs with
  | nil=>cases h
  | cons _ _=>simp
 rw [if_pos (by omega)]
 show xs[((-1:Int) + (xs.length:Nat)).toNat]? = some x
 rw [show ((-1:Int) + (xs.length:Nat)).toNat=xs.length - 1 by omega,←List.getLast?_eq_getElem?]
 exact h
theorem row_gd {ws:List (List Nat)} {r:Rw} (h:RwOk ws r):r.D.gd 63=true:=by
 obtain ⟨a,n,d⟩:=r
 cases d with
 | none=>rfl
 | some d=>
  have ok:=h.dd d rfl
  have g:d.D.gd 62=true:=by
   cases d with
   | put v n=>exact by simp [Dd.D,D.gd,gdAll,ok.1.1];decide +kernel
   | add v n=>exact by simp [Dd.D,D.gd,gdAll,ok.1.1];decide +kernel
   | swap v o n=>exact by simp [Dd.D,D.gd,gdAll,ok.1.1];decide +kernel
   | sure g v n=>exact by simp [Dd.D,D.gd,gdAll,ok.1.1];decide +kernel
   | take g=>exact by simp [Dd.D,D.gd,gdAll];decide +kernel
   | renew g=>exact by simp [Dd.D,D.gd,gdAll];decide +kernel
   | free g=>exact by simp [Dd.D,D.gd,gdAll];decide +kernel
   | move z=>rw [show z=moveH from ok];decide +kernel
   | fin=>decide +kernel
  show (true && (true && (d.D.gd 62 && true)))=true
  rw [g];rfl
theorem at17_drop (s:Sl) (rs:List Rw) (m i:Nat):at17 (at17 s rs m) (rs.drop m) i=at17 s rs (m + i):=by
 unfold at17
 rw [←List.foldl_append,List.take_add]
theorem told_drop (s:Sl) (rs:List Rw) (m:Nat):told17 (at17 s rs m) (rs.drop m)=(told17 s rs).drop m:=by
 unfold told17
 refine List.ext_getElem (by simp) fun i h1 h2=>?_
 simp only [List.getElem_map,List.getElem_range,List.getElem_drop]
 rw [at17_drop];rfl
theorem told_last {rs:List Rw} (h:0 < rs.length):(told17 s00 rs).getLast? = some (at17 s00 rs rs.length):=by
 unfold told17
 rw [List.getLast?_map,List.getLast?_range,if_neg (by omega)]
 show some (at17 s00 rs (rs.length - 1 + 1))=_
 rw [Nat.sub_add_cancel h]
theorem in_names {ws:List (List Nat)} (hw:∀a∈ws,Wd a) {w:List Nat} (hv:Wd w):oIn true (.v (.str (tx w))) (.fr (ws.map fun a=>.str (tx a)))=pure (.v (.bl (!decide (w∈ws)))):=by
 have fl:(ws.map fun a=>D.str (tx a)).all D.flat=true:=by
  rw [List.all_map,List.all_eq_true]
  intro x hx;rfl
 show (if (D.str (tx w)).flat=true∧(ws.map fun a=>D.str (tx a)).all D.flat=true then pure (R.v (.bl (!inD (.str (tx w)) (ws.map fun a=>D.str (tx a))))) else bad)=_
 rw [if_pos ⟨rfl,fl⟩]
 congr 4
 rw [Bool.eq_iff_iff,decide_eq_true_eq]
 unfold inD
 rw [List.any_map,List.any_eq_true]
 constructor
 ·rintro ⟨x,hx,e⟩
  have:tx x=tx w:=by simpa [peq] using e
  rw [←tx_inj.mp this];exact hx
 ·exact fun h=>⟨w,h,by simp [peq]⟩
theorem isi_lst (xs:List D):fIsi [.v (.lst xs),.v (.ty "list")]=pure (.v (.bl true)):=by kernel_rfl
theorem law_eq (ns:List Int) (hn:ns.length≤63):m_law [.lst (ns.map D.int)]=pure (.v (.bl true)):=by
 obtain ⟨ws,ep,hw,hl⟩:=law_pool_eq ns
 obtain ⟨rs,er,hr,hn2⟩:=rows_eq ns hn hw hl
 have al:=along_eq hl (s00_ok ws) hr hn2
 have wk:=walked_eq hl hr hn2
 have lt:(told17 s00 rs).length=rs.length:=by unfold told17;rw [List.length_map,List.length_range]
 have nr:oNe (.v (.lst (rs.map Rw.D))) (.v (.lst (rs.map Rw.D)))=pure (.v (.bl false)):=ne_lst rfl rfl (gdAll_iff.mpr fun x hx=>by
  obtain ⟨y,hy,rfl⟩:=List.mem_map.mp hx
  exact row_gd (hr y hy))
 have z:rs.length < sizeLine:=small1000 (by omega)
 have s0e:s00.D = .tup [.tup [],.tup [],.tup [.int 0,.non],.non]:=rfl
 rw [s0e] at al
 obtain ⟨w3,e3⟩:∃w3,ws[3]? = some w3:=⟨ws[3]'(by omega),List.getElem?_eq_getElem _⟩
 have fin:b_law [.vw (ns.map D.int),.emp,.emp,.emp,.emp,.emp,.emp,.emp,.emp,.emp,.emp,.emp,.emp]=pure (.rt (.v (.bl true))):=by
  rw [b_law,seq_nx (σ':=[.vw (ns.map D.int),.val (.lst (ws.map fun a=>.str (tx a))),.emp,.emp,.emp,.emp,.emp,.emp,.emp,.emp,.emp,.emp,.emp]) (by simp [ep])]
  rw [b_law_1,seq_nx (σ':=[.vw (ns.map D.int),.val (.lst (ws.map fun a=>.str (tx a))),.val (.lst (rs.map Rw.D)),.emp,.emp,.emp,.emp,.emp,.emp,.emp,.emp,.emp,.emp]) (by simp [er])]
  rw [b_law_2,seq_nx (σ':=[.vw (ns.map D.int),.val (.lst (ws.map fun a=>.str (tx a))),.val (.lst (rs.map Rw.D)),.val (.lst (rs.map Rw.D)),.emp,.emp,.emp,.emp,.emp,.emp,.emp,.emp,.emp]) (by simp [z])]
  rw [b_law_3,seq_nx (σ':=[.vw (ns.map D.int),.val (.lst (ws.map fun a=>.str (tx a))),.val (.lst (rs.map Rw.D)),.val (.lst (rs.map Rw.D)),.val (.lst ((told17 s00 rs).map Sl.D)),.emp,.emp,.emp,.emp,.emp,.emp,.emp,.emp]) (by simp [al])]
  rw [b_law_4,seq_nx (σ':=[.vw (ns.map D.int),.val (.lst (ws.map fun a=>.str (tx a))),.val (.lst (rs.map Rw.D)),.val (.lst (rs.map Rw.D)),.val (.lst ((told17 s00 rs).map Sl.D)),.emp,.emp,.emp,.emp,.emp,.emp,.emp,.emp]) (by simp [isi_lst,lt,nr])]
  rw [b_law_5,seq_nx (σ':=[.vw (ns.map D.int),.val (.lst (ws.map fun a=>.str (tx a))),.val (.lst (rs.map Rw.D)),.val (.lst (rs.map Rw.D)),.val (.lst ((told17 s00 rs).map Sl.D)),.val (.lst ((doneK rs rs.length).map fun j=>.int (j:Nat))),.emp,.emp,.emp,.emp,.emp,.emp,.emp]) (by simp [wk])]
  rw [b_law_6,seq_nx (σ':=[.vw (ns.map D.int),.val (.lst (ws.map fun a=>.str (tx a))),.val (.lst (rs.map Rw.D)),.val (.lst (rs.map Rw.D)),.val (.lst ((told17 s00 rs).map Sl.D)),.val (.lst ((doneK rs rs.length).map fun j=>.int (j:Nat))),.emp,.emp,.emp,.emp,.emp,.emp,.emp]) (by simp)]
  by_cases c0:rs.length=0
  ·rw [b_law_7,seq_rt]
   simp [c0]
  rw [b_law_7,seq_nx (σ':=[.vw (ns.map D.int),.val (.lst (ws.map fun a=>.str (tx a))),.val (.lst (rs.map Rw.D)),.val (.lst (rs.map Rw.D)),.val (.lst ((told17 s00 rs).map Sl.D)),.val (.lst ((doneK rs rs.length).map fun j=>.int (j:Nat))),.emp,.emp,.emp,.emp,.emp,.emp,.emp]) (by simp [c0])]
  rw [b_law_8,seq_nx (σ':=[.vw (ns.map D.int),.val (.lst (ws.map fun a=>.str (tx a))),.val (.lst (rs.map Rw.D)),.val (.lst (rs.map Rw.D)),.val (.lst ((told17 s00 rs).map Sl.D)),.val (.lst ((doneK rs rs.length).map fun j=>.int (j:Nat))),.val (.int 0),.emp,.emp,.emp,.emp,.emp,.emp]) (by simp)]
  rw [b_law_9,seq_nx (σ':=LSt ns ws rs ((doneK rs rs.length).map fun j=>.int (j:Nat)) 0 0 .emp .emp .emp .emp .emp) (by simp)]
  obtain ⟨σ',e,t8,t9,t10,rfl⟩:=for_inv (b:=fun d σ=>l_law_0 (σ.set 8 (.val d))) (ds:=(doneK rs rs.length).map fun j=>D.int (j:Nat)) (σ:=LSt ns ws rs ((doneK rs rs.length).map fun j=>.int (j:Nat)) 0 0 .emp .emp .emp .emp .emp)
   (fun i σ=>∃t8 t9 t10,σ=LSt ns ws rs ((doneK rs rs.length).map fun j=>.int (j:Nat)) (sumL (addJ rs w3) ((doneK rs rs.length).take i)) (sumL (lntJ rs) ((doneK rs rs.length).take i)) t8 t9 t10 .emp .emp) ⟨_,_,_,rfl⟩ (fun i d σ hd hyp=>by
    obtain ⟨t8,t9,t10,rfl⟩:=hyp
    obtain ⟨j,hj,rfl⟩:=map_get hd
    have dj:doneAt rs j=true:=(List.mem_filter.mp (List.mem_of_getElem? hj)).2
    obtain ⟨u9,u10,e⟩:=law_turn hw hl hr hn2 dj e3 (ns:=ns) (dn:=(doneK rs rs.length).map fun j=>.int (j:Nat)) (t:=sumL (addJ rs w3) ((doneK rs rs.length).take i)) (l:=sumL (lntJ rs) ((doneK rs rs.length).take i)) (s9:=t9) (s10:=t10) (s11:=.emp) (s12:=.emp)
    rw [←sumL_snoc,←sumL_snoc,←take_snoc hj] at e
    exact ⟨_,.inl e,_,_,_,rfl⟩)
  rw [List.length_map,List.take_of_length_le (Nat.le_refl _),←sum_f rs rs.length (Nat.le_refl _)] at e
  rw [b_law_10,seq_nx (σ':=LSt ns ws rs ((doneK rs rs.length).map fun j=>.int (j:Nat)) (sumL (addJ rs w3) (doneK rs rs.length)) (at17 s00 rs rs.length).f t8 t9 t10 .emp .emp) (by
   show (iL (cVar 5) _ >>= _)=_
   rw [show iL (cVar 5) (LSt ns ws rs ((doneK rs rs.length).map fun j=>.int (j:Nat)) 0 0 .emp .emp .emp .emp .emp)=pure ((doneK rs rs.length).map fun j=>.int (j:Nat)) by simp]
   exact e)]
  have q3:m_law_cell_at [.lst (ns.map D.int),.int 2]=_:=cell_at ns 2
  generalize ns.getD 2 0=cc at q3
  have hp:(0:Int) < (rs.length:Int):=by omega
  have hb:(rs.length:Int) < 10 ^ 200:=by omega
  have hm:=mod_lt (a:=cc) hp
  obtain ⟨j,hj⟩:∃j:Nat,cc % (rs.length:Int)=(j:Nat):=⟨(cc % (rs.length:Int)).toNat,by omega⟩
  have hjl:j < rs.length:=by omega
  have a2:atI ((told17 s00 rs).map Sl.D) (j:Nat)=some (at17 s00 rs (j + 1)).D:=at_of j (by
   unfold told17
   rw [List.map_map,List.getElem?_map,List.getElem?_range hjl];rfl)
  have ct1:cutD (rs.map Rw.D) (some ((j:Int) + 1)) none=(rs.drop (j + 1)).map Rw.D:=by
   rw [List.map_drop];exact cut_lo (rs.map Rw.D) (j + 1) (by rw [List.length_map];omega)
  have ct2:cutD ((told17 s00 rs).map Sl.D) (some ((j:Int) + 1)) none=((told17 s00 rs).drop (j + 1)).map Sl.D:=by
   rw [List.map_drop];exact cut_lo ((told17 s00 rs).map Sl.D) (j + 1) (by rw [List.length_map,lt];omega)
  have al2:=along_eq hl (at17_ok (s00_ok ws) hr (j + 1)) (rs:=rs.drop (j + 1)) (fun r h=>hr r (List.mem_of_mem_drop h)) (by rw [List.length_drop];omega)
  rw [told_drop] at al2
  simp only [List.map_drop] at al2 ct1 ct2
  have hpn:0 < rs.length:=by omega
  have s2:slotOf (at17 s00 rs (j + 1)).D = .val (at17 s00 rs (j + 1)).D:=rfl
  rw [b_law_11,seq_nx (σ':=LSt ns ws rs ((doneK rs rs.length).map fun j=>.int (j:Nat)) (sumL (addJ rs w3) (doneK rs rs.length)) (at17 s00 rs rs.length).f t8 t9 t10 (.val (.int (j:Nat))) .emp) (by simp [q3,hpn,hb,hj])]
  rw [b_law_12,seq_nx (σ':=LSt ns ws rs ((doneK rs rs.length).map fun j=>.int (j:Nat)) (sumL (addJ rs w3) (doneK rs rs.length)) (at17 s00 rs rs.length).f t8 t9 t10 (.val (.int (j:Nat))) (.val (.lst (((told17 s00 rs).drop (j + 1)).map Sl.D)))) (by simp [a2,ct1,al2])]
  have nr2:oNe (.v (.lst (((told17 s00 rs).drop (j + 1)).map Sl.D))) (.fr (((told17 s00 rs).drop (j + 1)).map Sl.D))=pure (.v (.bl false)):=ne_lst rfl rfl (gdAll_iff.mpr fun x hx=>by
   obtain ⟨y,hy,rfl⟩:=List.mem_map.mp hx
   obtain ⟨k,_,rfl⟩:=List.mem_map.mp (List.mem_of_mem_drop hy)
   exact (pln_mono (slate_pln (at17_ok (s00_ok ws) hr (k + 1)) hl) (by decide)).1.1)
  simp only [List.map_drop] at nr2
  rw [b_law_13,seq_nx (σ':=LSt ns ws rs ((doneK rs rs.length).map fun j=>.int (j:Nat)) (sumL (addJ rs w3) (doneK rs rs.length)) (at17 s00 rs rs.length).f t8 t9 t10 (.val (.int (j:Nat))) (.val (.lst (((told17 s00 rs).drop (j + 1)).map Sl.D)))) (by simp [isi_lst,ct2,nr2])]
  have la:atI ((told17 s00 rs).map Sl.D) (-1)=some (at17 s00 rs rs.length).D:=at_last (by rw [List.getLast?_map,told_last (by omega)];rfl)
  have a3:atI (ws.map fun a=>D.str (tx a)) 3=some (.str (tx w3)):=at_of 3 (by rw [List.getElem?_map,e3];rfl)
  have w3d:=hw w3 (List.mem_of_getElem? e3)
  have ct3:cutD (ws.map fun a=>D.str (tx a)) none (some 3)=(ws.take 3).map fun a=>D.str (tx a):=by
   rw [List.map_take];exact cut_hi (ws.map fun a=>D.str (tx a)) 3 (by rw [List.length_map];omega)
  have inn:=in_names (ws:=ws.take 3) (fun a h=>hw a (List.mem_of_mem_take h)) w3d
  simp only [List.map_take] at inn ct3
  have ol:=at17_ok (s00_ok ws) hr rs.length
  have sc:=fun h=>sum_c hr (w:=w3) h rs.length (Nat.le_refl _)
  have ce:=cells_eq ol.row ol.rise (by have:=ol.cl;omega) (.tup ((at17 s00 rs rs.length).ds.map (·.2))) (.tup [.int (at17 s00 rs rs.length).f,(at17 s00 rs rs.length).t]) (at17 s00 rs rs.length).sh
  have cv:=cellsK_val ol.rise.nodup w3
  have sl:slotOf (at17 s00 rs rs.length).D = .val (at17 s00 rs rs.length).D:=rfl
  rw [b_law_14,seq_nx (σ':=LSt ns ws rs ((doneK rs rs.length).map fun j=>.int (j:Nat)) (sumL (addJ rs w3) (doneK rs rs.length)) (at17 s00 rs rs.length).f t8 t9 t10 (.val (.int (j:Nat))) (.val (.lst (((told17 s00 rs).drop (j + 1)).map Sl.D)))) (by
   rw [show (at17 s00 rs rs.length).D = .tup [.tup ((at17 s00 rs rs.length).cs.map (·.2)),.tup ((at17 s00 rs rs.length).ds.map (·.2)),.tup [.int (at17 s00 rs rs.length).f,(at17 s00 rs rs.length).t],(at17 s00 rs rs.length).sh] from rfl] at la
   by_cases c:w3∈ws.take 3
   ·simp [a3,ct3,inn,c]
   ·have sc:=sc c
    unfold Sl.cell at sc
    rw [←sc]
    simp [a3,ct3,inn,c,la,ce,cv,keyD])]
  rw [show (at17 s00 rs rs.length).D = .tup [.tup ((at17 s00 rs rs.length).cs.map (·.2)),.tup ((at17 s00 rs rs.length).ds.map (·.2)),.tup [.int (at17 s00 rs rs.length).f,(at17 s00 rs rs.length).t],(at17 s00 rs rs.length).sh] from rfl] at la
  rw [b_law_15]
  simp [la]
 show (b_law [.vw (ns.map D.int),.emp,.emp,.emp,.emp,.emp,.emp,.emp,.emp,.emp,.emp,.emp,.emp] >>= _)=_
 rw [fin];rfl
theorem law_true (ns:List Int) (hn:ns.length≤63):∃S',(m_law [.lst (ns.map D.int)]).run [] = .ok (.v (.bl true)) S':=⟨[],by rw [law_eq ns hn];rfl⟩
end K17
namespace PySem.W.Fast
def te11921821736535093426:=0
def te11490801938357161566:=0
def te6762290948672594975:=0
def te16277309634646355338:=0
def te6361439309258645190:=0
def te4374229867143852331:=0
def te8666092492976281054:=0
def te16146574982657709275:=0
def te10059732355287514165:=0
def te9361384861018820766:=0
def te14219008840810571260:=0
def te7417090322980574725:=0
def te17554838123308299991:=0
def te7261945357950998339:=0
def te4636492376419167146:=0
def te14390355244728469000:=0
def te2734259939859944088:=0
def te7844640071536461043:=0
def te219610589921954833:=0
def te435735590203116444:=0
def te3772482946237148939:=0
def te7555314130215374725:=0
def te9919881931886820847:=0
def te14347452176247092446:=0
def te8880760912615597701:=0
def te18172025360116060402:=0
def te4349763807482628439:=0
def te10325237774894635733:=0
def te2389356089887958992:=0
def te5921370787633498863:=0
def te8654209101734423882:=0
def te12853017737643881675:=0
def te9284137866102561203:=0
def te12513659950320932658:=0
def te153160555112500722:=0
def te17922533563242716800:=0
def te15190792545420215338:=0
def te3656706639641756699:=0
def te3762456022628769221:=0
def te6184790453214557355:=0
def te1423851930664911658:=0
def te6307979131873310926:=0
def te8473788651960039231:=0
def te17809738720453264018:=0
def te2614062286926790765:=0
def te18025075527770149260:=0
def te17228914428243868997:=0
def te7740170147780910894:=0
def te13198978876611641826:=0
def te59174715430112705:=0
def te1093957996398918594:=0
def te12924870771316248768:=0
def te8592321383204319069:=0
def te3870083014656034826:=0
def te658586415954919098:=0
def te3737727363538004065:=0
def te11033922262233701672:=0
def te1770161571810303174:=0
def te2022223231022343931:=0
def te9621666862185487346:=0
def te698123452211450195:=0
def te17125439553369129365:=0
def te18219021292359563499:=0
def te9890981219906710838:=0
def te389537306966330501:=0
def te11624745242383402075:=0
def te9648359634224782588:=0
def te616958150437966995:=0
def te6637992399383128209:=0
def te1832563672106784430:=0
def te4276477693884398728:=0
def te16916988237011025947:=0
def te2820902790557911052:=0
def te1101013105855753019:=0
def te8406896504282059270:=0
def te2178004531139800761:=0
def te4382033364701820641:=0
def te15262719379483251086:=0
def te12765962225913942630:=0
def te1790966196882425910:=0
def te16085463610307988118:=0
def te14782700675089139731:=0
def te3948800678430754211:=0
def te7058376333915847830:=0
def te13525139372941264091:=0
def te10702898181308413340:=0
def te5095902442552715595:=0
def te18353113763241801543:=0
def te5064541410883268528:=0
def te8727548677145998731:=0
def te17401756023949163238:=0
def te11521634410748342002:=0
def te11290426487901188720:=0
def te2496289247228560263:=0
def te16630146093403722212:=0
def te10757013313234342371:=0
def te4611070279466147037:=0
def te18130341891544019351:=0
def te15004826283775749772:=0
def te16238603798320141045:=0
def te18314652978403817096:=0
def te16979823617322364525:=0
def te5842261667197835353:=0
def te13574661691755350373:=0
def te14788788267356009358:=0
def te12697421094794869837:=0
def te1068899222713680895:=0
def te6062670435290022860:=0
def te10674452588890772808:=0
def te14862168559688774636:=0
def te14829709332012277791:=0
def te8076228590003892066:=0
def te9527021407425945972:=0
def te4907469677004065631:=0
def te2627653301327381010:=0
def te14467444292193636437:=0
def te9444869370839946400:=0
def te17725461081699953184:=0
def te17627152284692823517:=0
def te1009564252243638974:=0
def te8048006234405476089:=0
def te7730431357116345894:=0
def te15161383281003984875:=0
def te6784269652653550655:=0
def te16343048707806035825:=0
def te1751856752641970176:=0
def te18085863954033773000:=0
def te9573939576190062016:=0
def te14767726860028671165:=0
def te13848187414309562330:=0
def te9481146546288430526:=0
def te12952871096639867927:=0
def te14802524042415053265:=0
def te15368055977145478805:=0
def te15619659362581940908:=0
def te17358293042323554420:=0
def te12399075685552826595:=0
def te11028316751213381621:=0
def te6327409613812675201:=0
def te2530587113661747044:=0
def te18385156870433025595:=0
def te2730826565399297156:=0
def te16626745644994141460:=0
def te4132856674105153375:=0
def te9702254089777115737:=0
def te7065796001740186241:=0
def te15352375561102230126:=0
def te11526354520163896718:=0
def te2295861227106831066:=0
def te17054351489112500313:=0
def te1413785266162797736:=0
def te2047204508149827513:=0
def te14662233752676051168:=0
def te1494506728485589743:=0
def te203761728628157971:=0
def te14017951095627794316:=0
def te15596612938556335074:=0
def te4128311320922743297:=0
def te16109094730863017201:=0
def te3540868167102627306:=0
def te6547384977785842770:=0
def te18158709829457691084:=0
def te8889772544849304819:=0
def te9385762143171382564:=0
def te18153018162328285496:=0
def te7947328585361091173:=0
def te10419629123463785459:=0
def te14071067075081415584:=0
def te992970593204882899:=0
def te6544404780442680824:=0
def te18305640399659719700:=0
def te4014211137824147268:=0
def te18418115821369675891:=0
def te2845568258720696545:=0
def te13238235466671221508:=0
def te2278198694606443586:=0
def te801198698908406762:=0
def te3318803884842001470:=0
def te15732237322347712244:=0
def te11561968755490712321:=0
def te4177339239126989202:=0
def te17699572130131256977:=0
def te11166283179398079571:=0
def te9249324089589517801:=0
def te522450113346472677:=0
def te16053273435333325870:=0
def te2693860489303523807:=0
def te2783279852783025861:=0
def te9429943542592397594:=0
def te17544160243023944677:=0
def te10579542523464308337:=0
def te313694783280847370:=0
def te15756779446184270590:=0
def te10832274594966630672:=0
def te12159532161069780695:=0
def te13770614200808887533:=0
def te1491726417156617394:=0
def te15399261945406744649:=0
def te10456584906226122061:=0
def te14755165335174309836:=0
def te8224501333429904884:=0
def te14422501908219233594:=0
def te11891076855219819556:=0
def te1243404862512035662:=0
def te9582080636404843103:=0
def te8625886232355660648:=0
def te3911609068263038064:=0
def te15668277716508910806:=0
def te11986183846795413986:=0
def te17339592566857276147:=0
def te4280725027113367539:=0
def te3241920248724599769:=0
def te11403022782264941357:=0
def te7051314261653865197:=0
def te1769365451859088403:=0
def te7997491898755663933:=0
def te15538870927369628062:=0
def te9675758795799710016:=0
def te8985284787450699874:=0
def te14892444214331465866:=0
def te10799547876577007237:=0
def te11091302682912948026:=0
def te8319592391371836997:=0
def te9783516892507613097:=0
def te8690393777413260410:=0
def te14926461292597982027:=0
def te9604631704224312920:=0
def te12309497279900304238:=0
def te18229348471974698847:=0
def te16224549941039512177:=0
def te12397398861972733354:=0
def te14867018423640145247:=0
def te15138886818234714129:=0
def te9618198949670368759:=0
def te7550249339898150498:=0
def te10689841411456837616:=0
def te14945517536466996146:=0
def te18364728197306123802:=0
def te1577368282404052447:=0
def te1164477434011466113:=0
def te2834607155719681178:=0
def te18390233304915178458:=0
def te3520865194322411368:=0
def te4156294903886746617:=0
def te17139672605641459313:=0
def te18055819770832487518:=0
end PySem.W.Fast
open PySem PySem.W PyProof.Rows
set_option maxRecDepth 100000 in
set_option maxHeartbeats 0 in
theorem PySem.Challenge.cw_oneslate_k17_whole_along_holds : PySem.Challenge.rw_oneslate_k17_whole_along.Holds := by
 w_on;o_law;k_head;(case hw=>w_witness2)
 k_fill
 refine L3.walkT (l:=PySem.Challenge.rw_oneslate_k17_whole_along) (k:=17) ["with_cell","with_doing"] rfl rfl ⟨rfl,by decide,by decide⟩ ?zR ?zN (fun w h Y=>PySem.W.km_in_of Y) ?F
 case zR=>
  intro x hx
  rcases List.mem_cons.mp hx with rfl | hx
  ·exact ⟨_,rfl⟩
  rcases List.mem_cons.mp hx with rfl | hx
  ·exact ⟨_,rfl⟩
  cases hx
 case zN=>exact fun p=>by kernel_rfl
 case F=>
  intro w mg fa h KX G hmg
  have d_lease_of:L2.Df (L2.KOf KX) mg "lease_of" K17.s_lease_of ["slate"]:=by
   dsimp only [L2.KOf]
   refine' L3.df_mk KX G ?a ?l ?c ?k (fun _ _ _ _ _ _=>L3.us1 fun _=>rfl)
   (case a=>k_is);(case l=>k_is);(case c=>k_is);(case k=>k_is)
  have d_shut_of:L2.Df (L2.KOf KX) mg "shut_of" K17.s_shut_of ["slate"]:=by
   dsimp only [L2.KOf]
   refine' L3.df_mk KX G ?a ?l ?c ?k (fun _ _ _ _ _ _=>L3.us1 fun _=>rfl)
   (case a=>k_is);(case l=>k_is);(case c=>k_is);(case k=>k_is)
  have d_is_shut:L2.Df (L2.KOf KX) mg "is_shut" K17.s_is_shut ["slate"]:=by
   dsimp only [L2.KOf]
   refine' L3.df_mk KX G ?a ?l ?c ?k (fun _ _ _ _ _ _=>L3.us1 fun _=>rfl)
   (case a=>k_is);(case l=>k_is);(case c=>k_is);(case k=>k_is)
  have d_cell_of:L2.Df (L2.KOf KX) mg "cell_of" K17.s_cell_of ["slate","name"]:=by
   dsimp only [L2.KOf]
   refine' L3.df_mk KX G ?a ?l ?c ?k (fun _ _ _ _ _ _=>L3.us2 fun _ _=>rfl)
   (case a=>k_is);(case l=>k_is);(case c=>k_is);(case k=>k_is)
  have d_with_cell:L2.Df (L2.KOf KX) mg "with_cell" K17.s_with_cell ["slate","name","n"]:=by
   dsimp only [L2.KOf]
   refine' L3.df_mk KX G ?a ?l ?c ?k (fun _ _ _ _ _ _=>L3.us3 fun _ _ _=>rfl)
   (case a=>k_is);(case l=>k_is);(case c=>k_is);(case k=>k_is)
  have d_doing_of:L2.Df (L2.KOf KX) mg "doing_of" K17.s_doing_of ["slate","asker"]:=by
   dsimp only [L2.KOf]
   refine' L3.df_mk KX G ?a ?l ?c ?k (fun _ _ _ _ _ _=>L3.us2 fun _ _=>rfl)
   (case a=>k_is);(case l=>k_is);(case c=>k_is);(case k=>k_is)
  have d_with_doing:L2.Df (L2.KOf KX) mg "with_doing" K17.s_with_doing ["slate","asker","number","answer"]:=by
   dsimp only [L2.KOf]
   refine' L3.df_mk KX G ?a ?l ?c ?k (fun _ _ _ _ _ _=>L3.us4 fun _ _ _ _=>rfl)
   (case a=>k_is);(case l=>k_is);(case c=>k_is);(case k=>k_is)
  have d_with_lease:L2.Df (L2.KOf KX) mg "with_lease" K17.s_with_lease ["slate","fence","tenant"]:=by
   dsimp only [L2.KOf]
   refine' L3.df_mk KX G ?a ?l ?c ?k (fun _ _ _ _ _ _=>L3.us3 fun _ _ _=>rfl)
   (case a=>k_is);(case l=>k_is);(case c=>k_is);(case k=>k_is)
  have d_with_shut:L2.Df (L2.KOf KX) mg "with_shut" K17.s_with_shut ["slate","shut"]:=by
   dsimp only [L2.KOf]
   refine' L3.df_mk KX G ?a ?l ?c ?k (fun _ _ _ _ _ _=>L3.us2 fun _ _=>rfl)
   (case a=>k_is);(case l=>k_is);(case c=>k_is);(case k=>k_is)
  have d_do_put:L2.Df (L2.KOf KX) mg "do_put" K17.s_do_put ["slate","asker","deed"]:=by
   dsimp only [L2.KOf]
   refine' L3.df_mk KX G ?a ?l ?c ?k (fun _ _ _ _ _ _=>L3.us3 fun _ _ _=>rfl)
   (case a=>k_is);(case l=>k_is);(case c=>k_is);(case k=>k_is)
  have d_do_add:L2.Df (L2.KOf KX) mg "do_add" K17.s_do_add ["slate","asker","deed"]:=by
   dsimp only [L2.KOf]
   refine' L3.df_mk KX G ?a ?l ?c ?k (fun _ _ _ _ _ _=>L3.us3 fun _ _ _=>rfl)
   (case a=>k_is);(case l=>k_is);(case c=>k_is);(case k=>k_is)
  have d_do_swap:L2.Df (L2.KOf KX) mg "do_swap" K17.s_do_swap ["slate","asker","deed"]:=by
   dsimp only [L2.KOf]
   refine' L3.df_mk KX G ?a ?l ?c ?k (fun _ _ _ _ _ _=>L3.us3 fun _ _ _=>rfl)
   (case a=>k_is);(case l=>k_is);(case c=>k_is);(case k=>k_is)
  have d_lent:L2.Df (L2.KOf KX) mg "lent" K17.s_lent ["slate","fence","tenant"]:=by
   dsimp only [L2.KOf]
   refine' L3.df_mk KX G ?a ?l ?c ?k (fun _ _ _ _ _ _=>L3.us3 fun _ _ _=>rfl)
   (case a=>k_is);(case l=>k_is);(case c=>k_is);(case k=>k_is)
  have d_not_lent:L2.Df (L2.KOf KX) mg "not_lent" K17.s_not_lent ["slate"]:=by
   dsimp only [L2.KOf]
   refine' L3.df_mk KX G ?a ?l ?c ?k (fun _ _ _ _ _ _=>L3.us1 fun _=>rfl)
   (case a=>k_is);(case l=>k_is);(case c=>k_is);(case k=>k_is)
  have d_do_take:L2.Df (L2.KOf KX) mg "do_take" K17.s_do_take ["slate","asker","deed"]:=by
   dsimp only [L2.KOf]
   refine' L3.df_mk KX G ?a ?l ?c ?k (fun _ _ _ _ _ _=>L3.us3 fun _ _ _=>rfl)
   (case a=>k_is);(case l=>k_is);(case c=>k_is);(case k=>k_is)
  have d_do_renew:L2.Df (L2.KOf KX) mg "do_renew" K17.s_do_renew ["slate","asker","deed"]:=by
   dsimp only [L2.KOf]
   refine' L3.df_mk KX G ?a ?l ?c ?k (fun _ _ _ _ _ _=>L3.us3 fun _ _ _=>rfl)
   (case a=>k_is);(case l=>k_is);(case c=>k_is);(case k=>k_is)
  have d_do_free:L2.Df (L2.KOf KX) mg "do_free" K17.s_do_free ["slate","asker","deed"]:=by
   dsimp only [L2.KOf]
   refine' L3.df_mk KX G ?a ?l ?c ?k (fun _ _ _ _ _ _=>L3.us3 fun _ _ _=>rfl)
   (case a=>k_is);(case l=>k_is);(case c=>k_is);(case k=>k_is)
  have d_do_sure:L2.Df (L2.KOf KX) mg "do_sure" K17.s_do_sure ["slate","asker","deed"]:=by
   dsimp only [L2.KOf]
   refine' L3.df_mk KX G ?a ?l ?c ?k (fun _ _ _ _ _ _=>L3.us3 fun _ _ _=>rfl)
   (case a=>k_is);(case l=>k_is);(case c=>k_is);(case k=>k_is)
  have d_do_move:L2.Df (L2.KOf KX) mg "do_move" K17.s_do_move ["slate","asker","deed"]:=by
   dsimp only [L2.KOf]
   refine' L3.df_mk KX G ?a ?l ?c ?k (fun _ _ _ _ _ _=>L3.us3 fun _ _ _=>rfl)
   (case a=>k_is);(case l=>k_is);(case c=>k_is);(case k=>k_is)
  have d_do_end:L2.Df (L2.KOf KX) mg "do_end" K17.s_do_end ["slate","asker","deed"]:=by
   dsimp only [L2.KOf]
   refine' L3.df_mk KX G ?a ?l ?c ?k (fun _ _ _ _ _ _=>L3.us3 fun _ _ _=>rfl)
   (case a=>k_is);(case l=>k_is);(case c=>k_is);(case k=>k_is)
  have d_outcome_of:L2.Df (L2.KOf KX) mg "outcome_of" K17.s_outcome_of ["slate","asker","deed"]:=by
   dsimp only [L2.KOf]
   refine' L3.df_mk KX G ?a ?l ?c ?k (fun _ _ _ _ _ _=>L3.us3 fun _ _ _=>rfl)
   (case a=>k_is);(case l=>k_is);(case c=>k_is);(case k=>k_is)
  have d_done_on:L2.Df (L2.KOf KX) mg "done_on" K17.s_done_on ["slate","asker","number","deed"]:=by
   dsimp only [L2.KOf]
   refine' L3.df_mk KX G ?a ?l ?c ?k (fun _ _ _ _ _ _=>L3.us4 fun _ _ _ _=>rfl)
   (case a=>k_is);(case l=>k_is);(case c=>k_is);(case k=>k_is)
  have d_along:L2.Df (L2.KOf KX) mg "along" K17.s_along ["slate","rows"]:=by
   dsimp only [L2.KOf]
   refine' L3.df_mk KX G ?a ?l ?c ?k (fun _ _ _ _ _ _=>L3.us2 fun _ _=>rfl)
   (case a=>k_is);(case l=>k_is);(case c=>k_is);(case k=>k_is)
  have d_law_cell_at:L2.Df (L2.KOf KX) mg "_law_cell_at" K17.s_law_cell_at ["script","k"]:=by
   dsimp only [L2.KOf]
   refine' L3.df_mk KX G ?a ?l ?c ?k (fun _ _ _ _ _ _=>L3.us2 fun _ _=>rfl)
   (case a=>k_is);(case l=>k_is);(case c=>k_is);(case k=>k_is)
  have d_law_whole:L2.Df (L2.KOf KX) mg "_law_whole" K17.s_law_whole ["found"]:=by
   dsimp only [L2.KOf]
   refine' L3.df_mk KX G ?a ?l ?c ?k (fun _ _ _ _ _ _=>L3.us1 fun _=>rfl)
   (case a=>k_is);(case l=>k_is);(case c=>k_is);(case k=>k_is)
  have d_law_word:L2.Df (L2.KOf KX) mg "_law_word" K17.s_law_word ["number"]:=by
   dsimp only [L2.KOf]
   refine' L3.df_mk KX G ?a ?l ?c ?k (fun _ _ _ _ _ _=>L3.us1 fun _=>rfl)
   (case a=>k_is);(case l=>k_is);(case c=>k_is);(case k=>k_is)
  have d_law_near:L2.Df (L2.KOf KX) mg "_law_near" K17.s_law_near ["word","number"]:=by
   dsimp only [L2.KOf]
   refine' L3.df_mk KX G ?a ?l ?c ?k (fun _ _ _ _ _ _=>L3.us2 fun _ _=>rfl)
   (case a=>k_is);(case l=>k_is);(case c=>k_is);(case k=>k_is)
  have d_law_pool:L2.Df (L2.KOf KX) mg "_law_pool" K17.s_law_pool ["script"]:=by
   dsimp only [L2.KOf]
   refine' L3.df_mk KX G ?a ?l ?c ?k (fun _ _ _ _ _ _=>L3.us1 fun _=>rfl)
   (case a=>k_is);(case l=>k_is);(case c=>k_is);(case k=>k_is)
  have d_law_number:L2.Df (L2.KOf KX) mg "_law_number" K17.s_law_number ["number"]:=by
   dsimp only [L2.KOf]
   refine' L3.df_mk KX G ?a ?l ?c ?k (fun _ _ _ _ _ _=>L3.us1 fun _=>rfl)
   (case a=>k_is);(case l=>k_is);(case c=>k_is);(case k=>k_is)
  have d_law_plain:L2.Df (L2.KOf KX) mg "_law_plain" K17.s_law_plain ["thing"]:=by
   dsimp only [L2.KOf]
   refine' L3.df_mk KX G ?a ?l ?c ?k (fun _ _ _ _ _ _=>L3.us1 fun _=>rfl)
   (case a=>k_is);(case l=>k_is);(case c=>k_is);(case k=>k_is)
  have d_law_deed:L2.Df (L2.KOf KX) mg "_law_deed" K17.s_law_deed ["number","mixed","pool","fence"]:=by
   dsimp only [L2.KOf]
   refine' L3.df_mk KX G ?a ?l ?c ?k (fun _ _ _ _ _ _=>L3.us4 fun _ _ _ _=>rfl)
   (case a=>k_is);(case l=>k_is);(case c=>k_is);(case k=>k_is)
  have d_law_lent:L2.Df (L2.KOf KX) mg "_law_lent" K17.s_law_lent ["lease","asker","deed"]:=by
   dsimp only [L2.KOf]
   refine' L3.df_mk KX G ?a ?l ?c ?k (fun _ _ _ _ _ _=>L3.us3 fun _ _ _=>rfl)
   (case a=>k_is);(case l=>k_is);(case c=>k_is);(case k=>k_is)
  have d_law_rows:L2.Df (L2.KOf KX) mg "_law_rows" K17.s_law_rows ["script","pool"]:=by
   dsimp only [L2.KOf]
   refine' L3.df_mk KX G ?a ?l ?c ?k (fun _ _ _ _ _ _=>L3.us2 fun _ _=>rfl)
   (case a=>k_is);(case l=>k_is);(case c=>k_is);(case k=>k_is)
  have d_law_cells:L2.Df (L2.KOf KX) mg "_law_cells" K17.s_law_cells ["slate"]:=by
   dsimp only [L2.KOf]
   refine' L3.df_mk KX G ?a ?l ?c ?k (fun _ _ _ _ _ _=>L3.us1 fun _=>rfl)
   (case a=>k_is);(case l=>k_is);(case c=>k_is);(case k=>k_is)
  have d_law_form:L2.Df (L2.KOf KX) mg "_law_form" K17.s_law_form ["slate"]:=by
   dsimp only [L2.KOf]
   refine' L3.df_mk KX G ?a ?l ?c ?k (fun _ _ _ _ _ _=>L3.us1 fun _=>rfl)
   (case a=>k_is);(case l=>k_is);(case c=>k_is);(case k=>k_is)
  have d_law_leased:L2.Df (L2.KOf KX) mg "_law_leased" K17.s_law_leased ["ahead","slate","row","answer"]:=by
   dsimp only [L2.KOf]
   refine' L3.df_mk KX G ?a ?l ?c ?k (fun _ _ _ _ _ _=>L3.us4 fun _ _ _ _=>rfl)
   (case a=>k_is);(case l=>k_is);(case c=>k_is);(case k=>k_is)
  have d_law_written:L2.Df (L2.KOf KX) mg "_law_written" K17.s_law_written ["ahead","slate","row","answer"]:=by
   dsimp only [L2.KOf]
   refine' L3.df_mk KX G ?a ?l ?c ?k (fun _ _ _ _ _ _=>L3.us4 fun _ _ _ _=>rfl)
   (case a=>k_is);(case l=>k_is);(case c=>k_is);(case k=>k_is)
  have d_law_step:L2.Df (L2.KOf KX) mg "_law_step" K17.s_law_step ["ahead","slate","row"]:=by
   dsimp only [L2.KOf]
   refine' L3.df_mk KX G ?a ?l ?c ?k (fun _ _ _ _ _ _=>L3.us3 fun _ _ _=>rfl)
   (case a=>k_is);(case l=>k_is);(case c=>k_is);(case k=>k_is)
  have d_law_walked:L2.Df (L2.KOf KX) mg "_law_walked" K17.s_law_walked ["told","rows"]:=by
   dsimp only [L2.KOf]
   refine' L3.df_mk KX G ?a ?l ?c ?k (fun _ _ _ _ _ _=>L3.us2 fun _ _=>rfl)
   (case a=>k_is);(case l=>k_is);(case c=>k_is);(case k=>k_is)
  have d_law:L2.Df (L2.KOf KX) mg "law" K17.s_law ["script"]:=by
   dsimp only [L2.KOf]
   refine' L3.df_mk KX G ?a ?l ?c ?k (fun _ _ _ _ _ _=>L3.us1 fun _=>rfl)
   (case a=>k_is);(case l=>k_is);(case c=>k_is);(case k=>k_is)
  have t_DOERS:L3.FnTab PySem.Challenge.rw_oneslate_k17_whole_along.prog w (L2.KOf KX) mg "DOERS" K17.tab_DOERS:=by
   dsimp only [L2.KOf]
   refine' L3.fntab_mk KX G ?a ?l ?k ?f
   (case a=>k_is);(case l=>k_is)
   case k=>
    intro e he
    rcases List.mem_cons.mp he with rfl | he
    ·exact ⟨"put",rfl,rfl⟩
    rcases List.mem_cons.mp he with rfl | he
    ·exact ⟨"add",rfl,rfl⟩
    rcases List.mem_cons.mp he with rfl | he
    ·exact ⟨"swap",rfl,rfl⟩
    rcases List.mem_cons.mp he with rfl | he
    ·exact ⟨"take",rfl,rfl⟩
    rcases List.mem_cons.mp he with rfl | he
    ·exact ⟨"renew",rfl,rfl⟩
    rcases List.mem_cons.mp he with rfl | he
    ·exact ⟨"free",rfl,rfl⟩
    rcases List.mem_cons.mp he with rfl | he
    ·exact ⟨"sure",rfl,rfl⟩
    rcases List.mem_cons.mp he with rfl | he
    ·exact ⟨"move",rfl,rfl⟩
    rcases List.mem_cons.mp he with rfl | he
    ·exact ⟨"end",rfl,rfl⟩
    cases he
   case f=>
    simp only [List.forall_mem_cons]
    refine ⟨⟨_,by k_is,by k_is⟩,⟨_,by k_is,by k_is⟩,⟨_,by k_is,by k_is⟩,⟨_,by k_is,by k_is⟩,⟨_,by k_is,by k_is⟩,⟨_,by k_is,by k_is⟩,⟨_,by k_is,by k_is⟩,⟨_,by k_is,by k_is⟩,⟨_,by k_is,by k_is⟩,fun _ h=>nomatch h⟩
  have l_with_cell:=by
   refine' L3.lm_mk (x:="with_cell") (st:=K17.s_with_cell) (ln:=["with_cell","with_doing"]) KX G ?mm ?aa ?ll ?hh ?dd ?oo ?e1 ?e2 ?e3 ?e4 ?e5 ?e6 ?nn ?ii
   (case mm=>decide);(case aa=>k_is);(case ll=>k_is);(case hh=>exact rfl);(case dd=>k_is);(case oo=>exact rfl);(case e1=>exact rfl);(case e2=>exact rfl);(case e3=>exact rfl);(case e4=>exact rfl);(case e5=>exact rfl);(case e6=>exact rfl);(case nn=>decide)
   case ii=>
    intro y hy ht
    rcases List.mem_cons.mp hy with rfl | hy
    ·rfl
    rcases List.mem_cons.mp hy with rfl | hy
    ·refine' L3.not_tab ?q1 ?q2 ht
     case q1=>
      refine' L3.tab_mk ?a1 ?a2 ?a3 ?a4 ?a5
      (case a1=>k_is);(case a2=>k_is);(case a3=>exact rfl);(case a4=>k_is);(case a5=>exact rfl)
     case q2=>decide
    cases hy
  have l_with_doing:=by
   refine' L3.lm_mk (x:="with_doing") (st:=K17.s_with_doing) (ln:=["with_cell","with_doing"]) KX G ?mm ?aa ?ll ?hh ?dd ?oo ?e1 ?e2 ?e3 ?e4 ?e5 ?e6 ?nn ?ii
   (case mm=>decide);(case aa=>k_is);(case ll=>k_is);(case hh=>exact rfl);(case dd=>k_is);(case oo=>exact rfl);(case e1=>exact rfl);(case e2=>exact rfl);(case e3=>exact rfl);(case e4=>exact rfl);(case e5=>exact rfl);(case e6=>exact rfl);(case nn=>decide)
   case ii=>
    intro y hy ht
    rcases List.mem_cons.mp hy with rfl | hy
    ·refine' L3.not_tab ?q1 ?q2 ht
     case q1=>
      refine' L3.tab_mk ?a1 ?a2 ?a3 ?a4 ?a5
      (case a1=>k_is);(case a2=>k_is);(case a3=>exact rfl);(case a4=>k_is);(case a5=>exact rfl)
     case q2=>decide
    rcases List.mem_cons.mp hy with rfl | hy
    ·rfl
    cases hy
  have kt:L2.Kit (L2.KOf KX):=L2.kit_all _
  have Bx:L3.Bl3 mg:=by
   refine' ⟨PySem.W.mg_none_of KX G ?z0,PySem.W.mg_none_of KX G ?z1,PySem.W.mg_none_of KX G ?z2,PySem.W.mg_none_of KX G ?z3,PySem.W.mg_none_of KX G ?z4,PySem.W.mg_none_of KX G ?z5,PySem.W.mg_none_of KX G ?z6,PySem.W.mg_none_of KX G ?z7,PySem.W.mg_none_of KX G ?z8,PySem.W.mg_none_of KX G ?z9,PySem.W.mg_none_of KX G ?z10,PySem.W.mg_none_of KX G ?z11,PySem.W.mg_none_of KX G ?z12,PySem.W.mg_none_of KX G ?z13,PySem.W.mg_none_of KX G ?z14,PySem.W.mg_none_of KX G ?z15,PySem.W.mg_none_of KX G ?z16,PySem.W.mg_none_of KX G ?z17,PySem.W.mg_none_of KX G ?z18⟩
   (case z0=>k_is);(case z1=>k_is);(case z2=>k_is);(case z3=>k_is);(case z4=>k_is);(case z5=>k_is);(case z6=>k_is);(case z7=>k_is);(case z8=>k_is);(case z9=>k_is);(case z10=>k_is);(case z11=>k_is);(case z12=>k_is);(case z13=>k_is);(case z14=>k_is);(case z15=>k_is);(case z16=>k_is);(case z17=>k_is);(case z18=>k_is)
  letI:L2.TabP:=L3.tabP (L2.KOf KX) ["with_cell","with_doing"]
  exact L3.all_mkT hmg d_law (fun _ _ _ _ _ _ _=>rfl) K17.law_true (fun base bmx f fd F=>K17.ok_law ⟨d_lease_of,d_shut_of,d_is_shut,d_cell_of,d_with_cell,d_doing_of,d_with_doing,d_with_lease,d_with_shut,d_do_put,d_do_add,d_do_swap,d_lent,d_not_lent,d_do_take,d_do_renew,d_do_free,d_do_sure,d_do_move,d_do_end,d_outcome_of,d_done_on,d_along,d_law_cell_at,d_law_whole,d_law_word,d_law_near,d_law_pool,d_law_number,d_law_plain,d_law_deed,d_law_lent,d_law_rows,d_law_cells,d_law_form,d_law_leased,d_law_written,d_law_step,d_law_walked,d_law,t_DOERS,l_with_cell,l_with_doing,bmx,Bx,kt⟩ F)
