import PyProof.Rows.All
import Wide.All
import OpenK.AllK
import Wide.FinOn
import Lean
import PyProof.EqAt
import PyProof.EqKinds
import PyProof.TupleCall
import KE.KSortTup
import PyProof.ZipIter
import KE.KMinKey
import KE.KRevSl
import KE.KSortedM
import PyProof.Rows.EnumRows
import PyProof.EnumStmt
import PyProof.StationsW
import PyProof.ExcClass3
import PyProof.RulesTry
import OpenK.KOwn
import KE.KIntText
import KE.KTryMore
import PyProof.ExcAttrAll.ValueError
import PyProof.RulesDel
import PyProof.Rows.StrNews
import PyProof.CallStr
import PyProof.Rows.StrNews2
import PySem.Challenge.RW_oneslate_k32_an_asker_asks
set_option Elab.async false
set_option linter.all false
set_option maxRecDepth 100000
set_option bootstrap.genMatcherCode false
namespace M5
end M5
abbrev FrgT:=PySem.W.Frag
abbrev BinT:=PySem.Str→Option PySem.Value
abbrev ExcT:=PySem.Value→PySem.Shared→Prop
abbrev PinT:=List (PySem.Addr×PySem.Obj)
namespace L2
open PySem PySem.Spec PyProof.Rows
noncomputable abbrev Key:=Sum Int Str
noncomputable def keyIs:Key→Value→Bool
 |.inl k,v=>Value.isInt k v
 |.inr x,v=>Value.isStrOf x v
noncomputable def keyH(w:World):Key→Int
 |.inl k=>hashInt k
 |.inr x=>hashStr w x
theorem keyIs_shape:∀{k:Key}{v:Value},keyIs k v=true→(∃i t,k=Sum.inl i∧v=Value.int i t)∨(∃x t,k=Sum.inr x∧v=Value.str x t)
 |.inl i,v,h=>by
  obtain⟨t,e⟩:=Value.isInt_shape (k:=i) (v:=v) h
  exact .inl ⟨i,t,rfl,e⟩
 |.inr x,v,h=>by
  obtain⟨t,e⟩:=Value.isStrOf_shape (x:=x) (v:=v) h
  exact .inr ⟨x,t,rfl,e⟩
theorem key_ll(a b:Int):decide ((Sum.inl a:Key)=Sum.inl b)=(a==b):=by
 by_cases e:a=b
 ·subst e;simp
 ·have h:¬(Sum.inl a:Key)=Sum.inl b:=fun q=>e (Sum.inl.inj q)
  rw[decide_eq_false h]
  exact(beq_eq_false_iff_ne.mpr e).symm
theorem key_rr(a b:Str):decide ((Sum.inr a:Key)=Sum.inr b)=decide (a=b):=by
 by_cases e:a=b
 ·subst e;simp
 ·have h:¬(Sum.inr a:Key)=Sum.inr b:=fun q=>e (Sum.inr.inj q)
  rw[decide_eq_false h,decide_eq_false e]
theorem key_lr(a:Int)(b:Str):decide ((Sum.inl a:Key)=Sum.inr b)=false:=decide_eq_false (fun q=>nomatch q)
theorem key_rl(a:Str)(b:Int):decide ((Sum.inr a:Key)=Sum.inl b)=false:=decide_eq_false (fun q=>nomatch q)
noncomputable def mixKind(prog:Program)(w:World):KeyKind prog w Key where
 is:=keyIs
 hash:=keyH w
 inj:=fun v a b ha hb=>by
  rcases keyIs_shape ha with⟨i,t,rfl,rfl⟩ | ⟨x,t,rfl,rfl⟩
  ·rcases keyIs_shape hb with⟨j,u,rfl,e⟩ | ⟨y,u,rfl,e⟩
   ·injection e with e1 _;rw[e1]
   ·exact nomatch e
  ·rcases keyIs_shape hb with⟨j,u,rfl,e⟩ | ⟨y,u,rfl,e⟩
   ·exact nomatch e
   ·injection e with e1 _;rw[e1]
 byValue:=fun k v h=>by
  rcases keyIs_shape h with⟨i,t,rfl,rfl⟩ | ⟨x,t,rfl,rfl⟩<;>rfl
 pyHash:=fun hv h=>by
  rcases keyIs_shape hv with⟨i,t,rfl,rfl⟩ | ⟨x,t,rfl,rfl⟩
  ·exact wpAny_pyHash_int h
  ·exact wpAny_pyHash_str h
 eqBool:=fun hu hv h=>by
  rcases keyIs_shape hu with⟨i,t,rfl,rfl⟩ | ⟨x,t,rfl,rfl⟩
  ·rcases keyIs_shape hv with⟨j,u,rfl,rfl⟩ | ⟨y,u,rfl,rfl⟩
   ·rw[key_ll]at h;exact wpAny_eqBool_int h
   ·rw[key_lr]at h;exact SeqAt.EqAt.int_str i t y u _ _ _ _ h
  ·rcases keyIs_shape hv with⟨j,u,rfl,rfl⟩ | ⟨y,u,rfl,rfl⟩
   ·rw[key_rl]at h;exact SeqAt.EqAt.str_int x t j u _ _ _ _ h
   ·rw[key_rr]at h;exact wpAny_eqBool_str h
 «strs»:=fun k x t v h=>by
  rcases keyIs_shape h with⟨i,u,rfl,e⟩ | ⟨y,u,rfl,e⟩
  ·exact nomatch e
  ·injection e with e1 _
   subst e1
   cases v<;>rfl
inductive V where
 |non | bl (b:Bool) | int (i:Int) | str (x:Str) | byt (b:Array UInt8) | flt (b:UInt64) | ref (a:Addr) | ty (n:String)
 deriving DecidableEq
noncomputable def RelV:V→Value→Prop
 |.non,u=>u=Value.none
 |.bl b,u=>u=Value.bool b
 |.int i,u=>∃t,u=Value.int i t
 |.str x,u=>∃t,u=Value.str x t
 |.byt b,u=>∃t,u=Value.bytes b t
 |.flt b,u=>∃t,u=Value.float b t
 |.ref a,u=>u=Value.ref a
 |.ty n,u=>u=Value.type n
noncomputable abbrev Vals:List V→List Value→Prop:=Paired RelV
theorem Vals.length{xs:List V}{us:List Value}(r:Vals xs us):xs.length=us.length:=Paired.length r
theorem Vals.get:∀{xs:List V}{us:List Value}{i:Nat}{x:V},Vals xs us→xs[i]? = some x→∃u,us[i]? = some u∧RelV x u
 | _,_,_,_,.nil,e=>by simp at e
 | _,_,0,_,.cons r _,e=>by simp at e;subst e;exact⟨_,rfl,r⟩
 |_,_,i+1,x,.cons _ t,e=>by
  obtain⟨u,h1,h2⟩:=Vals.get (i:=i) (x:=x) t (by simpa using e)
  exact⟨u,by simpa using h1,h2⟩
theorem Vals.append:∀{xs ys:List V}{us ws:List Value},Vals xs us→Vals ys ws→Vals (xs++ys) (us++ws)
 |_,_,_,_,.nil,s=>s
 |_,_,_,_,.cons r t,s=>.cons r (Vals.append t s)
theorem Vals.take:∀{xs:List V}{us:List Value}(n:Nat),Vals xs us→Vals (xs.take n) (us.take n)
 |_,_,0,_=>.nil
 |_,_,_+1,.nil=>.nil
 |_,_,n+1,.cons r t=>.cons r (Vals.take n t)
theorem Vals.drop:∀{xs:List V}{us:List Value}(n:Nat),Vals xs us→Vals (xs.drop n) (us.drop n)
 |_,_,0,r=>r
 |_,_,_+1,.nil=>.nil
 |_,_,n+1,.cons _ t=>Vals.drop n t
noncomputable def RelO:Option V→Option Value→Prop
 |some v,some u=>RelV v u
 |none,none=>True
 |_,_=>False
noncomputable def KV{κ:Type}:List (κ×V)→List (κ×Value)→Prop:=Paired fun(p:κ×V) (q:κ×Value)=>p.1=q.1∧RelV p.2 q.2
noncomputable def kV:Key→V
 |.inl i=>.int i
 |.inr x=>.str x
inductive HO where
 |lst (xs:List V)
 |tup (xs:List V)
 |dK (kvs:List (Key×V)) | dT (kvs:List (List Key×V))
 |set (S:Int→Bool) (n:Nat)
 |ins (C dx:Addr) (fs:List (Str×V))
 |own (x:Addr)
 |xd (fs:List (Str×V))
 |met (f x:Addr)
 |rng (lo hi:Int)
 |frz (o:Obj) (u:HO)
 |tbl (ps:Array Value)
 |ext (φ:Heap→Prop)
noncomputable abbrev Hp:=Addr→Option HO
noncomputable def upd(H:Hp)(a:Addr)(o:HO):Hp:=fun b=>if b=a then some o else H b
theorem upd_same{H:Hp}{a:Addr}{o:HO}:upd H a o a=some o:=by unfold upd;rw[if_pos rfl]
theorem upd_ne{H:Hp}{a b:Addr}{o:HO}(h:b≠a):upd H a o b=H b:=by unfold upd;rw[if_neg h]
theorem ne_of{H:Hp}{a b:Addr}{o u:HO}(h:H a=some o)(h':H b=some u)(d:o≠u):a≠b:=by
 intro e;subst e;rw[h]at h';exact d (Option.some.inj h')
theorem ne_of_none{H:Hp}{a b:Addr}{o:HO}(h:H a=some o)(h':H b=none):a≠b:=by
 intro e;subst e;rw[h]at h';cases h'
section
variable(P:Program)(w:World)
noncomputable def ObjOk(H:Hp)(h:Heap)(a:Addr):HO→Prop
 |.lst xs=>xs.length≤sizeLine∧∃(its:List Value)(n:Nat),Vals xs its∧h.get? a=some { cls:=.type "list",data:=.seq its.toArray n }
 |.tup xs=>xs.length≤sizeLine∧∃its:List Value,Vals xs its∧IsTup h a its.toArray
 |.dK kvs=>kvs.length≤sizeLine∧(a==sysModules)=false∧∃vs,KV kvs vs∧h.DictOf (mixKind P w) a vs
 |.dT kvs=>kvs.length≤sizeLine∧(a==sysModules)=false∧∃xs:List (List Key×Addr×Value),
   Paired (fun(p:List Key×V) (q:List Key×Addr×Value)=>p.1=q.1∧H q.2.1=some (.tup (p.1.map kV))∧RelV p.2 q.2.2) kvs xs∧
   ∃o es ep,h.get? a=some o∧o.ExactDict∧o.data=.dict es ep∧es.toList=xs.map (entryOfKey (tupleKind (mixKind P w)))∧(xs.map (·.1)).Nodup
 |.set S n=>h.SetOf (intKind P w) a S n
 |.ins C dx fs=>H dx=some (.own a)∧fs.length≤1000∧dx≠a∧h.get? a=some (W.instObj C dx)∧
   ∃mA,h.Ns1 dx mA∧(∀f,RelO (fs.lookup f) (mA f))∧Within mA (fs.map (·.1))
 |.own _=>∃o,h.get? a=some o
 |.xd fs=>∃mA,h.Ns1 a mA∧∀f,RelO (fs.lookup f) (mA f)
 |.rng lo hi=>∃t u v,h.get? a=some { cls:=.type "range",data:=.fields #[.int lo t,.int hi u,.int 1 v] }
 |.frz o u=>h.get? a=some o∧ObjOk H h a u
 |.tbl ps=>h.get? a=some { cls:=.none,data:=.fields ps }
 |.met f x=>h.get? a=some (W.methodObj (.ref f) (.ref x))
 |.ext φ=>φ h∧(∃o,h.get? a=some o)∧∀h1 h2:Heap,φ h1→(∀o,h1.get? a=some o→h2.get? a=some o)→φ h2
def HOk(H:Hp)(h:Heap):Prop:=∀a o,H a=some o→ObjOk P w H h a o
end
section
variable{P:Program}{w:World}{H H':Hp}{h h':Heap}{a:Addr}{o:HO}
theorem ObjOk.lt(x:ObjOk P w H h a o):a<h.objs.size:=by
 cases o with
 |lst xs=>obtain⟨_,_,_,_,e⟩:=x;exact Heap.lt_size e
 |tup xs=>obtain⟨_,_,_,p⟩:=x;exact p.lt
 |dK kvs=>obtain⟨_,_,_,_,o,_,_,e,_⟩:=x;exact Heap.lt_size e
 |dT kvs=>obtain⟨_,_,_,_,o,_,_,e,_⟩:=x;exact Heap.lt_size e
 |set S n=>obtain⟨o,_,_,_,e,_⟩:=x;exact Heap.lt_size e
 |ins C dx fs=>obtain⟨_,_,_,e,_⟩:=x;exact Heap.lt_size e
 |own y=>obtain⟨_,e⟩:=x;exact Heap.lt_size e
 |xd fs=>obtain⟨_,⟨_,_,_,e,_⟩,_⟩:=x;exact Heap.lt_size e
 |rng lo hi=>obtain⟨_,_,_,e⟩:=x;exact Heap.lt_size e
 |frz ob u=>obtain⟨e,_⟩:=x;exact Heap.lt_size e
 |tbl ps=>exact Heap.lt_size (show h.get? a=some _ from x)
 |met f y=>exact Heap.lt_size (show h.get? a=some _ from x)
 |ext φ=>obtain⟨_,⟨_,e⟩,_⟩:=x;exact Heap.lt_size e
theorem Paired.mapP{α β:Type}{F G:α→β→Prop}:∀{l₁:List α}{l₂:List β},Paired F l₁ l₂→(∀a b,F a b→G a b)→Paired G l₁ l₂
 |_,_,.nil,_=>.nil
 |_,_,.cons r t,f=>.cons (f _ _ r) (Paired.mapP t f)
theorem ObjOk.stay(x:ObjOk P w H h a o)(k:∀b u,(b=a∨H b=some (.own a))→h.get? b=some u→h'.get? b=some u)
  (ho:∀b,H b=some (.own a)→H' b=some (.own a)) (ht:∀b xs,H b=some (.tup xs)→H' b=some (.tup xs)):ObjOk P w H' h' a o:=by
 induction o with
 |lst xs=>obtain⟨z,its,n,r,e⟩:=x;exact⟨z,its,n,r,k _ _ (.inl rfl) e⟩
 |tup xs=>obtain⟨z,its,r,ob,e,c⟩:=x;exact⟨z,its,r,ob,k _ _ (.inl rfl) e,c⟩
 |dK kvs=>obtain⟨z,y,vs,r,ob,es,ep,e,c⟩:=x;exact⟨z,y,vs,r,ob,es,ep,k _ _ (.inl rfl) e,c⟩
 |dT kvs=>
  obtain⟨z,y,xs,r,ob,es,ep,e,c⟩:=x
  exact⟨z,y,xs,Paired.mapP r fun p q z=>⟨z.1,ht _ _ z.2.1,z.2.2⟩,ob,es,ep,k _ _ (.inl rfl) e,c⟩
 |set S n=>obtain⟨ob,es,ep,t,e,c⟩:=x;exact⟨ob,es,ep,t,k _ _ (.inl rfl) e,c⟩
 |ins C dx fs=>
  obtain⟨d,z,ne,e,mA,⟨od,es,ep,e2,c⟩,r⟩:=x
  exact⟨ho _ d,z,ne,k _ _ (.inl rfl) e,mA,⟨od,es,ep,k _ _ (.inr d) e2,c⟩,r⟩
 |own y=>obtain⟨ob,e⟩:=x;exact⟨ob,k _ _ (.inl rfl) e⟩
 |xd fs=>obtain⟨mA,⟨od,es,ep,e,c⟩,r⟩:=x;exact⟨mA,⟨od,es,ep,k _ _ (.inl rfl) e,c⟩,r⟩
 |rng lo hi=>obtain⟨t,u,v,e⟩:=x;exact⟨t,u,v,k _ _ (.inl rfl) e⟩
 |frz ob u ih=>obtain⟨e,q⟩:=x;exact⟨k _ _ (.inl rfl) e,ih q⟩
 |tbl ps=>
  have e:h.get? a=some { cls:=.none,data:=.fields ps }:=x
  show h'.get? a=some { cls:=.none,data:=.fields ps }
  exact k a _ (.inl rfl) e
 |met f y=>
  have e:h.get? a=some (W.methodObj (.ref f) (.ref y)):=x
  show h'.get? a=some (W.methodObj (.ref f) (.ref y))
  exact k a _ (.inl rfl) e
 |ext φ=>obtain⟨p,⟨o,e⟩,st⟩:=x;exact⟨st _ _ p fun o q=>k _ _ (.inl rfl) q,⟨o,k _ _ (.inl rfl) e⟩,st⟩
theorem HOk.lt(x:HOk P w H h)(e:H a=some o):a<h.objs.size:=(x a o e).lt
theorem HOk.fresh(x:HOk P w H h)(e:h.objs.size≤a):H a=none:=by
 cases q:H a with
 |none=>rfl
 |some u=>exact absurd (Nat.lt_of_lt_of_le (x.lt q) e) (Nat.lt_irrefl _)
theorem HOk.kept(x:HOk P w H h)(k:∀b u,h.get? b=some u→h'.get? b=some u):HOk P w H h':=fun a o e=>
 (x a o e).stay (fun b u _ q=>k b u q) (fun _ q=>q) fun _ _ q=>q
theorem HOk.laid(x:HOk P w H h)(k:∀b u,h.get? b=some u→h'.get? b=some u)(hp:h.objs.size≤a)(new:ObjOk P w (upd H a o) h' a o):HOk P w (upd H a o) h':=fun b u e=>by
 have hn:=x.fresh hp
 by_cases hb:b=a
 ·subst hb;rw[upd_same]at e;cases e;exact new
 ·rw[upd_ne hb]at e
  exact(x b u e).stay (fun c v _ q=>k c v q) (fun c q=>by rw[upd_ne (ne_of_none q hn)];exact q) fun c xs q=>by rw[upd_ne (ne_of_none q hn)];exact q
end
def Rd(H:Hp)(a:Addr)(u:HO):Prop:=H a=some u∨∃o,H a=some (.frz o u)
theorem Rd.ok{P:Program}{w:World}{H:Hp}{h:Heap}{a:Addr}{u:HO}(r:Rd H a u)(x:HOk P w H h):ObjOk P w H h a u:=by
 rcases r with r | ⟨o,r⟩
 ·exact x a u r
 ·obtain⟨_,q⟩:=x a _ r
  exact q
noncomputable def Mut:Option HO→Prop
 |some (.lst _)=>True
 |some (.dK _)=>True
 |some (.dT _)=>True
 |some (.set _ _)=>True
 |some (.ins _ _ _)=>True
 |some (.ext _)=>True
 |_=>False
section
variable{P:Program}{w:World}{H:Hp}{h h':Heap}{x e:Addr}{o':HO}
theorem HOk.write(ok:HOk P w H h)(mu:Mut (H x))(he:e=x∨H e=some (.own x))(k:∀b u,b≠e→h.get? b=some u→h'.get? b=some u)(heo:∃u,h'.get? e=some u)
  (new:ObjOk P w (upd H x o') h' x o'):HOk P w (upd H x o') h':=fun b u q=>by
 have nown:∀c y,H c=some (.own y)→c≠x:=fun c y r z=>by subst z;rw[r]at mu;exact mu
 have ntup:∀c xs,H c=some (.tup xs)→c≠x:=fun c xs r z=>by subst z;rw[r]at mu;exact mu
 by_cases hb:b=x
 ·subst hb;rw[upd_same]at q;cases q;exact new
 ·rw[upd_ne hb]at q
  by_cases hbe:b=e
  ·have q':H b=some (.own x):=by
    rcases he with z | z
    ·exact absurd (hbe.trans z) hb
    ·rw[hbe];exact z
   rw[q]at q';cases q'
   obtain⟨v,hv⟩:=heo
   exact⟨v,by rw[hbe];exact hv⟩
  ·refine(ok b u q).stay (fun c v hc r=>k c v ?_ r) (fun c r=>by rw[upd_ne (nown c b r)];exact r) fun c xs r=>by rw[upd_ne (ntup c xs r)];exact r
   rcases hc with rfl | hc
   ·exact hbe
   ·rintro rfl
    rcases he with z | z
    ·exact nown c b hc z
    ·rw[hc]at z;cases z;exact hb rfl
end
structure Un(fs ex:List Addr)(H H':Hp)(h h':Heap):Prop where
 keep:∀b o,h.get? b=some o→H b=none→b∉fs→b∉ex→h'.get? b=some o
 slot:∀b o,h.get? b=some o→H b=none→b∈fs→b∉ex→∃sl,h'.get? b=some { o with slots:=sl }
 free:∀b o,h.get? b=some o→H b=none→b∉ex→H' b=none
 there:∀b o,h.get? b=some o→b∉ex→∃o',h'.get? b=some o'
 tups:∀b xs,H b=some (.tup xs)→H' b=some (.tup xs)
 frzs:∀b o u,H b=some (.frz o u)→H' b=some (.frz o u)
 tbls:∀b ps,H b=some (.tbl ps)→∃more,H' b=some (.tbl (ps++more))
section
variable{fs fs' ex ex':List Addr}{H H1 H2:Hp}{h h1 h2 h':Heap}{a x e:Addr}{o:HO}
theorem Un.any(u:Un fs ex H H1 h h1){b:Addr}{ob:Obj}(q:h.get? b=some ob)(n:H b=none)(hx:b∉ex):∃sl,h1.get? b=some { ob with slots:=sl }:=by
 by_cases hb:b∈fs
 ·exact u.slot b ob q n hb hx
 ·exact⟨ob.slots,u.keep b ob q n hb hx⟩
theorem Un.kept(k:∀b u,h.get? b=some u→h'.get? b=some u):Un fs ex H H h h':=
 ⟨fun b ob q _ _ _=>k b ob q,fun b ob q _ _ _=>⟨ob.slots,k b ob q⟩,fun _ _ _ n _=>n,fun b ob q _=>⟨ob,k b ob q⟩,fun _ _ q=>q,fun _ _ _ q=>q,fun _ ps q=>⟨#[],by rw[q];simp⟩⟩
theorem Un.refl:Un fs ex H H h h:=Un.kept fun _ _ q=>q
theorem Un.laid(k:∀b u,h.get? b=some u→h'.get? b=some u)(hp:h.objs.size≤a)(hn:H a=none):Un fs ex H (upd H a o) h h' where
 keep:=fun b u q _ _ _=>k b u q
 slot:=fun b u q _ _ _=>⟨u.slots,k b u q⟩
 free:=fun b u q n _=>by rw[upd_ne (Nat.ne_of_lt (Nat.lt_of_lt_of_le (Heap.lt_size q) hp))];exact n
 there:=fun b u q _=>⟨u,k b u q⟩
 tups:=fun b xs q=>by rw[upd_ne (ne_of_none q hn)];exact q
 frzs:=fun b u xs q=>by rw[upd_ne (ne_of_none q hn)];exact q
 tbls:=fun b ps q=>⟨#[],by rw[upd_ne (ne_of_none q hn),q];simp⟩
theorem Un.write(mu:Mut (H x))(he:e=x∨H e=some (.own x))(k:∀b u,b≠e→h.get? b=some u→h'.get? b=some u)(heo:∃u,h'.get? e=some u):Un fs ex H (upd H x o) h h':=by
 have hx:∀b,H b=none→b≠x:=fun b n z=>by subst z;rw[n]at mu;exact mu
 have hb:∀b,H b=none→b≠e:=fun b n z=>by
  subst z
  rcases he with r | r
  ·exact hx b n r
  ·rw[n]at r;cases r
 have hm:∀b u,H b=some u→¬Mut (some u)→b≠x:=fun b u q nm z=>by subst z;rw[q]at mu;exact nm mu
 refine⟨fun b u q n _ _=>k b u (hb b n) q,fun b u q n _ _=>⟨u.slots,k b u (hb b n) q⟩,fun b u q n _=>by rw[upd_ne (hx b n)];exact n,fun b u q _=>?_,
  fun b xs q=>by rw[upd_ne (hm b _ q fun z=>z)];exact q,fun b u xs q=>by rw[upd_ne (hm b _ q fun z=>z)];exact q,fun b ps q=>⟨#[],by rw[upd_ne (hm b _ q fun z=>z),q];simp⟩⟩
 by_cases hbe:b=e
 ·subst hbe;exact heo
 ·exact⟨u,k b u hbe q⟩
end
noncomputable def trk(h:Heap)(H:Hp):List Addr:=(List.range h.objs.size).filter fun a=>(H a).isSome
noncomputable def hidT(h:Heap)(H:Hp):Heap:=W.hideAll h (trk h H)
theorem hidT_size(h:Heap)(H:Hp):(hidT h H).objs.size=h.objs.size:=W.hideAll_size _ _
theorem hidT_get{h:Heap}{H:Hp}{b:Addr}{o:Obj}(e:h.get? b=some o)(n:H b=none):(hidT h H).get? b=some o:=
 W.hideAll_get _ e fun hm=>by
  have q:(H b).isSome=true:=(List.mem_filter.mp hm).2
  rw[n]at q;simp at q
theorem of_hidT{h:Heap}{H:Hp}{b:Addr}{o:Obj}(e:(hidT h H).get? b=some o):h.get? b=some o∧H b=none:=by
 have e':h.get? b=some o:=W.of_hideAll (trk h H) e
 refine⟨e',?_⟩
 cases q:H b with
 |none=>rfl
 |some x=>
  have hm:b∈trk h H:=List.mem_filter.mpr ⟨List.mem_range.mpr (Heap.lt_size e'),by simp[q]⟩
  have z:(hidT h H).get? b=none:=W.hideAll_none (trk h H) hm
  rw[z]at e;cases e
noncomputable def allNews(g h:Heap)(L:Addr):List (Addr×Obj):=(List.range h.objs.size).filterMap fun a=>if a=L∨(g.get? a).isSome=true then none else(h.get? a).map fun o=>(a,o)
noncomputable def rest(g h:Heap)(L d:Addr):List (Addr×Obj):=(allNews g h L).filter fun p=>decide (p.1≠d)
structure Mod(K:FrgT)(mg:BinT)(base:Heap):Prop where
 kin:K.In base
 glob:base.Ns mainGlobals mg
 blt:∃mb,base.Ns builtinsNs mb∧∀x:Str,x≠"__name__"→mb x=bootBuiltins x
 nolimit:base.NoLimit
structure Cx where
 prog:Program
 w:World
 K:FrgT
 mg:Str→Option Value
 base:Heap
 A:Around
 N:List Str
 s₀:Shared
 H₀:Hp
 env:Env
 outer:List Env
 stack:List Env
 ex:List Addr
 fn:Str→Bool
 calm:Bool
 pn:List (Addr×Obj)
 xe:Value→Shared→Prop
noncomputable def frs(l:List Env):List Addr:=l.filterMap (·.frame)
noncomputable abbrev Cx.fs(X:Cx):List Addr:=frs X.outer
def Vis(sc:Scope)(x:Str):Prop:=sc.names.lookup x=some .local∨sc.names.lookup x=some .cell∨sc.names.lookup x=some .free
def Loc(sc:Scope)(x:Str):Prop:=sc.names.lookup x=some .local∨sc.names.lookup x=some .cell
def Look(env:Env)(h:Heap)(m:BinT)(x:Str)(u:Value):Prop:=
 (env.kindOf x=some .local∧m x=some u)∨((env.kindOf x=some .cell∨env.kindOf x=some .free)∧∃c,env.cells.lookup x=some c∧h.IsCell c (some u))
structure Cx.Ok(X:Cx):Prop where
 mod:Mod X.K X.mg X.base
 kind:X.env.scope.kind=.function
 glob:X.env.globals=mainGlobals
 blt:X.env.builtins=builtinsNs
 above:X.s₀.heap.objs.size≤X.env.locals
 inj:∀x y c,X.env.cells.lookup x=some c→X.env.cells.lookup y=some c→x=y
 has:∀x,(X.env.kindOf x=some .cell∨X.env.kindOf x=some .free)→∃c,X.env.cells.lookup x=some c
 cab:∀x c,X.fn x=true→X.env.cells.lookup x=some c→X.s₀.heap.objs.size≤c
 hd:X.calm=true→X.A.handled=none
 frames:X.A.frames=some X.stack
 stk:X.stack=X.outer∨(X.stack=X.env::X.outer∧X.env.frame=some X.env.locals)
 exf:∀b∈X.ex,b≠X.env.locals∧∀x c,X.env.cells.lookup x=some c→c≠b
 bs:∀b o,X.base.get? b=some o→X.s₀.heap.get? b=some o∧X.H₀ b=none
 bsz:X.base.objs.size≤X.s₀.heap.objs.size
 noex:∀b o,X.base.get? b=some o→b∉X.ex
 exfs:∀b∈X.ex,b∉X.fs
 funs:X.s₀.heap.FunFrames X.base X.outer
 frf:∀b∈X.fs,X.H₀ b=none
structure Inv(X:Cx)(pins:PinT)(σ:List (Option V))(H:Hp)(s:Shared):Prop where
 ok:X.Ok
 os:s.os=X.s₀.os
 bare:AllBare s.gens
 base:Un X.fs X.ex X.H₀ H X.s₀.heap s.heap
 loc:∃m,s.heap.Ns X.env.locals m∧∀(i:Nat)(x:Str)(v:V),X.N[i]? = some x→σ[i]? = some (some v)→Vis X.env.scope x→∃u,RelV v u∧Look X.env s.heap m x u
 cell:∀x c,X.env.cells.lookup x=some c→∃v,s.heap.IsCell c v
 free:H X.env.locals=none
 freeC:∀x c,X.env.cells.lookup x=some c→H c=none
 pin:∀p∈X.pn++pins,s.heap.get? p.1=some p.2∧H p.1=none∧p.1≠X.env.locals∧p.1∉X.fs∧∀v,p.2.data≠.cell v
 hok:HOk X.prog X.w H s.heap
 len:σ.length=X.N.length
section
variable{X:Cx}{pins:PinT}{σ:List (Option V)}{H H':Hp}{s:Shared}{h':Heap}
theorem Cx.Ok.nofr(ok:X.Ok){b:Addr}{o:Obj}(e:X.base.get? b=some o):b∉X.fs:=fun hb=>by
 have:=(ok.funs.mem hb).1
 rw[e]at this;cases this
theorem Inv.bs(I:Inv X pins σ H s):∀b o,X.base.get? b=some o→s.heap.get? b=some o∧H b=none:=fun b o e=>
 ⟨I.base.keep b o (I.ok.bs b o e).1 (I.ok.bs b o e).2 (I.ok.nofr e) (I.ok.noex b o e),I.base.free b o (I.ok.bs b o e).1 (I.ok.bs b o e).2 (I.ok.noex b o e)⟩
theorem Inv.bk(I:Inv X pins σ H s):∀b o,X.base.get? b=some o→s.heap.get? b=some o:=fun b o e=>(I.bs b o e).1
theorem Inv.mod(I:Inv X pins σ H s):Mod X.K X.mg X.base:=I.ok.mod
theorem Inv.kIn(I:Inv X pins σ H s):X.K.In s.heap:=I.ok.mod.kin.keeps I.bk
theorem Inv.fr(I:Inv X pins σ H s):∃m,Fr X.base X.env.locals s.heap m:=
 let⟨m,hn,_⟩:=I.loc
 ⟨m,hn,I.bk,Nat.le_trans I.ok.bsz I.ok.above⟩
theorem Inv.lt(I:Inv X pins σ H s):X.env.locals<s.heap.objs.size:=let⟨_,hn,_⟩:=I.loc;hn.lt
theorem Inv.sz(I:Inv X pins σ H s):X.s₀.heap.objs.size≤s.heap.objs.size:=Nat.le_trans I.ok.above (Nat.le_of_lt I.lt)
theorem Inv.nofs(I:Inv X pins σ H s){a:Addr}(h:s.heap.objs.size≤a):a∉X.fs:=fun hb=>by
 obtain⟨_,o,ho,_⟩:=I.ok.funs.mem hb
 exact absurd (Nat.lt_of_lt_of_le (Heap.lt_size ho) (Nat.le_trans I.sz h)) (Nat.lt_irrefl _)
theorem Inv.cne(I:Inv X pins σ H s):∀x c,X.env.cells.lookup x=some c→c≠X.env.locals:=fun x c e z=>by
 obtain⟨v,o,ho,hd⟩:=I.cell x c e
 obtain⟨m,⟨o',es,ep,ho',hd',_⟩,_⟩:=I.loc
 rw[z,ho']at ho;cases ho;rw[hd']at hd;cases hd
theorem Inv.funs(I:Inv X pins σ H s):s.heap.FunFrames X.base X.outer:=by
 have all:∀(l:List Env),(∀b∈frs l,b∈X.fs)→X.s₀.heap.FunFrames X.base l→s.heap.FunFrames X.base l:=by
  intro l
  induction l with
  |nil=>intro _ _;trivial
  |cons env r ih=>
   intro hs hl
   obtain⟨hk,⟨L,o,hf,hn,ho,hd⟩,hr⟩:=hl
   have hL:L∈X.fs:=hs L (by unfold frs;rw[List.filterMap_cons,hf];exact List.mem_cons_self)
   obtain⟨sl,e⟩:=I.base.slot L o ho (I.ok.frf L hL) hL fun z=>I.ok.exfs L z hL
   exact⟨hk,⟨L,_,hf,hn,e,hd⟩,ih (fun b hb=>hs b (by unfold frs;rw[List.filterMap_cons,hf];exact List.mem_cons_of_mem _ hb)) hr⟩
 exact all X.outer (fun _ hb=>hb) I.ok.funs
theorem Inv.stack(I:Inv X pins σ H s):s.heap.FunFrames X.base X.stack:=by
 rcases I.ok.stk with e | ⟨e,hf⟩
 ·rw[e];exact I.funs
 ·rw[e]
  obtain⟨m,hn,_⟩:=I.loc
  refine .cons (by rw[I.ok.kind];decide) hf hn ?_ I.funs
  exact Heap.get?_none_of_le (Nat.le_trans I.ok.bsz I.ok.above)
theorem Inv.stkSub(I:Inv X pins σ H s):∀b∈frs X.stack,b∈X.env.locals::X.fs:=fun b hb=>by
 rcases I.ok.stk with e | ⟨e,hf⟩
 ·rw[e]at hb;exact List.mem_cons_of_mem _ hb
 ·rw[e]at hb
  unfold frs at hb
  rw[List.filterMap_cons,hf]at hb
  exact hb
theorem Inv.stkFree(I:Inv X pins σ H s):∀b∈frs X.stack,H b=none:=fun b hb=>by
 rcases List.mem_cons.mp (I.stkSub b hb)with e | hb
 ·rw[e];exact I.free
 ·obtain⟨_,o,ho,_⟩:=I.ok.funs.mem hb
  exact I.base.free b o ho (I.ok.frf b hb) fun z=>I.ok.exfs b z hb
theorem Inv.step{g':Array GenState}{t':Nat}{d':Drawn}{ch:List Addr}(I:Inv X pins σ H s)
  (hch:∀b∈ch,(b∈X.ex∨X.s₀.heap.objs.size≤b)∧b≠X.env.locals∧(∀x c,X.env.cells.lookup x=some c→c≠b)∧∀p∈X.pn++pins,p.1≠b)
  (keep:∀b o,b≠X.env.locals→b∉X.fs→b∉ch→s.heap.get? b=some o→H b=none→h'.get? b=some o)
  (slot:∀b o,b≠X.env.locals→b∈X.fs→b∉ch→s.heap.get? b=some o→H b=none→∃sl,h'.get? b=some { o with slots:=sl }) (free:∀b o,b∉ch→s.heap.get? b=some o→H b=none→H' b=none)
  (there:∀b o,b∉ch→s.heap.get? b=some o→∃o',h'.get? b=some o')
  (tups:∀b xs,H b=some (.tup xs)→H' b=some (.tup xs)) (frzs:∀b o u,H b=some (.frz o u)→H' b=some (.frz o u)) (tbls:∀b ps,H b=some (.tbl ps)→∃more,H' b=some (.tbl (ps++more)))
  (ns:∀m,s.heap.Ns X.env.locals m→h'.Ns X.env.locals m) (hok:HOk X.prog X.w H' h') (hg:AllBare g') :
  Inv X pins σ H' { s with heap:=h',gens:=g',drawn:=d',toks:=t' }:=by
 have neL:∀b o,X.s₀.heap.get? b=some o→b≠X.env.locals:=fun b o e=>Nat.ne_of_lt (Nat.lt_of_lt_of_le (Heap.lt_size e) I.ok.above)
 have neC:∀b o,X.s₀.heap.get? b=some o→b∉X.ex→b∉ch:=fun b o e hx hb=>by
  rcases(hch b hb).1 with z | z
  ·exact hx z
  ·exact absurd (Nat.lt_of_lt_of_le (Heap.lt_size e) z) (Nat.lt_irrefl _)
 have cellK:∀x c,X.env.cells.lookup x=some c→∀v,s.heap.IsCell c v→h'.IsCell c v:=fun x c e v ⟨o,ho,hd⟩=>by
  have nch:c∉ch:=fun z=>(hch c z).2.2.1 x c e rfl
  by_cases hc:c∈X.fs
  ·obtain⟨sl,q⟩:=slot c o (I.cne x c e) hc nch ho (I.freeC x c e)
   exact⟨_,q,hd⟩
  ·exact⟨o,keep c o (I.cne x c e) hc nch ho (I.freeC x c e),hd⟩
 refine⟨I.ok,I.os,hg,⟨fun b o e n hb hx=>?_,fun b o e n hb hx=>?_,fun b o e n hx=>?_,fun b o e hx=>?_,fun b xs e=>tups b xs (I.base.tups b xs e),fun b o xs e=>frzs b o xs (I.base.frzs b o xs e),fun b ps e=>?_⟩,?_,fun x c e=>?_,?_,fun x c e=>?_,fun p hp=>?_,hok,I.len⟩
 ·exact keep b o (neL b o e) hb (neC b o e hx) (I.base.keep b o e n hb hx) (I.base.free b o e n hx)
 ·obtain⟨sl,e1⟩:=I.base.slot b o e n hb hx
  obtain⟨sl',e2⟩:=slot b _ (neL b o e) hb (neC b o e hx) e1 (I.base.free b o e n hx)
  exact⟨sl',e2⟩
 ·obtain⟨o',e1⟩:=I.base.there b o e hx
  exact free b o' (neC b o e hx) e1 (I.base.free b o e n hx)
 ·obtain⟨o',e1⟩:=I.base.there b o e hx
  exact there b o' (neC b o e hx) e1
 ·obtain⟨m1,e1⟩:=I.base.tbls b ps e
  obtain⟨m2,e2⟩:=tbls b _ e1
  exact⟨m1++m2,by rw[e2,Array.append_assoc]⟩
 ·obtain⟨m,hn,hl⟩:=I.loc
  refine⟨m,ns m hn,fun i x v e1 e2 e3=>?_⟩
  obtain⟨u,r,l⟩:=hl i x v e1 e2 e3
  refine⟨u,r,?_⟩
  rcases l with l | ⟨k,c,e,z⟩
  ·exact .inl l
  ·exact .inr ⟨k,c,e,cellK x c e _ z⟩
 ·obtain⟨v,z⟩:=I.cell x c e
  exact⟨v,cellK x c e v z⟩
 ·obtain⟨m,⟨o,_,_,ho,_⟩,_⟩:=I.loc
  exact free _ o (fun z=>(hch _ z).2.1 rfl) ho I.free
 ·obtain⟨v,o,ho,hd⟩:=I.cell x c e
  exact free c o (fun z=>(hch c z).2.2.1 x c e rfl) ho (I.freeC x c e)
 ·obtain⟨e,n,ne,nf,d⟩:=I.pin p hp
  have nch:p.1∉ch:=fun z=>(hch p.1 z).2.2.2 p hp rfl
  exact⟨keep p.1 p.2 ne nf nch e n,free p.1 p.2 nch e n,ne,nf,d⟩
theorem Inv.un{t':Nat}(I:Inv X pins σ H s)(u:Un X.fs [] H H' s.heap h')(hok:HOk X.prog X.w H' h'):Inv X pins σ H' { s with heap:=h',toks:=t' }:=by
 obtain⟨m,⟨o,es,ep,ho,r⟩,_⟩:=id I.loc
 obtain⟨sl,hL⟩:=u.any ho I.free (by simp)
 exact I.step (g':=s.gens) (d':=s.drawn) (ch:=[]) (fun _ z=>nomatch z) (fun b o _ hb _ e n=>u.keep b o e n hb (by simp)) (fun b o _ hb _ e n=>u.slot b o e n hb (by simp)) (fun b o _ e n=>u.free b o e n (by simp)) (fun b o _ e=>u.there b o e (by simp)) u.tups u.frzs u.tbls (fun m' hm=>by
  obtain⟨o',es',ep',ho',r'⟩:=hm
  rw[ho]at ho';cases ho'
  exact⟨_,es',ep',hL,r'⟩) hok I.bare
theorem Inv.call{g':Array GenState}{t':Nat}{d':Drawn}{ch:List Addr}(I:Inv X pins σ H s)(u:Un (frs X.stack) ch H H' s.heap h')(hok:HOk X.prog X.w H' h')(hg:AllBare g')
  (hch:∀b∈ch,(b∈X.ex∨X.s₀.heap.objs.size≤b)∧b≠X.env.locals∧(∀x c,X.env.cells.lookup x=some c→c≠b)∧∀p∈X.pn++pins,p.1≠b) :
  Inv X pins σ H' { s with heap:=h',gens:=g',drawn:=d',toks:=t' }:=by
 obtain⟨m,⟨o,es,ep,ho,r⟩,_⟩:=id I.loc
 obtain⟨sl,hL⟩:=u.any ho I.free fun z=>(hch _ z).2.1 rfl
 exact I.step (ch:=ch) hch (fun b o hL hb hc e n=>u.keep b o e n (fun z=>(List.mem_cons.mp (I.stkSub b z)).elim hL hb) hc) (fun b o _ _ hc e n=>u.any e n hc) (fun b o hc e n=>u.free b o e n hc) (fun b o hc e=>u.there b o e hc) u.tups u.frzs u.tbls (fun m' hm=>by
  obtain⟨o',es',ep',ho',r'⟩:=hm
  rw[ho]at ho';cases ho'
  exact⟨_,es',ep',hL,r'⟩) hok hg
theorem Inv.turned{t':Nat}{it:Addr}(I:Inv X pins σ H s)(k:∀b o,b≠it→s.heap.get? b=some o→h'.get? b=some o)(hn:H it=none)(hL:it≠X.env.locals)
  (h1:it∈X.ex∨X.s₀.heap.objs.size≤it) (h2:∀x c,X.env.cells.lookup x=some c→c≠it) (h3:∀p∈X.pn++pins,p.1≠it):Inv X pins σ H { s with heap:=h',toks:=t' }:=by
 have nit:∀b u,H b=some u→b≠it:=fun b u e z=>by rw[z,hn]at e;cases e
 refine I.step (g':=s.gens) (d':=s.drawn) (ch:=[it]) (fun b hb=>?_) (fun b o _ _ hc e _=>k b o (fun z=>hc (by simp[z])) e) (fun b o _ _ hc e _=>⟨o.slots,k b o (fun z=>hc (by simp[z])) e⟩) (fun _ _ _ _ n=>n)
  (fun b o hc e=>⟨o,k b o (fun z=>hc (by simp[z])) e⟩) (fun _ _ e=>e) (fun _ _ _ e=>e) (fun b ps e=>⟨#[],by rw[e];simp⟩) (fun m hm=>?_) (fun b u e=>?_) I.bare
 ·have e:b=it:=by simpa using hb
  subst e
  exact⟨h1,hL,h2,h3⟩
 ·obtain⟨o,es,ep,ho,r⟩:=hm
  exact⟨o,es,ep,k _ o (Ne.symm hL) ho,r⟩
 ·refine(I.hok b u e).stay (fun c v hc q=>k c v ?_ q) (fun _ q=>q) fun _ _ q=>q
  rcases hc with z | z
  ·rw[z];exact nit b u e
  ·exact nit c _ z
theorem Inv.tok(I:Inv X pins σ H s)(t:Nat):Inv X pins σ H { s with toks:=t }:=I.un (h':=s.heap) (t':=t) Un.refl I.hok
theorem Inv.kept{t':Nat}(I:Inv X pins σ H s)(k:∀b u,s.heap.get? b=some u→h'.get? b=some u):Inv X pins σ H { s with heap:=h',toks:=t' }:=I.un (Un.kept k) (I.hok.kept k)
theorem Inv.laid{a:Addr}{o:HO}{t':Nat}(I:Inv X pins σ H s)(k:∀b u,s.heap.get? b=some u→h'.get? b=some u)(hp:s.heap.objs.size≤a)(new:ObjOk X.prog X.w (upd H a o) h' a o) :
  Inv X pins σ (upd H a o) { s with heap:=h',toks:=t' }:=I.un (Un.laid k hp (I.hok.fresh hp)) (I.hok.laid k hp new)
theorem Inv.write{x e:Addr}{o:HO}{t':Nat}(I:Inv X pins σ H s)(mu:Mut (H x))(he:e=x∨H e=some (.own x))(k:∀b u,b≠e→s.heap.get? b=some u→h'.get? b=some u)(heo:∃u,h'.get? e=some u)
  (new:ObjOk X.prog X.w (upd H x o) h' x o):Inv X pins σ (upd H x o) { s with heap:=h',toks:=t' }:=I.un (Un.write mu he k heo) (I.hok.write mu he k heo new)
theorem Inv.weak{σ':List (Option V)}(I:Inv X pins σ H s)(hl:σ'.length=σ.length)(w:∀(i:Nat) v,σ'[i]? = some (some v)→σ[i]? = some (some v)):Inv X pins σ' H s:=
 ⟨I.ok,I.os,I.bare,I.base,let⟨m,hn,hl'⟩:=I.loc;⟨m,hn,fun i x v e1 e2 e3=>hl' i x v e1 (w i v e2) e3⟩,I.cell,I.free,I.freeC,I.pin,I.hok,hl.trans I.len⟩
theorem Inv.pins_of{pins':PinT}(I:Inv X pins σ H s)(h:∀p∈pins',s.heap.get? p.1=some p.2∧H p.1=none∧p.1≠X.env.locals∧p.1∉X.fs∧∀v,p.2.data≠.cell v):Inv X pins' σ H s:=
 ⟨I.ok,I.os,I.bare,I.base,I.loc,I.cell,I.free,I.freeC,fun p hp=>(List.mem_append.mp hp).elim (fun z=>I.pin p (List.mem_append_left _ z)) (h p),I.hok,I.len⟩
theorem nodup_ix{N:List Str}(hN:N.Nodup){i j:Nat}{x:Str}(a:N[i]? = some x)(b:N[j]? = some x):i=j:=by
 obtain⟨h1,e1⟩:=List.getElem?_eq_some_iff.mp a
 obtain⟨h2,e2⟩:=List.getElem?_eq_some_iff.mp b
 exact(List.getElem_inj hN).mp (e1.trans e2.symm)
theorem store_ok2{M:Model}{A:Around}{E:ExcT}{i:Nat}{x:Str}{v:V}{u:Value}{Q:Unit→Shared→Prop}(I:Inv X pins σ H s)(hN:X.N.Nodup)(hi:X.N[i]? = some x)(hx:Loc X.env.scope x)(r:RelV v u)
  (h:∀s',Inv X pins (σ.set i (some v)) H s'→(∃a,Heap.SameBut a s.heap s'.heap∧(a=X.env.locals∨X.env.cells.lookup x=some a))→Q () s') (hf:X.fn x=true∨X.env.scope.names.lookup x=some .local:=by first | exact .inl rfl | exact .inr rfl | assumption):wpAny M A (storeName X.env x u) Q E s:=by
 obtain⟨m,hn,hl⟩:=id I.loc
 have hcls:(X.env.scope.kind==.class||(X.env.scope.kind==.module&&X.env.locals != X.env.globals))=false:=by rw[I.ok.kind];rfl
 have hiσ:i<σ.length:=by rw[I.len];exact(List.getElem?_eq_some_iff.mp hi).1
 have cne:=I.cne
 have tracked:∀{a:Addr}{h':Heap},(∃o,s.heap.get? a=some o∧H a=none)→Heap.SameBut a s.heap h'→HOk X.prog X.w H h':=fun{a h'} ha hs b ob e=>by
  obtain⟨_,_,hfree⟩:=ha
  refine(I.hok b ob e).stay (fun c w' hc q=>(hs.2 c ?_).trans q) (fun _ q=>q) fun _ _ q=>q
  rintro rfl
  rcases hc with rfl | hc
  ·rw[hfree]at e;cases e
  ·rw[hfree]at hc;cases hc
 rcases hx with hk | hk
 ·refine wpAny_storeName_local hk hn (fun h' hn' hs=>?_) hcls
  obtain⟨oL,_,_,hoL,_⟩:=id hn
  refine h _ ⟨I.ok,I.os,I.bare,⟨fun b o e n hb hx=>?_,fun b o e n hb hx=>?_,I.base.free,fun b o e hx=>?_,I.base.tups,I.base.frzs,I.base.tbls⟩,⟨_,hn',fun j y v' e1 e2 e3=>?_⟩,fun y c e=>?_,I.free,I.freeC,fun p hp=>?_,tracked ⟨oL,hoL,I.free⟩ hs,by simpa using I.len⟩ ⟨_,hs,.inl rfl⟩
  ·exact(hs.2 b (Nat.ne_of_lt (Nat.lt_of_lt_of_le (Heap.lt_size e) I.ok.above))).trans (I.base.keep b o e n hb hx)
  ·obtain⟨sl,e1⟩:=I.base.slot b o e n hb hx
   exact⟨sl,(hs.2 b (Nat.ne_of_lt (Nat.lt_of_lt_of_le (Heap.lt_size e) I.ok.above))).trans e1⟩
  ·obtain⟨o',e1⟩:=I.base.there b o e hx
   exact⟨o',(hs.2 b (Nat.ne_of_lt (Nat.lt_of_lt_of_le (Heap.lt_size e) I.ok.above))).trans e1⟩
  ·by_cases hj:j=i
   ·subst hj
    rw[hi]at e1;cases e1
    rw[List.getElem?_set_self hiσ]at e2
    cases e2
    exact⟨u,r,.inl ⟨hk,by simp⟩⟩
   ·rw[List.getElem?_set_ne (Ne.symm hj)]at e2
    obtain⟨u',r',q⟩:=hl j y v' e1 e2 e3
    refine⟨u',r',?_⟩
    rcases q with⟨k,e⟩ | ⟨k,c,e,z⟩
    ·refine .inl ⟨k,?_⟩
     have:y≠x:=fun e=>hj (nodup_ix hN e1 (e▸hi))
     simp[this,e]
    ·exact .inr ⟨k,c,e,z.sameBut hs (cne y c e)⟩
  ·obtain⟨w',z⟩:=I.cell y c e
   exact⟨w',z.sameBut hs (cne y c e)⟩
  ·obtain⟨e,n,ne,nf,d⟩:=I.pin p hp
   exact⟨(hs.2 p.1 ne).trans e,n,ne,nf,d⟩
 ·have hfn:X.fn x=true:=by
   rcases hf with z | z
   ·exact z
   ·rw[z]at hk;cases hk
  obtain⟨c,hc⟩:=I.ok.has x (.inl hk)
  obtain⟨w',z⟩:=I.cell x c hc
  refine wpAny_storeName_cell I.ok.kind hk hc z (fun h' hc' hs=>?_)
  obtain⟨oc,hoc,hocd⟩:=id z
  refine h { s with heap:=h' } ⟨I.ok,I.os,I.bare,⟨fun b o e n hb hx=>?_,fun b o e n hb hx=>?_,I.base.free,fun b o e hx=>?_,I.base.tups,I.base.frzs,I.base.tbls⟩,⟨m,hn.sameBut hs (Ne.symm (cne x c hc)),fun j y v' e1 e2 e3=>?_⟩,fun y c' e=>?_,I.free,I.freeC,fun p hp=>?_,tracked ⟨oc,hoc,I.freeC x c hc⟩ hs,by simpa using I.len⟩ ⟨c,hs,.inr hc⟩
  ·exact(hs.2 b (Nat.ne_of_lt (Nat.lt_of_lt_of_le (Heap.lt_size e) (I.ok.cab x c hfn hc)))).trans (I.base.keep b o e n hb hx)
  ·obtain⟨sl,e1⟩:=I.base.slot b o e n hb hx
   exact⟨sl,(hs.2 b (Nat.ne_of_lt (Nat.lt_of_lt_of_le (Heap.lt_size e) (I.ok.cab x c hfn hc)))).trans e1⟩
  ·obtain⟨o',e1⟩:=I.base.there b o e hx
   exact⟨o',(hs.2 b (Nat.ne_of_lt (Nat.lt_of_lt_of_le (Heap.lt_size e) (I.ok.cab x c hfn hc)))).trans e1⟩
  ·by_cases hj:j=i
   ·subst hj
    rw[hi]at e1;cases e1
    rw[List.getElem?_set_self hiσ]at e2
    cases e2
    exact⟨u,r,.inr ⟨.inl hk,c,hc,hc'⟩⟩
   ·rw[List.getElem?_set_ne (Ne.symm hj)]at e2
    obtain⟨u',r',q⟩:=hl j y v' e1 e2 e3
    refine⟨u',r',?_⟩
    rcases q with q | ⟨k,c',e,z'⟩
    ·exact .inl q
    ·refine .inr ⟨k,c',e,z'.sameBut hs ?_⟩
     rintro rfl
     exact hj (nodup_ix hN e1 (I.ok.inj _ _ _ e hc▸hi))
  ·by_cases hcc:c'=c
   ·subst hcc;exact⟨_,hc'⟩
   ·obtain⟨w2,z2⟩:=I.cell y c' e
    exact⟨w2,z2.sameBut hs hcc⟩
  ·obtain⟨e,n,ne,nf,d⟩:=I.pin p hp
   refine⟨(hs.2 p.1 ?_).trans e,n,ne,nf,d⟩
   intro q
   rw[q,hoc]at e
   have q':oc=p.2:=Option.some.inj e
   exact d w' (by rw[←q'];exact hocd)
theorem store_ok{M:Model}{A:Around}{E:ExcT}{i:Nat}{x:Str}{v:V}{u:Value}{Q:Unit→Shared→Prop}(I:Inv X pins σ H s)(hN:X.N.Nodup)(hi:X.N[i]? = some x)(hx:Loc X.env.scope x)(r:RelV v u)
  (h:∀s',Inv X pins (σ.set i (some v)) H s'→Q () s') (hf:X.fn x=true∨X.env.scope.names.lookup x=some .local:=by first | exact .inl rfl | exact .inr rfl | assumption):wpAny M A (storeName X.env x u) Q E s:=
 store_ok2 I hN hi hx r (fun s' I' _=>h s' I') hf
theorem Inv.call'{s':Shared}{ch:List Addr}(I:Inv X pins σ H s)(ho:s'.os=s.os)(u:Un (frs X.stack) ch H H' s.heap s'.heap)(hok:HOk X.prog X.w H' s'.heap)(hg:AllBare s'.gens)
  (hch:∀b∈ch,(b∈X.ex∨X.s₀.heap.objs.size≤b)∧b≠X.env.locals∧(∀x c,X.env.cells.lookup x=some c→c≠b)∧∀p∈X.pn++pins,p.1≠b):Inv X pins σ H' s':=by
 obtain⟨h',g',d',t',o'⟩:=s'
 have e:o'=s.os:=ho
 subst e
 exact I.call (g':=g') (t':=t') (d':=d') u hok hg hch
end
noncomputable abbrev XK:=Value→Option Addr→Hp→Prop
noncomputable abbrev St:=List (Option V)
noncomputable abbrev VK:=V→Hp→Prop
noncomputable abbrev TE:=St→Hp→VK→Prop
noncomputable abbrev TT:=St→Hp→(Bool→Hp→Prop)→Prop
noncomputable abbrev TA:=St→Hp→(List V→Hp→Prop)→Prop
structure Ends where
 nx:St→Hp→Prop
 rt:VK
 bk:St→Hp→Prop:=fun _ _=>False
 ct:St→Hp→Prop:=fun _ _=>False
noncomputable abbrev TS:=Ends→St→Hp→Prop
def EP(X:Cx)(pins:PinT)(σ:St)(Q:VK)(u:Value)(s':Shared):Prop:=∃v H',Inv X pins σ H' s'∧RelV v u∧Q v H'
def TP(X:Cx)(pins:PinT)(σ:St)(Q:Bool→Hp→Prop)(b:Bool)(s':Shared):Prop:=∃H',Inv X pins σ H' s'∧Q b H'
def AP(X:Cx)(pins:PinT)(σ:St)(Q:List V→Hp→Prop)(us:List Value)(s':Shared):Prop:=∃vs H',Inv X pins σ H' s'∧Vals vs us∧Q vs H'
def SP(X:Cx)(pins:PinT)(D:Ends)(f:Flow)(s':Shared):Prop:=
 match f with
 |.next=>∃σ' H',Inv X pins σ' H' s'∧D.nx σ' H'
 |.brk=>∃σ' H',Inv X pins σ' H' s'∧D.bk σ' H'
 |.cont=>∃σ' H',Inv X pins σ' H' s'∧D.ct σ' H'
 |.ret u=>∃v σ' H',Inv X pins σ' H' s'∧RelV v u∧D.rt v H'
def PE(X:Cx)(e:Expr)(t:TE):Prop:=
 ∀(pins:PinT)(s:Shared)(σ:St)(H:Hp)(Q:VK),Inv X pins σ H s→t σ H Q→wpAny (model X.prog X.w) X.A (eval e X.env) (EP X pins σ Q) X.xe s
def PT(X:Cx)(e:Expr)(t:TT):Prop:=
 ∀(pins:PinT)(s:Shared)(σ:St)(H:Hp)(Q:Bool→Hp→Prop),Inv X pins σ H s→t σ H Q→wpAny (model X.prog X.w) X.A (isTrue e X.env (eval e X.env)) (TP X pins σ Q) X.xe s
def PW(X:Cx)(e:Expr)(t:TT):Prop:=
 ∀(whole:Sem Value)(pins:PinT)(s:Shared)(σ:St)(H:Hp)(Q:Bool→Hp→Prop),Inv X pins σ H s→t σ H Q→wpAny (model X.prog X.w) X.A (isTrue e X.env whole) (TP X pins σ Q) X.xe s
theorem PW.pt{X:Cx}{e:Expr}{t:TT}(h:PW X e t):PT X e t:=h _
def PA(X:Cx)(es:List Expr)(t:TA):Prop:=
 ∀(pos:Pos)(pins:PinT)(s:Shared)(σ:St)(H:Hp)(Q:List V→Hp→Prop),Inv X pins σ H s→t σ H Q→wpAny (model X.prog X.w) X.A (spliced (backTo pos (starEach es X.env))) (AP X pins σ Q) X.xe s
def PS(X:Cx)(st:Stmt)(t:TS):Prop:=
 ∀(pins:PinT)(s:Shared)(σ:St)(H:Hp)(D:Ends),Inv X pins σ H s→t D σ H→wpAny (model X.prog X.w) X.A (exec st X.env) (SP X pins D) X.xe s
def PSs(X:Cx)(st:List Stmt)(t:TS):Prop:=
 ∀(pins:PinT)(s:Shared)(σ:St)(H:Hp)(D:Ends),Inv X pins σ H s→t D σ H→wpAny (model X.prog X.w) X.A (execs st X.env) (SP X pins D) X.xe s
theorem thn{α:Type}{t:Sem α}{Q Q':α→Shared→Prop}{M:Model}{A:Around}{E:ExcT}{s:Shared}(h:wpAny M A t Q E s)(hQ:∀a s,Q a s→Q' a s):wpAny M A t Q' E s:=wpAny_mono h hQ fun _ _ x=>x
section
variable{X:Cx}
theorem bin{a b:Expr}{ta tb:TE}(ha:PE X a ta)(hb:PE X b tb){pins:PinT}{s:Shared}{σ:St}{H:Hp}{R:V→V→Hp→Prop}(I:Inv X pins σ H s)(h:ta σ H fun x H1=>tb σ H1 fun y H2=>R x y H2)
  {α:Type}{Q:α→Shared→Prop}{f:Value→Value→Sem α}
  (hf:∀v u s2 x y H2,Inv X pins σ H2 s2→RelV x v→RelV y u→R x y H2→wpAny (model X.prog X.w) X.A (f v u) Q X.xe s2) :
  wpAny (model X.prog X.w) X.A (eval a X.env) (fun v s₁=>wpAny (model X.prog X.w) X.A (eval b X.env) (fun u s₂=>wpAny (model X.prog X.w) X.A (f v u) Q X.xe s₂) X.xe s₁) X.xe s:=by
 refine thn (ha pins s σ H _ I h) fun v s1 ⟨x,H1,I1,r1,q1⟩=>?_
 refine thn (hb pins s1 σ H1 _ I1 q1) fun u s2 ⟨y,H2,I2,r2,q2⟩=>?_
 exact hf v u s2 x y H2 I2 r1 r2 q2
noncomputable def tVar(i:Nat):TE:=fun σ H Q=>∃v,σ[i]? = some (some v)∧Q v H
noncomputable def tC(v:V):TE:=fun _ H Q=>Q v H
theorem pe_var{i:Nat}{x:Str}{pos:Pos}(hN:X.N[i]? = some x)(hv:Vis X.env.scope x)(hd:(x==("__debug__":Str))=false:=by decide)(hcd:(x==("__classdict__":Str))=false:=by decide):PE X (.Name x pos) (tVar i):=by
 intro pins s σ H Q I h
 obtain⟨v,e,h⟩:=h
 obtain⟨m,hn,hl⟩:=I.loc
 obtain⟨u,r,l⟩:=hl i x v hN e hv
 have fin:EP X pins σ Q u s:=⟨v,H,I,r,h⟩
 rcases l with⟨hk,hm⟩ | ⟨hk,c,hc,hcell⟩
 ·exact wpAny_Name (wpAny_loadName_local I.ok.kind hk hn hm fin) hd
 ·rcases hk with hk | hk
  ·exact wpAny_Name (wpAny_loadName_cell I.ok.kind hk hc hcell fin) hd
  ·exact wpAny_Name (wpAny_loadName_free I.ok.kind hk hc hcell fin hcd) hd
theorem pe_int{i j pos}:PE X (.Constant (.int i) j pos) (tC (.int i)):=fun _ _ _ H _ I h=>wpAny_Constant_int ⟨.int i,H,I.tok _,⟨_,rfl⟩,h⟩
theorem pe_bl{b j pos}:PE X (.Constant (.bool b) j pos) (tC (.bl b)):=fun _ _ _ H _ I h=>Constant_bool ⟨.bl b,H,I,rfl,h⟩
theorem pe_non{j pos}:PE X (.Constant .none j pos) (tC .non):=fun _ _ _ H _ I h=>Constant_none ⟨.non,H,I,rfl,h⟩
theorem pe_str{x j pos}:PE X (.Constant (.str x) j pos) (tC (.str x)):=fun _ _ _ H _ I h=>Calls.Constant_str ⟨.str x,H,I.tok _,⟨_,rfl⟩,h⟩
def Gl(X:Cx)(x:Str):Prop:=X.env.kindOf x=some .globalImplicit
theorem ld_glob{E:ExcT}{pins:PinT}{s:Shared}{σ:St}{H:Hp}{x:Str}{u:Value}{pos:Pos}{Q:ExcT}(I:Inv X pins σ H s)(hg:Gl X x)(hm:X.mg x=some u)(h:Q u s)
  (hd:(x==("__debug__":Str))=false:=by decide):wpAny (model X.prog X.w) X.A (eval (.Name x pos) X.env) Q E s:=
 Calls.Name_function_global I.ok.kind hg (Calls.loadGlobal_global (by rw[I.ok.glob];exact I.mod.glob.keeps I.bk) hm h) hd
theorem ld_blt{E:ExcT}{pins:PinT}{s:Shared}{σ:St}{H:Hp}{x:Str}{u:Value}{pos:Pos}{Q:ExcT}(I:Inv X pins σ H s)(hg:Gl X x)(hm:X.mg x=none)(hv:bootBuiltins x=some u)(h:Q u s)
  (hn:x≠"__name__":=by decide) (hd:(x==("__debug__":Str))=false:=by decide):wpAny (model X.prog X.w) X.A (eval (.Name x pos) X.env) Q E s:=by
 obtain⟨mb,h1,h2⟩:=I.mod.blt
 exact Calls.Name_function_global I.ok.kind hg (Calls.loadGlobal_builtin (by rw[I.ok.glob];exact I.mod.glob.keeps I.bk) hm (by rw[I.ok.blt];exact h1.keeps I.bk) ((h2 x hn).trans hv) h) hd
theorem pe_glob{x:Str}{v:V}{u:Value}{pos:Pos}(hg:Gl X x)(hm:X.mg x=some u)(r:RelV v u)(hd:(x==("__debug__":Str))=false:=by decide):PE X (.Name x pos) (tC v):=
 fun _ _ _ H _ I h=>ld_glob I hg hm ⟨v,H,I,r,h⟩ hd
theorem pe_bltn{x:Str}{v:V}{u:Value}{pos:Pos}(hg:Gl X x)(hm:X.mg x=none)(hv:bootBuiltins x=some u)(r:RelV v u)(hn:x≠"__name__":=by decide)(hd:(x==("__debug__":Str))=false:=by decide):PE X (.Name x pos) (tC v):=
 fun _ _ _ H _ I h=>ld_blt I hg hm hv ⟨v,H,I,r,h⟩ hn hd
variable{a b:Expr}{ta tb:TE}{pos:Pos}
def PC(X:Cx)(op:CmpOp)(a b:Expr)(t:TE):Prop:=
 ∀(pins:PinT)(s:Shared)(σ:St)(H:Hp)(Q:VK),Inv X pins σ H s→t σ H Q→
  wpAny (model X.prog X.w) X.A (eval a X.env) (fun v s₁=>wpAny (model X.prog X.w) X.A (eval b X.env) (fun u s₂=>wpAny (model X.prog X.w) X.A (compareOp op v u) (EP X pins σ Q) X.xe s₂) X.xe s₁) X.xe s
theorem nobehind(b:Expr){op:CmpOp}(h:op≠.In)(h2:op≠.NotIn):behindInMarks op b=false:=by
 have e1:(op==CmpOp.In)=false:=by cases op<;>first | rfl | exact absurd rfl h
 have e2:(op==CmpOp.NotIn)=false:=by cases op<;>first | rfl | exact absurd rfl h2
 cases b<;>simp[behindInMarks,e1,e2]
noncomputable def tB(t:TE):TT:=fun σ H Q=>t σ H fun x H1=>∃c,x=.bl c∧Q c H1
theorem pt_cmp{op:CmpOp}{t:TE}(h:PC X op a b t)(h1:behindInMarks op b=false:=by first | exact nobehind _ (by decide) (by decide) | rfl):PT X (.Compare a [op] [b] pos) (tB t):=by
 intro pins s σ H Q I hw
 refine wpAny_isTrue_Compare1 (thn (h pins s σ H _ I hw) fun v s1 h1=>thn h1 fun u s2 h2=>thn h2 fun c s3 ⟨x,H1,I1,r1,q1⟩=>?_) h1
 obtain⟨d,rfl,q⟩:=q1
 cases r1
 exact wpAny_truthy_bool ⟨H1,I1,q⟩
theorem pt_val{e:Expr}{t:TE}(h:PE X e t)(he:∀whole,isTrue e X.env whole=(do let v ←whole;standAt e.pos;holding [v] (truthy v)):=by intro _;rfl):PT X e (tB t):=by
 intro pins s σ H Q I hw
 refine isTrue_plain (thn (h pins s σ H _ I hw) fun v s1 ⟨x,H1,I1,r1,q1⟩=>?_) (he _)
 obtain⟨d,rfl,q⟩:=q1
 cases r1
 exact wpAny_truthy_bool ⟨H1,I1,q⟩
variable{tA tB':TT}{rest:List Expr}
noncomputable def tAnd(t u:TT):TT:=fun σ H Q=>t σ H fun c H1=>if c=true then u σ H1 Q else Q false H1
noncomputable def tOr(t u:TT):TT:=fun σ H Q=>t σ H fun c H1=>if c=true then Q true H1 else u σ H1 Q
noncomputable def tNot(t:TT):TT:=fun σ H Q=>t σ H fun c H1=>Q (!c) H1
theorem pw_and1(ha:PT X a tA):PW X (.BoolOp .And [a] pos) tA:=by
 intro wh pins s σ H Q I h
 refine isTrue_and (thn (ha pins s σ H Q I h) fun c s1 e=>?_)
 cases c with
 |true=>exact isTrue_and_nil e
 |false=>exact e
theorem pw_or1(ha:PT X a tA):PW X (.BoolOp .Or [a] pos) tA:=by
 intro wh pins s σ H Q I h
 refine isTrue_or (thn (ha pins s σ H Q I h) fun c s1 e=>?_)
 cases c with
 |false=>exact isTrue_or_nil e
 |true=>exact e
theorem pw_and(ha:PT X a tA)(hb:PW X (.BoolOp .And (b::rest) pos) tB'):PW X (.BoolOp .And (a::b::rest) pos) (tAnd tA tB'):=by
 intro wh pins s σ H Q I h
 refine isTrue_and (thn (ha pins s σ H _ I h) fun c s1 ⟨H1,I1,q1⟩=>?_)
 cases c with
 |true=>exact hb wh pins s1 σ H1 Q I1 q1
 |false=>exact⟨H1,I1,q1⟩
theorem pw_or(ha:PT X a tA)(hb:PW X (.BoolOp .Or (b::rest) pos) tB'):PW X (.BoolOp .Or (a::b::rest) pos) (tOr tA tB'):=by
 intro wh pins s σ H Q I h
 refine isTrue_or (thn (ha pins s σ H _ I h) fun c s1 ⟨H1,I1,q1⟩=>?_)
 cases c with
 |true=>exact⟨H1,I1,q1⟩
 |false=>exact hb wh pins s1 σ H1 Q I1 q1
theorem pt_not(ha:PT X a tA):PT X (.UnaryOp .Not a pos) (tNot tA):=by
 intro pins s σ H Q I h
 exact isTrue_not (ha pins s σ H (fun c H1=>Q (!c) H1) I h)
noncomputable def tAndV(ta tb:TE):TE:=fun σ H Q=>ta σ H fun x H1=>∃c,x=.bl c∧if c=true then tb σ H1 Q else Q (.bl false) H1
noncomputable def tNotV(ta:TE):TE:=fun σ H Q=>ta σ H fun x H1=>∃c,x=.bl c∧Q (.bl (!c)) H1
theorem pe_one{op}{t:TE}(h:PE X a t):PE X (.BoolOp op [a] pos) t:=fun pins s σ H Q I hw=>BoolOp_one (h pins s σ H Q I hw)
theorem pe_and(ha:PE X a ta)(hb:PE X (.BoolOp .And (b::rest) pos) tb):PE X (.BoolOp .And (a::b::rest) pos) (tAndV ta tb):=by
 intro pins s σ H Q I h
 refine BoolOp_and (thn (ha pins s σ H _ I h) fun v s1 ⟨x,H1,I1,r1,q1⟩=>?_)
 obtain⟨c,rfl,q1⟩:=q1
 cases r1
 refine wpAny_truthy_bool ?_
 cases c with
 |true=>exact hb pins s1 σ H1 Q I1 q1
 |false=>exact⟨.bl false,H1,I1,rfl,q1⟩
theorem pe_not(ha:PE X a ta):PE X (.UnaryOp .Not a pos) (tNotV ta):=by
 intro pins s σ H Q I h
 refine UnaryOp_ (thn (ha pins s σ H _ I h) fun v s1 ⟨x,H1,I1,r1,q1⟩=>?_)
 obtain⟨c,rfl,q1⟩:=q1
 cases r1
 exact not_of (wpAny_truthy_bool ⟨.bl (!c),H1,I1,rfl,q1⟩)
end
def SqL(K:FrgT)(H:Hp)(a:Addr)(xs:List V):Prop:=
 Rd H a (.lst xs)∨
  ∃(o:Obj)(its:Array Value)(n:Nat),K.lookup a=some o∧o.cls=.type "list"∧o.dict=none∧o.data=.seq its n∧its.size≤sizeLine∧Vals xs its.toList
def SqT(K:FrgT)(H:Hp)(a:Addr)(xs:List V):Prop:=
 Rd H a (.tup xs)∨
  ∃(o:Obj)(its:Array Value)(n:Nat),K.lookup a=some o∧o.cls=.type "tuple"∧o.data=.seq its n∧its.size≤sizeLine∧Vals xs its.toList
noncomputable def absV:Value→Option V
 |.none=>some .non
 |.bool b=>some (.bl b)
 |.int i _=>some (.int i)
 |.str x _=>some (.str x)
 |.bytes b _=>some (.byt b)
 |.float b _=>some (.flt b)
 |.ref a=>some (.ref a)
 |.type n=>some (.ty n)
 |_=>none
theorem RelV.abs{x:V}{u:Value}(r:RelV x u):absV u=some x:=by
 cases x with
 |non=>cases r;rfl
 |bl _=>cases r;rfl
 |int _=>obtain⟨t,rfl⟩:=r;rfl
 |str _=>obtain⟨t,rfl⟩:=r;rfl
 |byt _=>obtain⟨t,rfl⟩:=r;rfl
 |flt _=>obtain⟨t,rfl⟩:=r;rfl
 |ref _=>cases r;rfl
 |ty _=>cases r;rfl
theorem RelV.inj{x y:V}{u:Value}(r:RelV x u)(q:RelV y u):x=y:=Option.some.inj (r.abs.symm.trans q.abs)
theorem Vals.inj:∀{xs ys:List V}{us:List Value},Vals xs us→Vals ys us→xs=ys
 |_,_,_,.nil,.nil=>rfl
 | _,_,_,.cons r t,.cons r' t'=>by rw[r.inj r',Vals.inj t t']
section
variable{X:Cx}{pins:PinT}{σ:St}{H:Hp}{s:Shared}{a:Addr}{xs ys:List V}
theorem SqL.of{K:FrgT}(h:H a=some (.lst xs)):SqL K H a xs:=.inl (.inl h)
theorem SqT.of{K:FrgT}(h:H a=some (.tup xs)):SqT K H a xs:=.inl (.inl h)
theorem Inv.list(I:Inv X pins σ H s)(h:SqL X.K H a xs):∃its:List Value,Vals xs its∧PlainL s.heap a its.toArray∧xs.length≤sizeLine:=by
 rcases h with h | ⟨o,its,n,hk,hc,hd,hs,hz,r⟩
 ·obtain⟨z,its,n,r,e⟩:=h.ok I.hok
  exact⟨its,r,⟨_,n,e,rfl,rfl,rfl⟩,z⟩
 ·refine⟨its.toList,r,⟨o,n,I.kIn a o hk,hc,hd,by simpa using hs⟩,?_⟩
  have e:=r.length
  simp only[Array.length_toList]at e
  omega
theorem Inv.tuple(I:Inv X pins σ H s)(h:SqT X.K H a xs):∃its:List Value,Vals xs its∧IsTup s.heap a its.toArray∧xs.length≤sizeLine:=by
 rcases h with h | ⟨o,its,n,hk,hc,hs,hz,r⟩
 ·obtain⟨z,its,r,p⟩:=h.ok I.hok
  exact⟨its,r,p,z⟩
 ·refine⟨its.toList,r,⟨o,I.kIn a o hk,hc,n,by simpa using hs⟩,?_⟩
  have e:=r.length
  simp only[Array.length_toList]at e
  omega
theorem Inv.list_inj(I:Inv X pins σ H s)(h:SqL X.K H a xs)(h':SqL X.K H a ys):xs=ys:=by
 obtain⟨its,r,⟨o,n,e,_,_,d⟩,_⟩:=I.list h
 obtain⟨its',r',⟨o',n',e',_,_,d'⟩,_⟩:=I.list h'
 rw[e]at e';cases e'
 rw[d]at d'
 injection d' with d1 _
 have:its=its':=by simpa using congrArg Array.toList d1
 subst this
 exact r.inj r'
theorem Inv.tuple_inj(I:Inv X pins σ H s)(h:SqT X.K H a xs)(h':SqT X.K H a ys):xs=ys:=by
 obtain⟨its,r,⟨o,e,_,n,d⟩,_⟩:=I.tuple h
 obtain⟨its',r',⟨o',e',_,n',d'⟩,_⟩:=I.tuple h'
 rw[e]at e';cases e'
 rw[d]at d'
 injection d' with d1 _
 have:its=its':=by simpa using congrArg Array.toList d1
 subst this
 exact r.inj r'
end
noncomputable abbrev Cx.wish(X:Cx)(E:ExcT):Cx:={ X with xe:=E }
noncomputable abbrev Cx.nox(X:Cx):Cx:=X.wish fun _ _=>False
theorem Cx.Ok.wish{X:Cx}(ok:X.Ok)(E:ExcT):(X.wish E).Ok:=
 ⟨ok.mod,ok.kind,ok.glob,ok.blt,ok.above,ok.inj,ok.has,ok.cab,ok.hd,ok.frames,ok.stk,ok.exf,ok.bs,ok.bsz,ok.noex,ok.exfs,ok.funs,ok.frf⟩
theorem Cx.Ok.unwish{X:Cx}{E:ExcT}(ok:(X.wish E).Ok):X.Ok:=
 ⟨ok.mod,ok.kind,ok.glob,ok.blt,ok.above,ok.inj,ok.has,ok.cab,ok.hd,ok.frames,ok.stk,ok.exf,ok.bs,ok.bsz,ok.noex,ok.exfs,ok.funs,ok.frf⟩
section
variable{X:Cx}{pins:PinT}{σ:St}{H:Hp}{s:Shared}{E:ExcT}
theorem Inv.wish(I:Inv X pins σ H s)(E:ExcT):Inv (X.wish E) pins σ H s:=⟨I.ok.wish E,I.os,I.bare,I.base,I.loc,I.cell,I.free,I.freeC,I.pin,I.hok,I.len⟩
theorem Inv.unwish(I:Inv (X.wish E) pins σ H s):Inv X pins σ H s:=⟨I.ok.unwish,I.os,I.bare,I.base,I.loc,I.cell,I.free,I.freeC,I.pin,I.hok,I.len⟩
theorem SP.unwish{D:Ends}{f:Flow}{s':Shared}(h:SP (X.wish E) pins D f s'):SP X pins D f s':=by
 cases f with
 |next=>obtain⟨σ',H',I,q⟩:=h;exact⟨σ',H',I.unwish,q⟩
 |brk=>obtain⟨σ',H',I,q⟩:=h;exact⟨σ',H',I.unwish,q⟩
 |cont=>obtain⟨σ',H',I,q⟩:=h;exact⟨σ',H',I.unwish,q⟩
 |ret u=>obtain⟨v,σ',H',I,r,q⟩:=h;exact⟨v,σ',H',I.unwish,r,q⟩
theorem PSs.nox{st:List Stmt}{t:TS}(h:PSs X.nox st t):PSs X st t:=fun pins s σ H D I hw=>
 wpAny_mono (h pins s σ H D (I.wish _) hw) (fun _ _ q=>q.unwish) fun _ _ z=>False.elim z
end
section
variable{X:Cx}{st:Stmt}{rest:List Stmt}{t u:TS}{e:Expr}{te:TE}{pos:Pos}
noncomputable def tNext:TS:=fun D σ H=>D.nx σ H
noncomputable def tSeq(t u:TS):TS:=fun D σ H=>t { D with nx:=u D } σ H
theorem pss_nil:PSs X [] tNext:=fun _ _ σ H _ I h=>wpAny_execs_nil ⟨σ,H,I,h⟩
theorem pss_cons(h1:PS X st t)(h2:PSs X rest u):PSs X (st::rest) (tSeq t u):=by
 intro pins s σ H D I h
 refine wpAny_execs_cons (thn (h1 pins s σ H { D with nx:=u D } I h) fun f s1 q=>?_)
 cases f with
 |next=>
  obtain⟨σ',H',I',q⟩:=q
  exact h2 pins s1 σ' H' D I' q
 |ret v=>exact q
 |brk=>exact q
 |cont=>exact q
theorem pss_one(h1:PS X st t):PSs X [st] t:=by
 intro pins s σ H D I h
 refine wpAny_execs_cons (thn (h1 pins s σ H D I h) fun f s1 q=>?_)
 cases f with
 |next=>exact wpAny_execs_nil q
 |ret v=>exact q
 |brk=>exact q
 |cont=>exact q
theorem ps_pass:PS X (.Pass pos) tNext:=fun _ _ σ H _ I h=>wpAny_Pass ⟨σ,H,I,h⟩
theorem Inv.quiet{pins:PinT}{σ:St}{H:Hp}{s:Shared}(I:Inv X pins σ H s):interactive X.env=false:=by simp[interactive,I.ok.kind]
noncomputable def tDrop(te:TE):TS:=fun D σ H=>te σ H fun _ H1=>D.nx σ H1
theorem ps_expr(he:PE X e te)(hs:swapsWith e none pos.line X.env=pure false:=by rfl):PS X (.Expr e pos) (tDrop te):=by
 intro pins s σ H D I h
 exact wpAny_Expr_any (thn (he pins s σ H _ I h) fun v s1 ⟨x,H1,I1,r1,q1⟩=>⟨σ,H1,I1,q1⟩) I.quiet hs
noncomputable def tRet(te:TE):TS:=fun D σ H=>te σ H D.rt
theorem ps_ret(he:PE X e te):PS X (.Return (some e) pos) (tRet te):=by
 intro pins s σ H D I h
 exact wpAny_Return_some (thn (he pins s σ H _ I h) fun v s1 ⟨x,H1,I1,r1,q1⟩=>⟨x,σ,H1,I1,r1,q1⟩)
noncomputable def tIfS(c:TT)(t u:TS):TS:=fun D σ H=>c σ H fun b H1=>if b=true then t D σ H1 else u D σ H1
theorem ps_if{c:Expr}{a b:List Stmt}{tc:TT}(hc:PT X c tc)(ha:PSs X a t)(hb:PSs X b u):PS X (.If c a b pos) (tIfS tc t u):=by
 intro pins s σ H D I h
 refine wpAny_If (thn (hc pins s σ H _ I h) fun d s1 ⟨H1,I1,q1⟩=>?_)
 cases d with
 |true=>exact ha pins s1 σ H1 D I1 q1
 |false=>exact hb pins s1 σ H1 D I1 q1
end
noncomputable abbrev TG:=V→St→Hp→(St→Hp→Prop)→Prop
noncomputable abbrev TGs:=List V→St→Hp→(St→Hp→Prop)→Prop
def PG(X:Cx)(target:Expr)(t:TG):Prop:=
 ∀(pins:PinT)(s:Shared)(σ:St)(H:Hp)(v:V)(u:Value)(Q:St→Hp→Prop),Inv X pins σ H s→RelV v u→t v σ H Q→
  wpAny (model X.prog X.w) X.A (assign target X.env u) (fun _ s'=>∃σ' H',Inv X pins σ' H' s'∧Q σ' H') X.xe s
def PGs(X:Cx)(ts:List Expr)(t:TGs):Prop:=
 ∀(pins:PinT)(s:Shared)(σ:St)(H:Hp)(vs:List V)(us:List Value)(Q:St→Hp→Prop),Inv X pins σ H s→Vals vs us→t vs σ H Q→
  wpAny (model X.prog X.w) X.A (assignInOrder ((assignEach ts X.env).map (·.2)) us) (fun _ s'=>∃σ' H',Inv X pins σ' H' s'∧Q σ' H') X.xe s
section
variable{X:Cx}{pos:Pos}
noncomputable def gName(i:Nat):TG:=fun v σ H Q=>Q (σ.set i (some v)) H
theorem pg_name{i:Nat}{x:Str}(hN:X.N.Nodup)(hi:X.N[i]? = some x)(hx:Loc X.env.scope x)(hf:X.fn x=true∨X.env.scope.names.lookup x=some .local:=by first | exact .inl rfl | exact .inr rfl | assumption):PG X (.Name x pos) (gName i):=by
 intro pins s σ H v u Q I r h
 exact wpAny_assign_Name (store_ok I hN hi hx r (fun s' I'=>⟨_,H,I',h⟩) hf)
noncomputable def gNil:TGs:=fun vs σ H Q=>vs=[]∧Q σ H
noncomputable def gCons(t:TG)(u:TGs):TGs:=fun vs σ H Q=>∃v r,vs=v::r∧t v σ H fun σ' H'=>u r σ' H' Q
theorem pgs_nil:PGs X [] gNil:=by
 intro pins s σ H vs us Q I r h
 obtain⟨e,h⟩:=h
 subst e
 cases r
 exact assignInOrder_nil ⟨σ,H,I,h⟩
theorem pgs_cons{e:Expr}{es:List Expr}{t:TG}{u:TGs}(h1:PG X e t)(h2:PGs X es u)
  (hs:(assignEach (e::es) X.env).map (·.2)=assign e X.env::(assignEach es X.env).map (·.2):=by rfl):PGs X (e::es) (gCons t u):=by
 intro pins s σ H vs us Q I r h
 obtain⟨v,vr,e1,h⟩:=h
 subst e1
 cases r with
 |cons r rr=>
  rw[hs]
  refine assignInOrder_cons (thn (h1 pins s σ H _ _ _ I r h) fun _ s1 ⟨σ1,H1,I1,q1⟩=>?_)
  exact h2 pins s1 σ1 H1 _ _ Q I1 rr q1
noncomputable def gTup(K:FrgT)(n:Nat)(t:TGs):TG:=fun v σ H Q=>∃a xs,v=.ref a∧SqT K H a xs∧xs.length=n∧t xs σ H Q
theorem pg_tup{es:List Expr}{k:Nat}{t:TGs}{n:Nat}(hc:X.calm=true)(h:PGs X es t)
  (hn:(assignEach es X.env).length=n:=by rfl) (hst:(assignEach es X.env).findIdx? (·.1)=none:=by rfl):PG X (.Tuple es k pos) (gTup X.K n t):=by
 intro pins s σ H v u Q I r hw
 obtain⟨a,xs,e1,hq,hl,hw⟩:=hw
 subst e1
 cases r
 obtain⟨its,rv,ht,hz⟩:=I.tuple hq
 refine assign_Tuple_tuple (I.ok.hd hc) ht (by simp[hn,←hl,rv.length]) hst fun h' hx=>?_
 have I1:Inv X pins σ H { s with heap:=h' }:=I.kept (t':=s.toks) fun b o e=>hx b o (Nat.ne_of_lt (Heap.lt_size e)) e
 exact h pins _ σ H xs _ Q I1 (by simpa using rv) hw
noncomputable def tAsg(te:TE)(g:TG):TS:=fun D σ H=>te σ H fun x H1=>g x σ H1 D.nx
theorem ps_asg{tg e:Expr}{te:TE}{g:TG}(he:PE X e te)(hg:PG X tg g)(hs:swapsWithSole [tg] e pos.line X.env=pure false:=by rfl)(hw:swappedStores [tg] e X.env=pure none:=by rfl)
  (h1:(assignEach [tg] X.env).map (·.2)=[assign tg X.env]:=by rfl):PS X (.Assign [tg] e pos) (tAsg te g):=by
 intro pins s σ H D I h
 refine wpAny_Assign_stores (thn (he pins s σ H _ I h) fun v s1 ⟨x,H1,I1,r1,q1⟩=>?_) hs hw
 rw[h1]
 exact thn (hg pins s1 σ H1 x v _ I1 r1 q1) fun _ s2 q=>q
theorem ps_set{i:Nat}{x:Str}{e:Expr}{te:TE}{pos':Pos}(hN:X.N.Nodup)(hi:X.N[i]? = some x)(hx:Loc X.env.scope x)(he:PE X e te)(hs:swapsWith e (some (.Name x pos')) pos.line X.env=pure false:=by rfl)(hf:X.fn x=true∨X.env.scope.names.lookup x=some .local:=by first | exact .inl rfl | exact .inr rfl | assumption) :
  PS X (.Assign [.Name x pos'] e pos) (tAsg te (gName i)):=by
 intro pins s σ H D I h
 refine wpAny_Assign_Name (thn (he pins s σ H _ I h) fun v s1 ⟨y,H1,I1,r1,q1⟩=>?_) hs
 exact store_ok I1 hN hi hx r1 (fun s2 I2=>⟨_,H1,I2,q1⟩) hf
end
structure It where
 go:Nat→Hp→Prop
 yld:Nat→Hp→V→Hp→Prop
 stop:Nat→Hp→Prop
def FpOk(X:Cx)(pins:PinT)(H:Hp)(b:Addr):Prop:=
 H b=none∧b≠X.env.locals∧b∉X.fs∧(b∈X.ex∨X.s₀.heap.objs.size≤b)∧(∀x c,X.env.cells.lookup x=some c→c≠b)∧∀p∈X.pn++pins,p.1≠b
theorem Inv.fpOk{X:Cx}{pins:PinT}{σ:St}{H H':Hp}{s:Shared}{b:Addr}(I:Inv X pins σ H s)(hb:s.heap.objs.size≤b)(hn:H' b=none):FpOk X pins H' b:=by
 refine⟨hn,Nat.ne_of_gt (Nat.lt_of_lt_of_le I.lt hb),I.nofs hb,.inr (Nat.le_trans I.sz hb),fun x c e z=>?_,fun p hp z=>?_⟩
 ·obtain⟨v,q⟩:=I.cell x c e
  exact absurd (Nat.lt_of_lt_of_le q.lt (by rw[z];exact hb)) (Nat.lt_irrefl _)
 ·exact absurd (Nat.lt_of_lt_of_le (Heap.lt_size (I.pin p hp).1) (by rw[z];exact hb)) (Nat.lt_irrefl _)
structure Turn(P:Program)(w:World)(K:FrgT)(tg:Expr)(J:It)(fp:List Addr)(it:Addr)(tn:Nat→Heap→Prop):Prop where
 mem:it∈fp
 obj:∀i h,tn i h→∀b∈fp,∃o,h.get? b=some o∧∀v,o.data≠.cell v
 keep:∀i h h',tn i h→(∀b∈fp,∀o,h.get? b=some o→h'.get? b=some o)→tn i h'
 item:∀(X:Cx),X.prog=P→X.w=w→X.K=K→X.calm=true→∀(i:Nat)(pins:PinT)(s:Shared)(σ:St)(H:Hp)(E:ExcT),Inv X pins σ H s→(∀b∈fp,FpOk X pins H b)→tn i s.heap→J.go i H→
  wpAny (model P w) X.A (pyNext (.ref it)) (fun r s1=>∃u,r=some u∧
   wpAny (model P w) X.A (letOwnedTupleGo tg (.ref it) u) (fun _ s2=>∃x H',Inv X pins σ H' s2∧RelV x u∧J.yld i H x H'∧tn (i+1) s2.heap∧∀b∈fp,H' b=none) E s1) E s
 done:∀(X:Cx),X.prog=P→X.w=w→X.K=K→X.calm=true→∀(i:Nat)(pins:PinT)(s:Shared)(σ:St)(H:Hp)(E:ExcT),Inv X pins σ H s→(∀b∈fp,FpOk X pins H b)→tn i s.heap→J.stop i H→
  wpAny (model P w) X.A (pyNext (.ref it)) (fun r s1=>r=none∧Inv X pins σ H s1) E s
 self:∀(A:Around)(i:Nat)(s:Shared)(Q:ExcT)(E:ExcT),tn i s.heap→Q (.ref it) s→wpAny (model P w) A (pyIter (.ref it)) Q E s
noncomputable abbrev TI:=St→Hp→(It→Hp→Prop)→Prop
def PIE(X:Cx)(pins:PinT)(σ:St)(tg:Expr)(R:It→Hp→Prop)(itv:Value)(s2:Shared):Prop:=
 ∃(it:Addr)(fp:List Addr)(tn:Nat→Heap→Prop)(J:It)(H':Hp),itv=.ref it∧Inv X pins σ H' s2∧Turn X.prog X.w X.K tg J fp it tn∧tn 0 s2.heap∧(∀b∈fp,FpOk X pins H' b)∧R J H'
def PI(X:Cx)(tg iter:Expr)(wi:TI):Prop:=
 ∀(pins:PinT)(s:Shared)(σ:St)(H:Hp)(R:It→Hp→Prop),Inv X pins σ H s→wi σ H R→
  wpAny (model X.prog X.w) X.A (eval iter X.env) (fun v s1=>wpAny (model X.prog X.w) X.A (pyIter v) (PIE X pins σ tg R) X.xe s1) X.xe s
theorem go_of{M:Model}{A:Around}{E:ExcT}{s:Shared}{tg:Expr}{it:Addr}{u:Value}{o:Obj}{n:String}{vs:Array Value}{Q:Unit→Shared→Prop}(ho:s.heap.get? it=some o)(hc:o.cls=.type n)(hd:o.data=.fields vs)
    (hn:["enumerate","zip","dict_itemiterator","dict_reverseitemiterator","odict_iterator","itertools.zip_longest","itertools.pairwise"].contains n=false) (hQ:Q () s):wpAny M A (letOwnedTupleGo tg (.ref it) u) Q E s:=by
  unfold letOwnedTupleGo
  cases tg<;>first
    |exact wpAny_pure hQ
    | (cases u<;>first
        |exact wpAny_pure hQ
        | (refine wpAny_bind (wpAny_load ho ?_)
           rw[hc,hd]
           show wpAny M A (if(["enumerate","zip","dict_itemiterator","dict_reverseitemiterator","odict_iterator","itertools.zip_longest","itertools.pairwise"].contains n&&vs[0]? == some (rawInt _))=true then _ else _) Q E s
           rw[if_neg (by intro h;rw[hn,Bool.false_and]at h;cases h)]
           exact wpAny_pure hQ))
noncomputable def Itl(K:FrgT)(a:Addr):It:=
 ⟨fun i H=>∃xs x,SqL K H a xs∧xs[i]? = some x,fun i H x H'=>H'=H∧∀xs,SqL K H a xs→xs[i]? = some x,fun i H=>∃xs,SqL K H a xs∧xs.length≤i⟩
noncomputable def Itt(K:FrgT)(a:Addr):It:=
 ⟨fun i H=>∃xs x,SqT K H a xs∧xs[i]? = some x,fun i H x H'=>H'=H∧∀xs,SqT K H a xs→xs[i]? = some x,fun i H=>∃xs,SqT K H a xs∧xs.length≤i⟩
noncomputable def Itr(lo:Int)(n:Nat):It:=⟨fun i _=>i<n,fun i H x H'=>H'=H∧x=.int (lo+i),fun i _=>n≤i⟩
theorem turn_list{P:Program}{w:World}{K:FrgT}{tg:Expr}(a it:Addr):Turn P w K tg (Itl K a) [it] it (fun i h=>h.IsListIter it a i) where
 mem:=by simp
 obj:=fun i h st b hb=>by
  have e:b=it:=by simpa using hb
  subst e
  obtain⟨o,e,c,d⟩:=st
  exact⟨o,e,fun v z=>by rw[d]at z;cases z⟩
 keep:=fun i h h' st k=>st.at fun o e=>k it (by simp) o e
 item:=by
  intro X hP hw hK hc i pins s σ H E I hf st hg
  subst hP hw hK
  obtain⟨xs,x,hq,hx⟩:=hg
  obtain⟨its,rv,p,hz⟩:=I.list hq
  obtain⟨u,hu,ru⟩:=rv.get hx
  obtain⟨f0,f1,f2,f3,f4,f5⟩:=hf it (by simp)
  refine wpAny_pyNext_list_item st p.isList (x:=u) (by simpa using hu) fun h' st' sb=>?_
  have I1:Inv X pins σ H { s with heap:=h' }:=I.turned (t':=s.toks) (fun b o hb e=>(sb.2 b hb).trans e) f0 f1 f3 f4 f5
  obtain⟨o,e,c,d⟩:=id st'
  exact⟨u,rfl,go_of (s:={ s with heap:=h' }) e c d (by decide) ⟨x,H,I1,ru,⟨rfl,fun ys hy=>by rw[I.list_inj hy hq];exact hx⟩,st',fun b hb=>(hf b hb).1⟩⟩
 done:=by
  intro X hP hw hK hc i pins s σ H E I hf st hg
  subst hP hw hK
  obtain⟨xs,hq,hx⟩:=hg
  obtain⟨its,rv,p,hz⟩:=I.list hq
  obtain⟨f0,f1,f2,f3,f4,f5⟩:=hf it (by simp)
  have hl:=rv.length
  exact wpAny_pyNext_list_end (I.ok.hd hc) st p.isList (by simp;omega) fun h' eb=>⟨rfl,I.turned (t':=s.toks) (fun b o hb e=>eb b o hb e) f0 f1 f3 f4 f5⟩
 self:=fun _ _ _ _ _ st h=>wpAny_pyIter_listiter st h
theorem turn_tuple{P:Program}{w:World}{K:FrgT}{tg:Expr}(a it:Addr):Turn P w K tg (Itt K a) [it] it (fun i h=>h.IsTupleIter it a i) where
 mem:=by simp
 obj:=fun i h st b hb=>by
  have e:b=it:=by simpa using hb
  subst e
  obtain⟨o,e,c,d⟩:=st
  exact⟨o,e,fun v z=>by rw[d]at z;cases z⟩
 keep:=fun i h h' st k=>st.at fun o e=>k it (by simp) o e
 item:=by
  intro X hP hw hK hc i pins s σ H E I hf st hg
  subst hP hw hK
  obtain⟨xs,x,hq,hx⟩:=hg
  obtain⟨its,rv,p,hz⟩:=I.tuple hq
  obtain⟨u,hu,ru⟩:=rv.get hx
  obtain⟨f0,f1,f2,f3,f4,f5⟩:=hf it (by simp)
  refine wpAny_pyNext_tuple_item st (show s.heap.IsTuple a its.toArray from p) (x:=u) (by simpa using hu) fun h' st' sb=>?_
  have I1:Inv X pins σ H { s with heap:=h' }:=I.turned (t':=s.toks) (fun b o hb e=>(sb.2 b hb).trans e) f0 f1 f3 f4 f5
  obtain⟨o,e,c,d⟩:=id st'
  exact⟨u,rfl,go_of (s:={ s with heap:=h' }) e c d (by decide) ⟨x,H,I1,ru,⟨rfl,fun ys hy=>by rw[I.tuple_inj hy hq];exact hx⟩,st',fun b hb=>(hf b hb).1⟩⟩
 done:=by
  intro X hP hw hK hc i pins s σ H E I hf st hg
  subst hP hw hK
  obtain⟨xs,hq,hx⟩:=hg
  obtain⟨its,rv,p,hz⟩:=I.tuple hq
  obtain⟨f0,f1,f2,f3,f4,f5⟩:=hf it (by simp)
  have hl:=rv.length
  exact wpAny_pyNext_tuple_end (I.ok.hd hc) st (show s.heap.IsTuple a its.toArray from p) (by simp;omega) fun h' eb=>⟨rfl,I.turned (t':=s.toks) (fun b o hb e=>eb b o hb e) f0 f1 f3 f4 f5⟩
 self:=fun _ _ _ _ _ st h=>wpAny_pyIter_tupleiter st h
theorem turn_range{P:Program}{w:World}{K:FrgT}{tg:Expr}(it:Addr)(lo:Int)(n:Nat):Turn P w K tg (Itr lo n) [it] it (fun i h=>IsRangeIter h it (lo+(i:Nat)*1) ((n:Int)-(i:Nat)) 1) where
 mem:=by simp
 obj:=fun i h st b hb=>by
  have e:b=it:=by simpa using hb
  subst e
  exact⟨_,st,fun v z=>by
   have z':Data.fields _=Data.cell v:=z
   cases z'⟩
 keep:=fun i h h' st k=>k it (by simp) _ st
 item:=by
  intro X hP hw hK hc i pins s σ H E I hf st hg
  subst hP hw hK
  obtain⟨f0,f1,f2,f3,f4,f5⟩:=hf it (by simp)
  have W:=Walks.range (prog:=X.prog) (w:=X.w) (I.ok.hd hc) it lo 1 n
  refine W.item i s _ _ hg st fun v h' tk hv st' kk=>?_
  obtain⟨t,rfl⟩:=hv
  have I1:Inv X pins σ H { s with heap:=h',toks:=tk }:=I.turned (fun b o hb e=>kk b o (by simpa using hb) e) f0 f1 f3 f4 f5
  refine⟨_,rfl,go_of (s:={ s with heap:=h',toks:=tk }) (n:="range_iterator") st' rfl rfl (by decide) ⟨.int (lo+i),H,I1,⟨t,?_⟩,⟨rfl,rfl⟩,st',fun b hb=>(hf b hb).1⟩⟩
  rw[Int.mul_one]
 done:=by
  intro X hP hw hK hc i pins s σ H E I hf st hg
  subst hP hw hK
  obtain⟨f0,f1,f2,f3,f4,f5⟩:=hf it (by simp)
  exact wpAny_pyNext_range_end (I.ok.hd hc) st (by have:n≤i:=hg;omega) fun h' eb=>⟨rfl,I.turned (t':=s.toks) (fun b o hb e=>eb b o hb e) f0 f1 f3 f4 f5⟩
 self:=fun _ _ _ _ _ st h=>wpAny_pyIter_rangeiter st h
section
variable{X:Cx}{tg:Expr}
noncomputable def iList(K:FrgT)(tl:TE):TI:=fun σ H R=>tl σ H fun x H1=>∃a,x=.ref a∧(∃xs,SqL K H1 a xs)∧R (Itl K a) H1
noncomputable def iTup(K:FrgT)(tl:TE):TI:=fun σ H R=>tl σ H fun x H1=>∃a,x=.ref a∧(∃xs,SqT K H1 a xs)∧R (Itt K a) H1
theorem pi_list{l:Expr}{tl:TE}(hl:PE X l tl):PI X tg l (iList X.K tl):=by
 intro pins s σ H R I h
 refine thn (hl pins s σ H _ I h) fun v s1 ⟨x,H1,I1,r1,q1⟩=>?_
 obtain⟨a,e,⟨xs,hq⟩,q⟩:=q1
 subst e
 cases r1
 obtain⟨its,rv,p,hz⟩:=I1.list hq
 refine wpAny_pyIter_list p.isList ?_
 refine⟨s1.heap.objs.size,[s1.heap.objs.size],_,_,H1,rfl,I1.kept (t':=s1.toks) fun b o e=>Heap.get?_push_of_some _ e,turn_list a _,⟨_,Heap.get?_push_size _ rfl,rfl,rfl⟩,fun b hb=>?_,q⟩
 have e:b=s1.heap.objs.size:=by simpa using hb
 subst e
 exact I1.fpOk (Nat.le_refl _) (I1.hok.fresh (Nat.le_refl _))
theorem pi_tup{l:Expr}{tl:TE}(hl:PE X l tl):PI X tg l (iTup X.K tl):=by
 intro pins s σ H R I h
 refine thn (hl pins s σ H _ I h) fun v s1 ⟨x,H1,I1,r1,q1⟩=>?_
 obtain⟨a,e,⟨xs,hq⟩,q⟩:=q1
 subst e
 cases r1
 obtain⟨its,rv,p,hz⟩:=I1.tuple hq
 refine wpAny_pyIter_tuple (show s1.heap.IsTuple a its.toArray from p) ?_
 refine⟨s1.heap.objs.size,[s1.heap.objs.size],_,_,H1,rfl,I1.kept (t':=s1.toks) fun b o e=>Heap.get?_push_of_some _ e,turn_tuple a _,⟨_,Heap.get?_push_size _ rfl,rfl,rfl⟩,fun b hb=>?_,q⟩
 have e:b=s1.heap.objs.size:=by simpa using hb
 subst e
 exact I1.fpOk (Nat.le_refl _) (I1.hok.fresh (Nat.le_refl _))
theorem range_it{pins:PinT}{σ:St}{H:Hp}{s:Shared}{R:It→Hp→Prop}{E:ExcT}{lo hi:Int}{t u v:Tok}{tk:Nat}(I:Inv X pins σ H s)(h1:-(2 ^ 62)≤lo)(h2:lo<2 ^ 62)(h3:-(2 ^ 62)≤hi)(h4:hi<2 ^ 62)
  (q:R (Itr lo (hi-lo).toNat) H):wpAny (model X.prog X.w) X.A (pyIter (.ref s.heap.objs.size)) (PIE X pins σ tg R) E { s with heap:=s.heap.push { cls:=.type "range",data:=.fields #[.int lo t,.int hi u,.int 1 v] },toks:=tk }:=by
 refine wpAny_pyIter_range (IsRange.new ..) (small_one h1 h2 h3 h4) ?_
 have I1:Inv X pins σ H { s with heap:=s.heap.push { cls:=.type "range",data:=.fields #[.int lo t,.int hi u,.int 1 v] },toks:=tk }:=I.kept fun b o e=>Heap.get?_push_of_some _ e
 refine⟨(s.heap.push { cls:=.type "range",data:=.fields #[.int lo t,.int hi u,.int 1 v] }).objs.size,[(s.heap.push { cls:=.type "range",data:=.fields #[.int lo t,.int hi u,.int 1 v] }).objs.size],_,_,H,rfl,
  I1.kept (t':=tk) fun b o e=>Heap.get?_push_of_some _ e,turn_range _ lo (hi-lo).toNat,?_,fun b hb=>?_,q⟩
 ·have e1:lo+((0:Nat):Int)*1=lo:=by simp
  have e2:(((hi-lo).toNat:Nat):Int)-((0:Nat):Int)=Builtin.Range.rangeSize lo hi 1:=by rw[rangeSize_one];split<;>omega
  show IsRangeIter _ _ (lo+((0:Nat):Int)*1) ((((hi-lo).toNat:Nat):Int)-((0:Nat):Int)) 1
  rw[e1,e2]
  exact Heap.get?_push_size _ rfl
 ·have e:b=(s.heap.push { cls:=.type "range",data:=.fields #[.int lo t,.int hi u,.int 1 v] }).objs.size:=by simpa using hb
  subst e
  exact I1.fpOk (Nat.le_refl _) (I1.hok.fresh (Nat.le_refl _))
noncomputable def iRng1(ta:TA):TI:=fun σ H R=>ta σ H fun vs H1=>∃j:Int,vs=[.int j]∧-(2 ^ 62)≤j∧j<2 ^ 62∧R (Itr 0 j.toNat) H1
theorem pi_range1{a:Expr}{ta:TA}{p pos:Pos}(hg:Gl X "range")(hm:X.mg "range"=none)(ha:PA X [a] ta)(hs:starEach [a] X.env=[(false,eval a X.env)]:=by rfl):PI X tg (.Call (.Name "range" p) [a] [] pos) (iRng1 ta):=by
 intro pins s σ H R I h
 refine Call_ (ld_blt I hg hm boot_range (PyProof.Rows.callWith_type1 (thn (ha pos pins s σ H _ I h) fun us s1 ⟨vs,H1,I1,r1,q1⟩=>?_) hs rfl))
 obtain⟨j,e,q1,q2,q⟩:=q1
 subst e
 cases r1 with
 |cons r rr=>
  cases rr
  obtain⟨t,rfl⟩:=r
  exact call_range_1 (range_it I1 (by omega) (by omega) q1 q2 (by simpa using q))
noncomputable def tFor(wi:TI)(g:TG)(tb:TS):TS:=fun D σ H=>wi σ H fun J H1=>∃W:Nat→Nat→St→Hp→Prop,(∃m,W 0 m σ H1)∧∀i m σ H,W i m σ H→
 (J.stop i H∧D.nx σ H)∨(J.go i H∧∃N:St→Hp→Prop,(∀σ' H',N σ' H'→∃m',m'<m∧W (i+1) m' σ' H')∧∀x H',J.yld i H x H'→g x σ H' fun σ2 H2=>tb { D with nx:=N,ct:=N,bk:=D.nx } σ2 H2)
noncomputable def pinsAt(fp:List Addr)(h:Heap):List (Addr×Obj):=fp.filterMap fun b=>(h.get? b).map fun o=>(b,o)
theorem mem_pinsAt{fp:List Addr}{h:Heap}{b:Addr}{o:Obj}(hb:b∈fp)(e:h.get? b=some o):(b,o)∈pinsAt fp h:=List.mem_filterMap.mpr ⟨b,hb,by rw[e];rfl⟩
theorem of_pinsAt{fp:List Addr}{h:Heap}{p:Addr×Obj}(hp:p∈pinsAt fp h):p.1∈fp∧h.get? p.1=some p.2:=by
 obtain⟨b,hb,e⟩:=List.mem_filterMap.mp hp
 cases q:h.get? b with
 |none=>rw[q]at e;cases e
 |some o=>
  rw[q]at e
  have e':(b,o)=p:=Option.some.inj e
  subst e'
  exact⟨hb,q⟩
theorem Inv.pinned{pins:PinT}{σ:St}{H:Hp}{s:Shared}{fp:List Addr}(I:Inv X pins σ H s)(hf:∀b∈fp,FpOk X pins H b)(ho:∀b∈fp,∃o,s.heap.get? b=some o∧∀v,o.data≠.cell v):Inv X (pins++pinsAt fp s.heap) σ H s:=
 I.pins_of fun p hp=>(List.mem_append.mp hp).elim (fun z=>I.pin p (List.mem_append_right _ z)) fun z=>by
  obtain⟨hb,e⟩:=of_pinsAt z
  obtain⟨f0,f1,f2,_⟩:=hf p.1 hb
  obtain⟨o,e',d⟩:=ho p.1 hb
  rw[e]at e';cases e'
  exact⟨e,f0,f1,f2,d⟩
theorem Inv.unpinned{pins pl:PinT}{σ:St}{H:Hp}{s:Shared}(I:Inv X (pins++pl) σ H s):Inv X pins σ H s:=I.pins_of fun p hp=>I.pin p (List.mem_append_right _ (List.mem_append_left _ hp))
theorem ps_for{iter:Expr}{body:List Stmt}{wi:TI}{g:TG}{tb:TS}{pos:Pos}(hp:PassesOwn (model X.prog X.w) X.A X.env X.xe)(hc:X.calm=true)(hi:PI X tg iter wi)(hg:PG X tg g)(hb:PSs X body tb)
  (hs:∀x,foldedSetIterable iter X.env x=pure x:=by intro _;rfl):PS X (.For tg iter body [] pos) (tFor wi g tb):=by
 intro pins s σ H D I h
 refine wpAny_For (thn (hi pins s σ H _ I h) fun v s1 h1=>thn h1 fun itv s2 h2=>?_) hs
 obtain⟨it,fp,tn,J,H2,e,I2,T,st2,f2,W,⟨m0,w0⟩,turn⟩:=h2
 subst e
 have stat:∀{H':Hp},(∀b∈fp,H' b=none)→∀b∈fp,FpOk X pins H' b:=fun hn b hb=>⟨hn b hb,(f2 b hb).2⟩
 refine codeAny_forLoop_any (fun n s'=>∃i σ' H',Inv X pins σ' H' s'∧tn i s'.heap∧(∀b∈fp,H' b=none)∧W i n σ' H') ?_ m0 ⟨0,σ,H2,I2,st2,fun b hb=>(f2 b hb).1,w0⟩
 rintro n s3 ⟨i,σ3,H3,I3,st3,fr3,w3⟩
 rcases turn i n σ3 H3 w3 with⟨stop,qn⟩ | ⟨go,N,hN,step⟩
 ·refine wpAny_passesOwn hp (thn (T.done X rfl rfl rfl hc i pins s3 σ3 H3 X.xe I3 (stat fr3) st3 stop) fun r s4 ⟨hr,I4⟩=>?_)
  subst hr
  exact wpAny_execs_nil ⟨σ3,H3,I4,qn⟩
 ·refine wpAny_passesOwn hp (thn (T.item X rfl rfl rfl hc i pins s3 σ3 H3 X.xe I3 (stat fr3) st3 go) fun r s4 ⟨u,hr,h4⟩=>?_)
  subst hr
  refine wpAny_passesOwn hp (thn h4 fun _ s5 ⟨x,H5,I5,r5,y5,st5,fr5⟩=>?_)
  have I5':=I5.pinned (stat fr5) (T.obj _ _ st5)
  refine wpAny_passesOwn hp (thn (hg _ s5 σ3 H5 x u _ I5' r5 (step x H5 y5)) fun _ s6 ⟨σ6,H6,I6,q6⟩=>?_)
  refine wpAny_passesOwn hp (thn (hb _ s6 σ6 H6 _ I6 q6) fun f s7 q7=>?_)
  have again:∀{σ7:St}{H7:Hp},Inv X (pins++pinsAt fp s5.heap) σ7 H7 s7→N σ7 H7→∃m,m<n∧∃i σ' H',Inv X pins σ' H' s7∧tn i s7.heap∧(∀b∈fp,H' b=none)∧W i m σ' H':=fun{σ7 H7} I7 n7=>by
   obtain⟨m',hm,w7⟩:=hN σ7 H7 n7
   refine⟨m',hm,i+1,σ7,H7,I7.unpinned,T.keep _ _ _ st5 fun b hb o e=>(I7.pin (b,o) (List.mem_append_right _ (List.mem_append_right _ (mem_pinsAt hb e)))).1,fun b hb=>?_,w7⟩
   obtain⟨o,e,d⟩:=T.obj _ _ st5 b hb
   exact(I7.pin (b,o) (List.mem_append_right _ (List.mem_append_right _ (mem_pinsAt hb e)))).2.1
  cases f with
  |next=>obtain⟨σ7,H7,I7,n7⟩:=q7;exact again I7 n7
  |cont=>obtain⟨σ7,H7,I7,n7⟩:=q7;exact again I7 n7
  |brk=>obtain⟨σ7,H7,I7,q7⟩:=q7;exact⟨σ7,H7,I7.unpinned,q7⟩
  |ret v=>obtain⟨x7,σ7,H7,I7,r7,q7⟩:=q7;exact⟨x7,σ7,H7,I7.unpinned,r7,q7⟩
end
noncomputable abbrev R2:=V→V→Hp→VK→Prop
def OpR(X:Cx)(f:Value→Value→Sem Value)(r:R2):Prop:=
 ∀(pins:PinT)(s:Shared)(σ:St)(H:Hp)(x y:V)(v u:Value)(Q:VK),Inv X pins σ H s→RelV x v→RelV y u→r x y H Q→
  wpAny (model X.prog X.w) X.A (f v u) (EP X pins σ Q) X.xe s
def UnR(X:Cx)(f:Value→Sem Value)(r:V→Hp→VK→Prop):Prop:=
 ∀(pins:PinT)(s:Shared)(σ:St)(H:Hp)(x:V)(v:Value)(Q:VK),Inv X pins σ H s→RelV x v→r x H Q→
  wpAny (model X.prog X.w) X.A (f v) (EP X pins σ Q) X.xe s
def CallR(X:Cx)(f:Value)(r:List V→Hp→VK→Prop):Prop:=
 ∀(pins:PinT)(s:Shared)(σ:St)(H:Hp)(xs:List V)(us:List Value)(Q:VK),Inv X pins σ H s→Vals xs us→r xs H Q→
  wpAny (model X.prog X.w) X.A (call f us) (EP X pins σ Q) X.xe s
noncomputable def tOp(r:R2)(ta tb:TE):TE:=fun σ H Q=>ta σ H fun x H1=>tb σ H1 fun y H2=>r x y H2 Q
noncomputable def tUn(r:V→Hp→VK→Prop)(ta:TE):TE:=fun σ H Q=>ta σ H fun x H1=>r x H1 Q
noncomputable def rI(C:Int→Int→Prop)(g:Int→Int→V):R2:=fun x y H Q=>∃i j,x=.int i∧y=.int j∧C i j∧Q (g i j) H
noncomputable def rI0(g:Int→Int→V):R2:=fun x y H Q=>∃i j,x=.int i∧y=.int j∧Q (g i j) H
noncomputable def rU(g:Int→V):V→Hp→VK→Prop:=fun x H Q=>∃i,x=.int i∧Q (g i) H
section
variable{X:Cx}{a b c:Expr}{ta tb tc:TE}{pos:Pos}
theorem binT(ha:PE X a ta)(hb:PE X b tb){pins:PinT}{s:Shared}{σ:St}{H:Hp}{R:V→V→Hp→Prop}(I:Inv X pins σ H s)
  (h:ta σ H fun x H1=>tb σ H1 fun y H2=>R x y H2) {Q:ExcT}{f:Value→Value→Sem Value}
  (hf:∀v u s2 x y H2,Inv X pins σ H2 s2→RelV x v→RelV y u→R x y H2→wpAny (model X.prog X.w) X.A (f v u) Q X.xe s2) :
  wpAny (model X.prog X.w) X.A (eval a X.env) (fun v s₁=>wpAny (model X.prog X.w) X.A (eval b X.env) (fun u s₂=>wpAny (model X.prog X.w) X.A (f v u) Q X.xe s₂) X.xe s₁) X.xe s:=by
 refine thn (ha pins s σ H _ I h) fun v s1 ⟨x,H1,I1,r1,q1⟩=>?_
 refine thn (hb pins s1 σ H1 _ I1 q1) fun u s2 ⟨y,H2,I2,r2,q2⟩=>?_
 exact hf v u s2 x y H2 I2 r1 r2 q2
theorem pe_op{op:Operator}{r:R2}(ho:OpR X (binaryOp op) r)(ha:PE X a ta)(hb:PE X b tb):PE X (.BinOp a op b pos) (tOp r ta tb):=by
 intro pins s σ H Q I h
 exact wpAny_BinOp (binT ha hb I h fun v u s2 x y H2 I2 rx ry q=>ho pins s2 σ H2 x y v u Q I2 rx ry q)
theorem pe_un{op:UnaryOp}{r:V→Hp→VK→Prop}(ho:UnR X (unaryOp op) r)(ha:PE X a ta):PE X (.UnaryOp op a pos) (tUn r ta):=by
 intro pins s σ H Q I h
 exact UnaryOp_ (thn (ha pins s σ H _ I h) fun v s1 ⟨x,H1,I1,r1,q1⟩=>ho pins s1 σ H1 x v Q I1 r1 q1)
theorem opI{f:Value→Value→Sem Value}{C:Int→Int→Prop}{g:Int→Int→Int}
  (rule:∀(i j:Int)(t u:Tok)(s:Shared)(Q:ExcT)(E:ExcT),C i j→Q (.int (g i j) s.toks) { s with toks:=s.toks+1 }→wpAny (model X.prog X.w) X.A (f (.int i t) (.int j u)) Q E s) :
  OpR X f (rI C fun i j=>.int (g i j)):=by
 intro pins s σ H x y v u Q I rx ry h
 obtain⟨i,j,rfl,rfl,hc,q⟩:=h
 obtain⟨t,rfl⟩:=rx
 obtain⟨t',rfl⟩:=ry
 exact rule i j t t' s _ _ hc ⟨.int (g i j),H,I.tok _,⟨_,rfl⟩,q⟩
theorem opI0{f:Value→Value→Sem Value}{g:Int→Int→Int}
  (rule:∀(i j:Int)(t u:Tok)(s:Shared)(Q:ExcT)(E:ExcT),Q (.int (g i j) s.toks) { s with toks:=s.toks+1 }→wpAny (model X.prog X.w) X.A (f (.int i t) (.int j u)) Q E s) :
  OpR X f (rI0 fun i j=>.int (g i j)):=by
 intro pins s σ H x y v u Q I rx ry h
 obtain⟨i,j,rfl,rfl,q⟩:=h
 obtain⟨t,rfl⟩:=rx
 obtain⟨t',rfl⟩:=ry
 exact rule i j t t' s _ _ ⟨.int (g i j),H,I.tok _,⟨_,rfl⟩,q⟩
theorem opB0{f:Value→Value→Sem Value}{g:Int→Int→Bool}
  (rule:∀(i j:Int)(t u:Tok)(s:Shared)(Q:ExcT)(E:ExcT),Q (.bool (g i j)) s→wpAny (model X.prog X.w) X.A (f (.int i t) (.int j u)) Q E s) :
  OpR X f (rI0 fun i j=>.bl (g i j)):=by
 intro pins s σ H x y v u Q I rx ry h
 obtain⟨i,j,rfl,rfl,q⟩:=h
 obtain⟨t,rfl⟩:=rx
 obtain⟨t',rfl⟩:=ry
 exact rule i j t t' s _ _ ⟨.bl (g i j),H,I,rfl,q⟩
def CPow(i j:Int):Prop:=0≤j∧j≤1000000∧i.natAbs<2 ^ 64
def CMul(i j:Int):Prop:=(-(2 ^ 64)<i∧i<2 ^ 64)∨(-(2 ^ 64)<j∧j<2 ^ 64)
theorem CMul.ok{i j:Int}(h:CMul i j):IntMulOk i j:=by
 rcases h with⟨h1,h2⟩ | ⟨h1,h2⟩
 ·exact .of_left (intBits_le_64 h1 h2)
 ·exact .of_right (intBits_le_64 h1 h2)
theorem two_pow_nn(k:Nat):(0:Int)≤2 ^ k:=by
 rw[two_pow_cast]
 exact Int.natCast_nonneg _
theorem op_add:OpR X (binaryOp .Add) (rI0 fun i j=>.int (i+j)):=opI0 fun _ _ _ _ _ _ _ q=>add_int q
theorem op_sub:OpR X (binaryOp .Sub) (rI0 fun i j=>.int (i-j)):=opI0 fun _ _ _ _ _ _ _ q=>sub_int q
theorem op_mod:OpR X (binaryOp .Mod) (rI (fun _ j=>0<j) fun i j=>.int (i % j)):=opI fun i j _ _ _ _ _ hc q=>by
 have h1:(0:Int)<j:=hc
 exact mod_int' (by omega) (by rw[Int.fmod_eq_emod_of_nonneg i (by omega)];exact q)
theorem op_pow:OpR X (binaryOp .Pow) (rI CPow fun i j=>.int (i ^ j.toNat)):=opI fun _ _ _ _ _ _ _ hc q=>pow_int_small hc.1 hc.2.1 hc.2.2 q
theorem op_shl:OpR X (binaryOp .LShift) (rI CPow fun i j=>.int (i*2 ^ j.toNat)):=opI fun _ _ _ _ _ _ _ hc q=>lshift_int_small hc.1 hc.2.1 hc.2.2 q
theorem op_shr:OpR X (binaryOp .RShift) (rI (fun _ j=>0≤j) fun i j=>.int (i / 2 ^ j.toNat)):=opI fun i j _ _ _ _ _ hc q=>
 rshift_int hc (by rw[Int.fdiv_eq_ediv_of_nonneg i (two_pow_nn _)];exact q)
theorem op_and:OpR X (binaryOp .BitAnd) (rI0 fun i j=>.int (Builtin.bitAnd i j)):=opI0 fun _ _ _ _ _ _ _ q=>and_int q
theorem op_or:OpR X (binaryOp .BitOr) (rI0 fun i j=>.int (Builtin.bitOr i j)):=opI0 fun _ _ _ _ _ _ _ q=>or_int q
theorem unI{f:Value→Sem Value}{g:Int→Int}
  (rule:∀(i:Int)(t:Tok)(s:Shared)(Q:ExcT)(E:ExcT),Q (.int (g i) s.toks) { s with toks:=s.toks+1 }→wpAny (model X.prog X.w) X.A (f (.int i t)) Q E s) :
  UnR X f (rU fun i=>.int (g i)):=by
 intro pins s σ H x v Q I rx h
 obtain⟨i,rfl,q⟩:=h
 obtain⟨t,rfl⟩:=rx
 exact rule i t s _ _ ⟨.int (g i),H,I.tok _,⟨_,rfl⟩,q⟩
theorem un_neg:UnR X (unaryOp .USub) (rU fun i=>.int (-i)):=unI fun _ _ _ _ _ q=>neg_int q
end
section
variable{X:Cx}{a b c:Expr}{ta tb tc:TE}{pos:Pos}
theorem fin_bl{pins:PinT}{σ:St}{H:Hp}{s:Shared}{Q:VK}{k k':Bool}(I:Inv X pins σ H s)(q:Q (.bl k) H)(e:k=k'):EP X pins σ Q (.bool k') s:=by
 subst e
 exact⟨.bl k,H,I,rfl,q⟩
theorem op_lt:OpR X (compareOp .Lt) (rI0 fun i j=>.bl (decide (i<j))):=opB0 fun _ _ _ _ _ _ _ q=>lt_int q
theorem op_le:OpR X (compareOp .LtE) (rI0 fun i j=>.bl (decide (i≤j))):=opB0 fun _ _ _ _ _ _ _ q=>le_int q
theorem op_ge:OpR X (compareOp .GtE) (rI0 fun i j=>.bl (decide (j≤i))):=opB0 fun _ _ _ _ _ _ _ q=>ge_int q
theorem op_in_str:OpR X (compareOp .In) (fun x y H Q=>∃i j,x=.str i∧y=.str j∧Q (.bl (!(Builtin.Str.occurrences j i 0 j.length 1).isEmpty)) H):=by
 intro pins s σ H x y v u Q I rx ry h
 obtain⟨i,j,rfl,rfl,q⟩:=h
 obtain⟨t,rfl⟩:=rx
 obtain⟨t',rfl⟩:=ry
 exact in_str (fin_bl I q rfl)
theorem op_isN:OpR X (compareOp .Is) (fun x y H Q=>y=.non∧Q (.bl (decide (x=.non))) H):=by
 intro pins s σ H x y v u Q I rx ry h
 obtain⟨rfl,q⟩:=h
 cases ry
 refine is_none_gen (fin_bl I q ?_)
 cases x<;>first
  |(cases rx;rfl)
  |(obtain⟨t,rfl⟩:=rx;rfl)
theorem op_notN:OpR X (compareOp .IsNot) (fun x y H Q=>y=.non∧Q (.bl (!decide (x=.non))) H):=by
 intro pins s σ H x y v u Q I rx ry h
 obtain⟨rfl,q⟩:=h
 cases ry
 refine isnot_none_gen (fin_bl I q ?_)
 cases x<;>first
  |(cases rx;rfl)
  |(obtain⟨t,rfl⟩:=rx;rfl)
theorem nomark(b:Expr){op:CmpOp}(h:op≠.In:=by decide)(h2:op≠.NotIn:=by decide):behindInMarks op b=false:=by
 have e1:(op==CmpOp.In)=false:=by cases op<;>first | rfl | exact absurd rfl h
 have e2:(op==CmpOp.NotIn)=false:=by cases op<;>first | rfl | exact absurd rfl h2
 cases b<;>simp[behindInMarks,e1,e2]
theorem pe_cmpR{op:CmpOp}{r:R2}(ho:OpR X (compareOp op) r)(ha:PE X a ta)(hb:PE X b tb)(hm:behindInMarks op b=false):PE X (.Compare a [op] [b] pos) (tOp r ta tb):=by
 intro pins s σ H Q I h
 exact wpAny_Compare1 (binT ha hb I h fun v u s2 x y H2 I2 rx ry q=>ho pins s2 σ H2 x y v u Q I2 rx ry q) hm
noncomputable def tTest(t:TE):TT:=fun σ H Q=>t σ H fun x H'=>∃k,x=.bl k∧Q k H'
theorem pt_cmpR{op:CmpOp}{r:R2}(ho:OpR X (compareOp op) r)(ha:PE X a ta)(hb:PE X b tb)(hm:behindInMarks op b=false):PT X (.Compare a [op] [b] pos) (tTest (tOp r ta tb)):=by
 intro pins s σ H Q I h
 refine wpAny_isTrue_Compare1 (thn (ha pins s σ H _ I h) fun v s1 ⟨x,H1,I1,r1,q1⟩=>thn (hb pins s1 σ H1 _ I1 q1) fun u s2 ⟨y,H2,I2,r2,q2⟩=>
  thn (ho pins s2 σ H2 x y v u _ I2 r1 r2 q2) fun c s3 ⟨z,H3,I3,r3,k,e,q3⟩=>?_) hm
 subst e
 cases r3
 exact wpAny_truthy_bool ⟨H3,I3,q3⟩
noncomputable def tChain(r r':R2)(ta tb tc:TE):TE:=fun σ H Q=>ta σ H fun x H1=>tb σ H1 fun y H2=>r x y H2 fun z H3=>∃k,z=.bl k∧
 (if k=true then tc σ H3 fun w' H4=>r' y w' H4 Q else Q (.bl false) H3)
theorem pe_chain{op op':CmpOp}{r r':R2}(ho:OpR X (compareOp op) r)(ho':OpR X (compareOp op') r')(ha:PE X a ta)(hb:PE X b tb)(hc:PE X c tc)
  (hm:lastMarks [op,op'] [b,c]=false:=by with_unfolding_all rfl):PE X (.Compare a [op,op'] [b,c] pos) (tChain r r' ta tb tc):=by
 intro pins s σ H Q I h
 refine Compare_chain (thn (ha pins s σ H _ I h) fun v s1 ⟨x,H1,I1,r1,q1⟩=>chain_link (thn (hb pins s1 σ H1 _ I1 q1) fun u s2 ⟨y,H2,I2,r2,q2⟩=>
  thn (ho pins s2 σ H2 x y v u _ I2 r1 r2 q2) fun d s3 ⟨z,H3,I3,r3,k,e,q3⟩=>?_)) hm
 subst e
 cases r3
 refine wpAny_truthy_bool ?_
 cases k with
 |false=>exact ite_ff ⟨.bl false,H3,I3,rfl,q3⟩
 |true=>exact ite_tt (chain_last (thn (hc pins s3 σ H3 _ I3 q3) fun w' s4 ⟨z',H4,I4,r4,q4⟩=>ho' pins s4 σ H4 y z' u w' Q I4 r2 r4 q4))
theorem pt_chain{op op':CmpOp}{r r':R2}(ho:OpR X (compareOp op) r)(ho':OpR X (compareOp op') r')(ha:PE X a ta)(hb:PE X b tb)(hc:PE X c tc)
  (hm:lastMarks [op,op'] [b,c]=false:=by with_unfolding_all rfl):PT X (.Compare a [op,op'] [b,c] pos) (tTest (tChain r r' ta tb tc)):=by
 intro pins s σ H Q I h
 refine isTrue_chain (thn (ha pins s σ H _ I h) fun v s1 ⟨x,H1,I1,r1,q1⟩=>test_link (thn (hb pins s1 σ H1 _ I1 q1) fun u s2 ⟨y,H2,I2,r2,q2⟩=>
  thn (ho pins s2 σ H2 x y v u _ I2 r1 r2 q2) fun d s3 ⟨z,H3,I3,r3,k,e,q3⟩=>?_)) hm
 subst e
 cases r3
 refine wpAny_truthy_bool ?_
 cases k with
 |false=>
  obtain⟨k',e',q'⟩:=q3
  cases e'
  exact ite_ff ⟨H3,I3,q'⟩
 |true=>
  refine ite_tt (test_last (thn (hc pins s3 σ H3 _ I3 q3) fun w' s4 ⟨z',H4,I4,r4,q4⟩=>thn (ho' pins s4 σ H4 y z' u w' _ I4 r2 r4 q4) fun d' s5 ⟨z2,H5,I5,r5,k2,e2,q5⟩=>?_))
  subst e2
  cases r5
  exact wpAny_truthy_bool ⟨H5,I5,q5⟩
theorem line63:(sizeLine:Nat)<2 ^ 63:=by rw[sizeLine_eq];decide
theorem op_add_str:OpR X (binaryOp .Add) (fun x y H Q=>∃i j,x=.str i∧y=.str j∧i.length+j.length≤sizeLine∧Q (.str (i++j)) H):=by
 intro pins s σ H x y v u Q I rx ry h
 obtain⟨i,j,rfl,rfl,hz,q⟩:=h
 obtain⟨t,rfl⟩:=rx
 obtain⟨t',rfl⟩:=ry
 exact add_str (fun t' tk=>⟨.str (i++j),H,I.tok _,⟨_,rfl⟩,q⟩) hz
theorem vals1{x:V}{us:List Value}(r:Vals [x] us):∃u,us=[u]∧RelV x u:=by
 cases r with
 |cons r1 r2=>cases r2;exact⟨_,rfl,r1⟩
theorem vals2{x y:V}{us:List Value}(r:Vals [x,y] us):∃u w',us=[u,w']∧RelV x u∧RelV y w':=by
 cases r with
 |cons r1 r2=>
  cases r2 with
  |cons r3 r4=>cases r4;exact⟨_,_,rfl,r1,r3⟩
theorem call_abs:CallR X (.builtin "abs") (fun xs H Q=>∃i,xs=[.int i]∧Q (.int (if i<0 then -i else i)) H):=by
 intro pins s σ H xs us Q I r h
 obtain⟨i,rfl,q⟩:=h
 obtain⟨u,rfl,t,rfl⟩:=vals1 r
 exact call_abs_int fun u tk=>⟨.int (if i<0 then -i else i),H,I.tok _,⟨_,rfl⟩,q⟩
theorem call_max2(hc:X.calm=true):CallR X (.builtin "max") (fun xs H Q=>∃i j,xs=[.int i,.int j]∧Q (.int (if j > i then j else i)) H):=by
 intro pins s σ H xs us Q I r h
 obtain⟨i,j,rfl,q⟩:=h
 obtain⟨u,w',rfl,⟨t,rfl⟩,⟨t',rfl⟩⟩:=vals2 r
 refine max_two_ints (I.ok.hd hc) fun h' tk k=>⟨_,H,I.kept k,?_,q⟩
 by_cases hj:j > i
 ·rw[if_pos hj,if_pos hj];exact⟨_,rfl⟩
 ·rw[if_neg hj,if_neg hj];exact⟨_,rfl⟩
end
structure ObjM(h:Heap)(x dx C:Addr)(mA:BinT):Prop where
 obj:h.get? x=some (W.instObj C dx)
 ns:h.Ns1 dx mA
 ne:dx≠x
theorem lookIn_ns{h:Heap}{dx:Addr}{mA:BinT}(n:h.Ns1 dx mA):∃od,h.get? dx=some od∧∀name,W.lookIn name od=some (mA name):=by
 obtain⟨o,es,ep,ho,hd,hk,_,hm⟩:=n
 refine⟨o,ho,fun name=>?_⟩
 have e:=hm name
 unfold nsFind findBy at e
 rw[←Array.find?_toList]at e
 unfold W.lookIn
 rw[hd]
 dsimp only
 split
 ·rename_i y q
  rw[q]at e
  exact congrArg some e
 ·rename_i q
  rw[q]at e
  have a:es.toList.any (·.refKey)=false:=by
   rw[List.any_eq_false]
   intro y hy
   obtain⟨z,t,hkey⟩:=hk y (Array.mem_toList_iff.mp hy)
   simp[DictEntry.refKey,hkey]
  have a':¬es.toList.any (·.refKey)=true:=by rw[a];exact Bool.false_ne_true
  rw[if_neg a']
  exact congrArg some e
theorem ObjM.look{h:Heap}{x dx C:Addr}{mA:BinT}(I:ObjM h x dx C mA):∃od,W.InstAt h x (W.instObj C dx) C (some od)∧∀name,W.lookIn name od=some (mA name):=
 let⟨od,ho,hl⟩:=lookIn_ns I.ns
 ⟨od,⟨I.obj,rfl,rfl,ho⟩,hl⟩
section
variable{prog:Program}{w:World}{A:Around}{E:ExcT}{s:Shared}{K:FrgT}{x dx C f:Addr}{mA:BinT}{name:Str}{v:Value}
theorem get_map{expr:Bool}{Q:ExcT}(X:K.In s.heap)(I:ObjM s.heap x dx C mA)(hg:W.plainGet K C name=true)(hh:W.hasDictIn K C=true)
  (ha:W.findIn K (.ref C) name=some none) (hv:mA name=some v) (hv':W.handedIn v=true) (h:Q v { s with toks:=s.toks+1 }) :
  wpAny (model prog w) A (getAttr (.ref x) name expr) Q E s:=by
 obtain⟨od,J,hl⟩:=I.look
 exact W.get_value X J (W.plainGet_of hg).1 (W.findObj_own hh ha rfl (by rw[hl,hv])) hv' h
theorem get_meth{pl:Sem Bool}{Q:Value×List Value→Shared→Prop}(X:K.In s.heap)(I:ObjM s.heap x dx C mA)(hg:W.plainGet K C name=true)
  (hf:W.findIn K (.ref C) name=some (some (.ref f))) (ht:W.isFn K (.ref f)=true) (hv:mA name=none) (h:Q (.ref f,[.ref x]) s) :
  wpAny (model prog w) A (getMethod (.ref x) name pl) Q E s:=by
 obtain⟨od,J,hl⟩:=I.look
 exact W.method_fn X J (W.plainGet_of hg).1 (W.plainGet_of hg).2 hf (beq_iff_eq.mp ht) (by show(W.lookIn name od).map (·.isSome)=some false;rw[hl,hv];rfl) h
theorem set_map{ns:List Str}{Q:Unit→Shared→Prop}(X:K.In s.heap)(I:ObjM s.heap x dx C mA)
  (hs:W.findIn K (.ref C) "__setattr__"=some (some (.builtin "object.__setattr__"))) (hp:W.plainOver K C=true) (ht:W.takerIn K C name=some none) (hh:W.hasDictIn K C=true)
  (hw:Within mA ns) (hsz:ns.length≤sizeLine)
  (h:∀h',ObjM h' x dx C (fun y=>if y=name then some v else mA y)→Heap.SameBut dx s.heap h'→Q () { s with heap:=h',toks:=s.toks+2 }) :
  wpAny (model prog w) A (setAttr (.ref x) name v) Q E s:=by
 obtain⟨od,J,hl⟩:=I.look
 refine W.set_plain X J hs (W.osa_open (s:={ s with toks:=s.toks+1 }) (r:=none) X J hp ht fun b=>?_)
 obtain⟨cd,hc,hd'⟩:=W.any_some hh
 have hx:s.heap.get? x=some ⟨.ref C,some dx,.plain,#[]⟩:=I.obj
 refine wpAny_bind (wpAny_pure (wpAny_bind (wpAny_bind (wpAny_loadPart hx (wpAny_bind (W.Looks.here (s:={ s with toks:=s.toks+1 }) (W.looks_clsIn X hc) ?_))))))
 rw[hd']
 refine wpAny_pure (a:=some dx) (wpAny_bind (wpAny_pure (wpAny_bind ?_)))
 refine wpAny_nsSet1 (s:={ s with toks:=s.toks+1 }) I.ns fun h' hn2 hs2=>?_
 obtain⟨oD,esD,epD,hoD,hdD,hcD⟩:=hn2.count (Within.cons name v hw)
 refine wpAny_bind (wpAny_lookBehind hoD (by rw[hdD];exact pastItsLine_dict (Nat.le_trans hcD (by rw[List.length_cons];omega))) ?_)
 exact wpAny_pure (h _ ⟨(hs2.2 _ (Ne.symm I.ne)).trans I.obj,hn2,I.ne⟩ hs2)
theorem make_map{R:Result→Shared→Prop}{vs:List Value}{kw:List (Str×Value)}(X:K.In s.heap)(hm:W.makesIn K C=true)
  (hi:W.findIn K (.ref C) "__init__"=some (some (.ref f))) (hf:W.typeIn K (.ref f)=some (.type "function"))
  (h:codeAny (model prog w) (A.under (.builtin "type.__call__" ⟨.ref C::vs,kw⟩)) (.call (.ref f) ⟨.ref (s.heap.objs.size+1)::vs,kw⟩) (W.InitBack (s.heap.objs.size+1) R)
   { s with heap:=(s.heap.push W.emptyDict).push (W.instObj C s.heap.objs.size) }) :
  codeAny (model prog w) A (.call (.ref C) ⟨vs,kw⟩) R s:=by
 obtain⟨hh,g,d,t,os⟩:=s
 exact W.make_core (W.makes_of X hm) (W.looks_findIn X hi) (fun self=>W.bind_fn X self hf) (.inl rfl) h
end
noncomputable def putF(f:Str)(v:V):List (Str×V)→List (Str×V)
 |[]=>[(f,v)]
 |(g,x)::r=>if g=f then(g,v)::r else(g,x)::putF f v r
theorem lookup_putF(f g:Str)(v:V):∀fs:List (Str×V),(putF f v fs).lookup g=if g=f then some v else fs.lookup g
 |[]=>by
  show List.lookup g [(f,v)]=_
  by_cases h:g=f
  ·have hb:(g==f)=true:=beq_iff_eq.mpr h
   simp only[List.lookup,hb,if_pos h]
  ·have hb:(g==f)=false:=beq_eq_false_iff_ne.mpr h
   simp only[List.lookup,hb,if_neg h]
 |(k,x)::r=>by
  have ih:=lookup_putF f g v r
  rw[show putF f v ((k,x)::r)=(if k=f then(k,v)::r else(k,x)::putF f v r)from rfl]
  by_cases hk:k=f
  ·rw[if_pos hk]
   by_cases h:g=k
   ·have hb:(g==k)=true:=beq_iff_eq.mpr h
    simp only[List.lookup,hb,if_pos (h.trans hk)]
   ·have hb:(g==k)=false:=beq_eq_false_iff_ne.mpr h
    simp only[List.lookup,hb,if_neg (fun e:g=f=>h (e.trans hk.symm))]
  ·rw[if_neg hk]
   by_cases h:g=k
   ·have hb:(g==k)=true:=beq_iff_eq.mpr h
    simp only[List.lookup,hb,if_neg (fun e:g=f=>hk (h.symm.trans e))]
   ·have hb:(g==k)=false:=beq_eq_false_iff_ne.mpr h
    simp only[List.lookup,hb]
    exact ih
theorem keys_putF(f:Str)(v:V):∀fs:List (Str×V),f∈(putF f v fs).map (·.1)∧∀g,g∈fs.map (·.1)→g∈(putF f v fs).map (·.1)
 | []=>⟨by simp[putF],fun g h=>by simp at h⟩
 |(k,x)::r=>by
  obtain⟨i1,i2⟩:=keys_putF f v r
  rw[show putF f v ((k,x)::r)=(if k=f then(k,v)::r else(k,x)::putF f v r)from rfl]
  by_cases hk:k=f
  ·rw[if_pos hk]
   subst hk
   exact⟨by simp,fun g h=>by simpa using h⟩
  ·rw[if_neg hk]
   refine⟨?_,fun g h=>?_⟩
   ·rw[List.map_cons]
    exact List.mem_cons_of_mem _ i1
   ·rw[List.map_cons]at h ⊢
    rcases List.mem_cons.mp h with e | e
    ·exact List.mem_cons.mpr (.inl e)
    ·exact List.mem_cons_of_mem _ (i2 g e)
theorem length_putF(f:Str)(v:V):∀fs:List (Str×V),(putF f v fs).length≤fs.length+1
 | []=>by simp[putF]
 |(k,x)::r=>by
  have ih:=length_putF f v r
  rw[show putF f v ((k,x)::r)=(if k=f then(k,v)::r else(k,x)::putF f v r)from rfl]
  by_cases hk:k=f
  ·rw[if_pos hk,List.length_cons,List.length_cons];omega
  ·rw[if_neg hk,List.length_cons,List.length_cons];omega
theorem RelO.some_of{v:V}{o:Option Value}(r:RelO (some v) o):∃u,o=some u∧RelV v u:=by
 cases o with
 |none=>exact(show False from r).elim
 |some u=>exact⟨u,rfl,r⟩
theorem RelO.none_of{o:Option Value}(r:RelO none o):o=none:=by
 cases o with
 |none=>rfl
 |some u=>exact(show False from r).elim
theorem handed_of{v:V}{u:Value}(r:RelV v u):W.handedIn u=true:=by
 cases v with
 |non=>cases(show u=Value.none from r);rfl
 |bl b=>cases(show u=Value.bool b from r);rfl
 |int i=>obtain⟨t,e⟩:=(show ∃t,u=Value.int i t from r);cases e;rfl
 |str x=>obtain⟨t,e⟩:=(show ∃t,u=Value.str x t from r);cases e;rfl
 |byt b=>obtain⟨t,e⟩:=(show ∃t,u=Value.bytes b t from r);cases e;rfl
 |flt b=>obtain⟨t,e⟩:=(show ∃t,u=Value.float b t from r);cases e;rfl
 |ref a=>cases(show u=Value.ref a from r);rfl
 |ty n=>cases(show u=Value.type n from r);rfl
section
variable{P:Program}{w:World}{H H':Hp}{h h':Heap}{a C dx:Addr}{fs fs':List (Str×V)}
theorem ins_get(hok:HOk P w H h)(e:H a=some (.ins C dx fs)):∃mA,ObjM h a dx C mA∧(∀f,RelO (fs.lookup f) (mA f))∧Within mA (fs.map (·.1))∧fs.length≤1000∧H dx=some (.own a):=by
 obtain⟨d,z,ne,ob,mA,n,r,q⟩:=(show ObjOk P w H h a (.ins C dx fs)from hok a _ e)
 exact⟨mA,⟨ob,n,ne⟩,r,q,z,d⟩
end
structure Cls(K:FrgT)(C:Addr):Prop where
 pg:W.plainGet K C Str.empty=true
 hd:W.hasDictIn K C=true
 po:W.plainOver K C=true
 sa:W.findIn K (.ref C) "__setattr__"=some (some (.builtin "object.__setattr__"))
theorem Cls.get{K:FrgT}{C:Addr}(c:Cls K C)(f:Str):W.plainGet K C f=true:=c.pg
def NoAttr(K:FrgT)(C:Addr)(f:Str):Prop:=W.findIn K (.ref C) f=some none
theorem NoAttr.taker{K:FrgT}{C:Addr}{f:Str}(n:NoAttr K C f):W.takerIn K C f=some none:=by
 unfold W.takerIn
 rw[show W.findIn K (.ref C) f=some none from n]
 rfl
structure Meth(K:FrgT)(C:Addr)(m:Str)(f:Addr):Prop where
 at_:W.findIn K (.ref C) m=some (some (.ref f))
 fn:W.isFn K (.ref f)=true
 kp:W.keepIn K (.ref f)=true
section
variable{X:Cx}{pins:PinT}{σ:St}{H:Hp}{s:Shared}{a C dx:Addr}{fs:List (Str×V)}{f:Str}{v:V}{A:Around}{E:ExcT}
theorem getattr_ok{b:Bool}{Q:ExcT}(I:Inv X pins σ H s)(e:H a=some (.ins C dx fs))(c:Cls X.K C)(n:NoAttr X.K C f)(l:fs.lookup f=some v)
  (h:∀u s',Inv X pins σ H s'→RelV v u→Q u s'):wpAny (model X.prog X.w) A (getAttr (.ref a) f b) Q E s:=by
 obtain⟨mA,O,r,_,_,_⟩:=ins_get I.hok e
 obtain⟨u,hu,ru⟩:=RelO.some_of (v:=v) (o:=mA f) (by rw[←l];exact r f)
 exact get_map I.kIn O (c.get f) c.hd n hu (handed_of ru) (h u _ (I.tok _) ru)
theorem getmeth_ok{m:Str}{g:Addr}{pl:Sem Bool}{Q:Value×List Value→Shared→Prop}(I:Inv X pins σ H s)(e:H a=some (.ins C dx fs))(c:Cls X.K C)(k:Meth X.K C m g)(l:fs.lookup m=none)
  (h:Q (.ref g,[.ref a]) s):wpAny (model X.prog X.w) A (getMethod (.ref a) m pl) Q E s:=by
 obtain⟨mA,O,r,_,_,_⟩:=ins_get I.hok e
 have hn:mA m=none:=RelO.none_of (by rw[←l];exact r m)
 exact get_meth I.kIn O (c.get m) k.at_ k.fn hn h
theorem setattr_ok{y:V}{u:Value}{Q:Unit→Shared→Prop}(I:Inv X pins σ H s)(e:H a=some (.ins C dx fs))(c:Cls X.K C)(n:NoAttr X.K C f)(hl:fs.length<1000)(ry:RelV y u)
  (h:∀s',Inv X pins σ (upd H a (.ins C dx (putF f y fs))) s'→Q () s'):wpAny (model X.prog X.w) A (setAttr (.ref a) f u) Q E s:=by
 obtain⟨mA,O,r,wi,_,ho⟩:=ins_get I.hok e
 have hz:(fs.map (·.1)).length≤sizeLine:=by rw[List.length_map,sizeLine_eq];omega
 refine set_map I.kIn O c.sa c.po n.taker c.hd wi hz fun h' O' sb=>h _ ?_
 have hd:∃o,h'.get? dx=some o:=let⟨o,_,_,e',_⟩:=O'.ns;⟨o,e'⟩
 refine I.write (x:=a) (e:=dx) (by rw[e];exact True.intro) (.inr ho) (fun b q hb z=>(sb.2 b hb).trans z) hd ?_
 refine⟨by rw[upd_ne O.ne];exact ho,?_,O.ne,O'.obj,_,O'.ns,fun g=>?_,fun g hg=>?_⟩
 ·have:=length_putF f y fs;omega
 ·show RelO ((putF f y fs).lookup g) (if g=f then some u else mA g)
  rw[lookup_putF]
  by_cases q:g=f
  ·rw[if_pos q,if_pos q];exact ry
  ·rw[if_neg q,if_neg q];exact r g
 ·by_cases q:g=f
  ·rw[q];exact(keys_putF f y fs).1
  ·refine(keys_putF f y fs).2 g (wi g fun z=>hg ?_)
   show(if g=f then some u else mA g)=none
   rw[if_neg q];exact z
theorem Inv.made(I:Inv X pins σ H s):Inv X pins σ (upd (upd H s.heap.objs.size (.own (s.heap.objs.size+1))) (s.heap.objs.size+1) (.ins C s.heap.objs.size []))
  { s with heap:=(s.heap.push W.emptyDict).push (W.instObj C s.heap.objs.size) }:=by
 have e1:(s.heap.push W.emptyDict).get? s.heap.objs.size=some W.emptyDict:=Heap.get?_push_size s.heap rfl
 have e2:((s.heap.push W.emptyDict).push (W.instObj C s.heap.objs.size)).get? (s.heap.objs.size+1)=some (W.instObj C s.heap.objs.size):=by
  have:=Heap.get?_push_size (s.heap.push W.emptyDict) (o:=W.instObj C s.heap.objs.size) rfl
  rwa[Heap.size_push]at this
 have e3:(s.heap.push W.emptyDict).Ns s.heap.objs.size (fun _=>none):=⟨W.emptyDict,#[],_,e1,rfl,(fun e he=>absurd he (by simp)),fun _=>rfl⟩
 have I1:=I.laid (a:=s.heap.objs.size) (o:=.own (s.heap.objs.size+1)) (h':=s.heap.push W.emptyDict) (t':=s.toks) (fun b u q=>Heap.get?_push_of_some _ q) (Nat.le_refl _) ⟨_,e1⟩
 refine I1.laid (a:=s.heap.objs.size+1) (o:=.ins C s.heap.objs.size []) (t':=s.toks) (fun b u q=>Heap.get?_push_of_some _ q) (Nat.le_of_eq (Heap.size_push _ _)) ?_
 have ne:s.heap.objs.size≠s.heap.objs.size+1:=Nat.ne_of_lt (Nat.lt_succ_self _)
 refine⟨by rw[upd_ne ne,upd_same],Nat.zero_le _,ne,e2,fun _=>none,(Heap.Ns1.of_empty e3).at fun o q=>Heap.get?_push_of_some _ q,fun _=>True.intro,fun y hy=>absurd rfl hy⟩
theorem attr_of{prog:Program}{w:World}{env:Env}{e:Expr}{f:Str}{pos:Pos}{s:Shared}{Q:ExcT}(hb:attributeBase e f env (eval e env)=eval e env)
  (h:wpAny (model prog w) A (eval e env) (fun o s₁=>wpAny (model prog w) A (getAttr o f true) Q E s₁) E s):wpAny (model prog w) A (eval (.Attribute e f pos) env) Q E s:=
 Attribute_any_ h (by rw[arm_eval_Attribute,hb])
end
noncomputable def tFld(K:FrgT)(ta:TE)(f:Str):TE:=fun σ H Q=>ta σ H fun x H1=>∃a C dx fs v,x=.ref a∧H1 a=some (.ins C dx fs)∧Cls K C∧NoAttr K C f∧fs.lookup f=some v∧Q v H1
noncomputable def sFld(K:FrgT)(ta tv:TE)(f:Str):TS:=fun D σ H=>tv σ H fun y H1=>ta σ H1 fun x H2=>∃a C dx fs,x=.ref a∧H2 a=some (.ins C dx fs)∧Cls K C∧NoAttr K C f∧fs.length<1000∧
 D.nx σ (upd H2 a (.ins C dx (putF f y fs)))
section
variable{X:Cx}{o e value:Expr}{f:Str}{pos pos' tpos:Pos}{ta tv:TE}
theorem pe_fld(he:PE X e ta)(hb:attributeBase e f X.env (eval e X.env)=eval e X.env):PE X (.Attribute e f pos) (tFld X.K ta f):=by
 intro pins s σ H Q I h
 refine attr_of hb (thn (he pins s σ H _ I h) fun u s1 ⟨x,H1,I1,rx,a,C,dx,fs,v,ex,ea,c,n,l,q⟩=>?_)
 subst ex
 obtain rfl:u=Value.ref a:=rx
 exact getattr_ok I1 ea c n l fun u' s2 I2 ru=>⟨v,H1,I2,ru,q⟩
theorem ps_fld(ha:PE X o ta)(hv:PE X value tv)(hs:swapsWith value (some (.Attribute o f pos')) pos.line X.env=pure false):PS X (.Assign [.Attribute o f pos'] value pos) (sFld X.K ta tv f):=by
 intro pins s σ H D I h
 refine plainObj_wpAny_Assign_Attribute (thn (hv pins s σ H _ I h) fun u s1 ⟨y,H1,I1,ry,q⟩=>thn (ha pins s1 σ H1 _ I1 q) fun ov s2 ⟨x,H2,I2,rx,a,C,dx,fs,ex,ea,c,n,l,q2⟩=>?_) hs
 subst ex
 obtain rfl:ov=Value.ref a:=rx
 exact setattr_ok I2 ea c n l ry fun s3 I3=>⟨σ,_,I3,q2⟩
theorem methcall_of{pl:Sem Bool}{m:Str}{apos:Pos}{args:List Expr}{pins:PinT}{s:Shared}{σ:St}{H:Hp}{Q:ExcT}{te:TE}(he:PE X e te)(I:Inv X pins σ H s)
  (h:te σ H fun x H1=>∃a C dx fs g,x=.ref a∧H1 a=some (.ins C dx fs)∧Cls X.K C∧Meth X.K C m g∧fs.lookup m=none∧
   ∀s1,Inv X pins σ H1 s1→wpAny (model X.prog X.w) X.A (callWith pos (.ref g) [.ref a] (backTo pos (starEach args X.env)) (backToKw pos (keywordEach [] X.env))) Q X.xe s1)
  (ht:eval (.Call (.Attribute e m apos) args [] pos) X.env=(do
   let ov ←eval e X.env
   standAt apos.atName
   let(f,first) ←holding [ov] (getMethod ov m pl)
   callWith pos f first (backTo pos (starEach args X.env)) (backToKw pos (keywordEach [] X.env)))) :
  wpAny (model X.prog X.w) X.A (eval (.Call (.Attribute e m apos) args [] pos) X.env) Q X.xe s:=by
 refine W.methodCall_KW (pl:=pl) (thn (he pins s σ H _ I h) fun u s1 ⟨x,H1,I1,rx,a,C,dx,fs,g,ex,ea,c,k,l,q⟩=>?_) ht
 subst ex
 obtain rfl:u=Value.ref a:=rx
 exact getmeth_ok I1 ea c k l (q s1 I1)
end
structure Room(k:Nat)(A:Around):Prop where
 hd:A.handled=none
 dp:A.depth+3*k+5<recursionLimit
 un:A.units+16*k+200<cLine
theorem Room.mono{j k:Nat}{A:Around}(r:Room k A)(h:j≤k):Room j A:=⟨r.hd,by have:=r.dp;omega,by have:=r.un;omega⟩
theorem Room.deeper{k:Nat}{A:Around}(r:Room (k+1) A)(env:Env):Room k (A.deeper env):=
 ⟨r.hd,by have:=r.dp;show A.depth+1+3*k+5 < _;omega,by have:=r.un;show A.units+3+16*k+200 < _;omega⟩
theorem make_depth{A:Around}{C:Addr}{us:List Value}{kw:List (Str×Value)}:(A.under (.builtin "type.__call__" ⟨.ref C::us,kw⟩)).depth=A.depth+1:=by
 first | rfl | simp[Around.under,Code.weight,Code.isCreation,Code.isGuard,Code.isCaller,Code.frames,Code.isFrame,guardIds]
theorem make_units{A:Around}{C:Addr}{us:List Value}{kw:List (Str×Value)}:(A.under (.builtin "type.__call__" ⟨.ref C::us,kw⟩)).units=A.units+1:=by
 first | rfl | simp[Around.under,Code.cUnits,Code.frames,Code.isFrame]
theorem Room.make{k:Nat}{A:Around}(r:Room (k+1) A)(C:Addr)(us:List Value)(kw:List (Str×Value)):Room k (A.under (.builtin "type.__call__" ⟨.ref C::us,kw⟩)):=
 ⟨r.hd,by have:=r.dp;rw[make_depth];omega,by have:=r.un;rw[make_units];omega⟩
theorem Room.depth{k:Nat}{A:Around}(r:Room k A):A.depth<recursionLimit:=by have:=r.dp;omega
theorem Room.units{k:Nat}{A:Around}(r:Room k A):A.units+64<cLine:=by have:=r.un;omega
noncomputable def tNil:TA:=fun _ H Q=>Q [] H
noncomputable def tCons(ta:TE)(tr:TA):TA:=fun σ H Q=>ta σ H fun x H1=>tr σ H1 fun xs H2=>Q (x::xs) H2
section
variable{X:Cx}{e:Expr}{es:List Expr}{te:TE}{t:TA}{pos:Pos}
theorem pa_nil:PA X [] tNil:=fun _ _ _ _ H Q I h=>Calls.spliced_nil ⟨[],H,I,.nil,h⟩
theorem pa_cons(ha:PE X e te)(hr:PA X es t)(hs:starEach (e::es) X.env=(false,eval e X.env)::starEach es X.env:=by rfl):PA X (e::es) (tCons te t):=by
 intro pos pins s σ H Q I h
 rw[hs]
 show wpAny _ _ (spliced ((false,eval e X.env)::backTo pos (starEach es X.env))) _ _ s
 refine Calls.spliced_cons (thn (ha pins s σ H _ I h) fun u s1 ⟨x,H1,I1,r1,q1⟩=>?_)
 exact thn (hr pos pins s1 σ H1 _ I1 q1) fun us s2 ⟨xs,H2,I2,r2,q2⟩=>⟨x::xs,H2,I2,.cons r1 r2,q2⟩
noncomputable def tTup(t:TA):TE:=fun σ H Q=>t σ H fun xs H1=>xs.length≤sizeLine∧∀p,H1 p=none→Q (.ref p) (upd H1 p (.tup xs))
noncomputable def tLst(t:TA):TE:=fun σ H Q=>t σ H fun xs H1=>xs.length≤sizeLine∧∀p,H1 p=none→Q (.ref p) (upd H1 p (.lst xs))
theorem pe_tup{x1}(h:PA X es t):PE X (.Tuple es x1 pos) (tTup t):=by
 intro pins s σ H Q I hq
 refine wpAny_Tuple_spliced (thn (h pos pins s σ H _ I hq) fun us s1 ⟨xs,H1,I1,r,z,q⟩=>⟨by rw[←r.length];exact z,?_⟩)
 have hf:H1 s1.heap.objs.size=none:=I1.hok.fresh (Nat.le_refl _)
 refine⟨.ref s1.heap.objs.size,upd H1 s1.heap.objs.size (.tup xs),I1.laid (t':=s1.toks) (fun b u e=>Heap.get?_push_of_some _ e) (Nat.le_refl _) ?_,rfl,q _ hf⟩
 exact⟨z,us,r,⟨_,Heap.get?_push_size _ rfl,rfl,_,rfl⟩⟩
theorem pe_lst(h:PA X es t):PE X (.List es pos) (tLst t):=by
 intro pins s σ H Q I hq
 refine wpAny_List_spliced (thn (h pos pins s σ H _ I hq) fun us s1 ⟨xs,H1,I1,r,z,q⟩=>⟨by rw[←r.length];exact z,?_⟩)
 have hf:H1 s1.heap.objs.size=none:=I1.hok.fresh (Nat.le_refl _)
 refine⟨.ref s1.heap.objs.size,upd H1 s1.heap.objs.size (.lst xs),I1.laid (t':=s1.toks) (fun b u e=>Heap.get?_push_of_some _ e) (Nat.le_refl _) ?_,rfl,q _ hf⟩
 exact⟨z,us,0,r,Heap.get?_push_size _ rfl⟩
end
noncomputable abbrev Sp:=List V→Hp→VK→XK→Prop
noncomputable abbrev CXT:=List Env→Hp→Shared→XK→Value→Shared→Prop
structure Env0(P:Program)(w:World)(K:FrgT)(mg:BinT)(base:Heap)(A:Around)(outer:List Env)(s:Shared)(H:Hp):Prop where
 frames:A.frames=some outer
 mod:Mod K mg base
 bs:∀b o,base.get? b=some o→s.heap.get? b=some o∧H b=none
 bsz:base.objs.size≤s.heap.objs.size
 funs:s.heap.FunFrames base outer
 frf:∀b∈frs outer,H b=none
 hok:HOk P w H s.heap
 bare:AllBare s.gens
def CE(outer:List Env)(P:Program)(w:World)(H:Hp)(s:Shared)(Q:VK)(u:Value)(s':Shared):Prop:=
 ∃v H',s'.os=s.os∧AllBare s'.gens∧Un (frs outer) [] H H' s.heap s'.heap∧HOk P w H' s'.heap∧RelV v u∧Q v H'
def CR(CX:CXT)(outer:List Env)(P:Program)(w:World)(H:Hp)(s:Shared)(Q:VK)(E:XK)(r:Result)(s':Shared):Prop:=
 match r with
 |.ok (.ret u)=>CE outer P w H s Q u s'
 |.ok _=>False
 |.error e=>CX outer H s E e s'
structure FnOk(P:Program)(w:World)(K:FrgT)(mg:BinT)(base:Heap)(CX:CXT)(k:Nat)(f:Addr)(fd:FuncData)(ps:List Str)(sp:Sp):Prop where
 len:∀vs H Q E,sp vs H Q E→vs.length=ps.length
 run:∀(A:Around)(outer:List Env)(s:Shared)(H:Hp)(args:Args)(us:List Value)(vs:List V)(Q:VK)(E:XK),Room k A→Env0 P w K mg base A outer s H→BindsTo s fd args (ps.zip us)→Vals vs us→sp vs H Q E→
  codeAny (model P w) A (.call (.ref f) args) (CR CX outer P w H s Q E) s
theorem FnOk.mono{P:Program}{w:World}{K:FrgT}{mg:BinT}{base:Heap}{CX:CXT}{j k:Nat}{f:Addr}{fd:FuncData}{ps:List Str}{sp:Sp}(F:FnOk P w K mg base CX j f fd ps sp)(h:j≤k) :
  FnOk P w K mg base CX k f fd ps sp:=⟨F.len,fun A outer s H args us vs Q E hr=>F.run A outer s H args us vs Q E (hr.mono h)⟩
theorem FnOk.imp{P:Program}{w:World}{K:FrgT}{mg:BinT}{base:Heap}{CX:CXT}{k:Nat}{f:Addr}{fd:FuncData}{ps:List Str}{sp sp':Sp}(F:FnOk P w K mg base CX k f fd ps sp)
  (h:∀vs H Q E,sp' vs H Q E→sp vs H Q E):FnOk P w K mg base CX k f fd ps sp':=
 ⟨fun vs H Q E q=>F.len vs H Q E (h _ _ _ _ q),fun A outer s H args us vs Q E hr he hb hv hs=>F.run A outer s H args us vs Q E hr he hb hv (h _ _ _ _ hs)⟩
theorem Env0.make{P:Program}{w:World}{K:FrgT}{mg:BinT}{base:Heap}{A:Around}{outer:List Env}{s:Shared}{H:Hp}(e:Env0 P w K mg base A outer s H)(C:Addr)(us:List Value)(kw:List (Str×Value)) :
  Env0 P w K mg base (A.under (.builtin "type.__call__" ⟨.ref C::us,kw⟩)) outer s H:=⟨by first | exact e.frames | (simpa[Around.under,Code.envs,Code.isFrame,pushEnvs]using e.frames),e.mod,e.bs,e.bsz,e.funs,e.frf,e.hok,e.bare⟩
section
variable{X:Cx}{pins:PinT}{σ:St}{H:Hp}{s s':Shared}
theorem Inv.env0(I:Inv X pins σ H s):Env0 X.prog X.w X.K X.mg X.base X.A X.stack s H:=
 ⟨I.ok.frames,I.ok.mod,I.bs,Nat.le_trans I.ok.bsz I.sz,I.stack,I.stkFree,I.hok,I.bare⟩
theorem Inv.after{Q:VK}{u:Value}(I:Inv X pins σ H s)(h:CE X.stack X.prog X.w H s Q u s'):EP X pins σ Q u s':=by
 obtain⟨v,H',os,bare,un,hok,r,q⟩:=h
 obtain⟨hh,g,d,t,os'⟩:=s'
 obtain rfl:os'=s.os:=os
 exact⟨v,H',I.call (h':=hh) (g':=g) (d':=d) (t':=t) (ch:=[]) un hok bare (fun b z=>absurd z (by simp)),r,q⟩
end
noncomputable def tCall(sp:Sp)(dvs:List V)(E:XK)(t:TA):TE:=fun σ H Q=>t σ H fun vs H1=>sp (vs++dvs) H1 Q E
noncomputable def tMeth(C:Addr)(m:Str)(sp:Sp)(dvs:List V)(E:XK)(ta:TE)(t:TA):TE:=fun σ H Q=>ta σ H fun x H1=>∃a dx fs,x=.ref a∧H1 a=some (.ins C dx fs)∧fs.lookup m=none∧
 t σ H1 fun vs H2=>sp (x::(vs++dvs)) H2 Q E
noncomputable def tMake(C:Addr)(sp:Sp)(dvs:List V)(E:XK)(t:TA):TE:=fun σ H Q=>t σ H fun vs H1=>∀x dx,H1 x=none→H1 dx=none→dx≠x→
 sp (.ref x::(vs++dvs)) (upd (upd H1 dx (.own x)) x (.ins C dx [])) (fun v H2=>v=.non∧Q (.ref x) H2) E
def Binds(K:FrgT)(fd:FuncData)(ps:List Str)(ds:List Value):Prop:=
 ∀(s:Shared)(us:List Value),K.In s.heap→(us++ds).length=ps.length→BindsTo s fd ⟨us,[]⟩ (ps.zip (us++ds))
theorem Binds.all{K:FrgT}{fd:FuncData}{ps:List Str}(h:∀us:List Value,us.length=ps.length→bindArgs fd ⟨us,[]⟩=pure (ps.zip us)):Binds K fd ps []:=fun s us _ hl=>by
 rw[List.append_nil]at hl ⊢
 exact .of_eq (h us hl)
def Passes(CX:CXT)(X:Cx)(E:XK):Prop:=∀(pins:PinT)(σ:St)(H:Hp)(s:Shared)(e:Value)(s':Shared),Inv X pins σ H s→CX X.stack H s E e s'→X.xe e s'
section
variable{X:Cx}{CX:CXT}{k:Nat}{f C:Addr}{fd:FuncData}{ps:List Str}{sp:Sp}{dvs:List V}{ds:List Value}{E:XK}{x m:Str}{p pos apos:Pos}{e o:Expr}{es:List Expr}{ta:TE}{t:TA}
theorem run_fn{pins:PinT}{σ:St}{H:Hp}{s:Shared}{Q:VK}{us:List Value}{vs:List V}(F:FnOk X.prog X.w X.K X.mg X.base CX k f fd ps sp)(hr:Room k X.A)(hb:Binds X.K fd ps ds)(hd:Vals dvs ds)(hx:Passes CX X E)
  (I:Inv X pins σ H s) (r:Vals vs us) (h:sp (vs++dvs) H Q E):wpAny (model X.prog X.w) X.A (call (.ref f) us) (EP X pins σ Q) X.xe s:=by
 have r2:Vals (vs++dvs) (us++ds):=r.append hd
 have hl:(us++ds).length=ps.length:=by rw[←r2.length];exact F.len _ _ _ _ h
 refine wpAny_call (codeAny_mono (F.run X.A X.stack s H ⟨us,[]⟩ (us++ds) (vs++dvs) Q E hr I.env0 (hb s us I.kIn hl) r2 h) fun r s' hq=>?_)
 cases r with
 |error e=>exact hx pins σ H s e s' I hq
 |ok fl=>
  cases fl with
  |ret u=>exact I.after hq
  |next=>exact False.elim hq
  |brk=>exact False.elim hq
  |cont=>exact False.elim hq
theorem pe_call(F:FnOk X.prog X.w X.K X.mg X.base CX k f fd ps sp)(hr:Room k X.A)(hg:Gl X x)(hm:X.mg x=some (.ref f))(hk:W.keepIn X.K (.ref f)=true)(hb:Binds X.K fd ps ds)(hd:Vals dvs ds)(hx:Passes CX X E)
  (ha:PA X (e::es) t) (hdb:(x==("__debug__":Str))=false:=by decide) (he:starEach (e::es) X.env=(false,eval e X.env)::starEach es X.env:=by rfl) (hpl:(backTo pos (starEach es X.env)).any (·.1)=false:=by rfl) :
  PE X (.Call (.Name x p) (e::es) [] pos) (tCall sp dvs E t):=by
 intro pins s σ H Q I h
 refine wpAny_Call_Name_kw (ld_glob I hg hm ?_ hdb)
 refine W.callWith_K (h₀:=X.base) I.ok.mod.kin hk (thn (ha pos pins s σ H _ I h) fun us s1 ⟨vs,H1,I1,r,q⟩=>⟨I1.kIn,?_⟩) he hpl
 exact run_fn F hr hb hd hx I1 r q
theorem pe_call0(F:FnOk X.prog X.w X.K X.mg X.base CX k f fd ps sp)(hr:Room k X.A)(hg:Gl X x)(hm:X.mg x=some (.ref f))(hk:W.keepIn X.K (.ref f)=true)(hb:Binds X.K fd ps ds)(hd:Vals dvs ds)(hx:Passes CX X E)
  (hdb:(x==("__debug__":Str))=false:=by decide):PE X (.Call (.Name x p) [] [] pos) (tCall sp dvs E tNil):=by
 intro pins s σ H Q I h
 refine wpAny_Call_Name_kw (ld_glob I hg hm ?_ hdb)
 exact W.callWith_K0 I.kIn hk (run_fn (us:=[]) F hr hb hd hx I .nil h)
theorem pe_meth{pl:Sem Bool}(he:PE X o ta)(c:Cls X.K C)(hm:Meth X.K C m f)(F:FnOk X.prog X.w X.K X.mg X.base CX k f fd ps sp)(hr:Room k X.A)(hb:Binds X.K fd ps ds)(hd:Vals dvs ds)(hx:Passes CX X E)(ha:PA X (e::es) t)
  (hst:starEach (e::es) X.env=(false,eval e X.env)::starEach es X.env:=by rfl) (hpl:(backTo pos (starEach es X.env)).any (·.1)=false:=by rfl)
  (ht:eval (.Call (.Attribute o m apos) (e::es) [] pos) X.env=(do
   let ov ←eval o X.env
   standAt apos.atName
   let(f,first) ←holding [ov] (getMethod ov m pl)
   callWith pos f first (backTo pos (starEach (e::es) X.env)) (backToKw pos (keywordEach [] X.env))):=by rfl) :
  PE X (.Call (.Attribute o m apos) (e::es) [] pos) (tMeth C m sp dvs E ta t):=by
 intro pins s σ H Q I h
 refine W.methodCall_KW (pl:=pl) (thn (he pins s σ H _ I h) fun u s1 ⟨x,H1,I1,rx,a,dx,fs,ex,ea,l,q⟩=>?_) ht
 subst ex
 obtain rfl:u=Value.ref a:=rx
 refine getmeth_ok I1 ea c hm l ?_
 refine W.callWith_K (first:=[.ref a]) (h₀:=X.base) I.ok.mod.kin hm.kp (thn (ha pos pins s1 σ H1 _ I1 q) fun us s2 ⟨vs,H2,I2,r,q2⟩=>⟨I2.kIn,?_⟩) hst hpl
 exact run_fn (us:=.ref a::us) (vs:=.ref a::vs) F hr hb hd hx I2 (.cons rfl r) q2
theorem pe_meth0{pl:Sem Bool}(he:PE X o ta)(c:Cls X.K C)(hm:Meth X.K C m f)(F:FnOk X.prog X.w X.K X.mg X.base CX k f fd ps sp)(hr:Room k X.A)(hb:Binds X.K fd ps ds)(hd:Vals dvs ds)(hx:Passes CX X E)
  (ht:eval (.Call (.Attribute o m apos) [] [] pos) X.env=(do
   let ov ←eval o X.env
   standAt apos.atName
   let(f,first) ←holding [ov] (getMethod ov m pl)
   callWith pos f first (backTo pos (starEach [] X.env)) (backToKw pos (keywordEach [] X.env))):=by rfl) :
  PE X (.Call (.Attribute o m apos) [] [] pos) (tMeth C m sp dvs E ta tNil):=by
 intro pins s σ H Q I h
 refine W.methodCall_KW (pl:=pl) (thn (he pins s σ H _ I h) fun u s1 ⟨x,H1,I1,rx,a,dx,fs,ex,ea,l,q⟩=>?_) ht
 subst ex
 obtain rfl:u=Value.ref a:=rx
 refine getmeth_ok I1 ea c hm l ?_
 exact W.callWith_K0 (first:=[.ref a]) I1.kIn hm.kp (run_fn (us:=[.ref a]) (vs:=[.ref a]) F hr hb hd hx I1 (.cons rfl .nil) q)
structure Mk(K:FrgT)(C f:Addr):Prop where
 makes:W.makesIn K C=true
 init:W.findIn K (.ref C) "__init__"=some (some (.ref f))
 fn:W.isFn K (.ref f)=true
 kp:W.keepIn K (.ref C)=true
theorem run_make{pins:PinT}{σ:St}{H:Hp}{s:Shared}{Q:VK}{us:List Value}{vs:List V}(M:Mk X.K C f)(F:FnOk X.prog X.w X.K X.mg X.base CX k f fd ps sp)(hr:Room (k+1) X.A)(hb:Binds X.K fd ps ds)(hd:Vals dvs ds)
  (hx:Passes CX X E) (I:Inv X pins σ H s) (r:Vals vs us)
  (h:∀x dx,H x=none→H dx=none→dx≠x→sp (.ref x::(vs++dvs)) (upd (upd H dx (.own x)) x (.ins C dx [])) (fun v H2=>v=.non∧Q (.ref x) H2) E) :
  wpAny (model X.prog X.w) X.A (call (.ref C) us) (EP X pins σ Q) X.xe s:=by
 have hq:=h (s.heap.objs.size+1) s.heap.objs.size (I.hok.fresh (Nat.le_succ _)) (I.hok.fresh (Nat.le_refl _)) (Nat.ne_of_lt (Nat.lt_succ_self _))
 have I2:=Inv.made (C:=C) I
 have r2:Vals (V.ref (s.heap.objs.size+1)::(vs++dvs)) (Value.ref (s.heap.objs.size+1)::(us++ds)):=.cons rfl (r.append hd)
 have hl:(Value.ref (s.heap.objs.size+1)::us++ds).length=ps.length:=by
  have e:=r2.length
  rw[F.len _ _ _ _ hq]at e
  exact e.symm
 refine wpAny_call (make_map (f:=f) I.kIn M.makes M.init (beq_iff_eq.mp M.fn) (codeAny_mono (F.run _ X.stack _ _ ⟨Value.ref (s.heap.objs.size+1)::us,[]⟩ (Value.ref (s.heap.objs.size+1)::(us++ds)) _ _ E (hr.make C us [])
  (I2.env0.make C us []) (hb _ (Value.ref (s.heap.objs.size+1)::us) I2.kIn hl) r2 hq) fun r s' hq'=>?_))
 cases r with
 |error e=>exact hx pins σ _ _ e s' I2 hq'
 |ok fl=>
  cases fl with
  |ret u=>
   obtain⟨v,H',I3,rv,ev,q3⟩:=I2.after hq'
   subst ev
   exact⟨rv,⟨V.ref (s.heap.objs.size+1),H',I3,rfl,q3⟩⟩
  |next=>exact False.elim hq'
  |brk=>exact False.elim hq'
  |cont=>exact False.elim hq'
theorem pe_make(M:Mk X.K C f)(F:FnOk X.prog X.w X.K X.mg X.base CX k f fd ps sp)(hr:Room (k+1) X.A)(hg:Gl X x)(hm:X.mg x=some (.ref C))(hb:Binds X.K fd ps ds)(hd:Vals dvs ds)(hx:Passes CX X E)
  (ha:PA X (e::es) t) (hdb:(x==("__debug__":Str))=false:=by decide) (he:starEach (e::es) X.env=(false,eval e X.env)::starEach es X.env:=by rfl) (hpl:(backTo pos (starEach es X.env)).any (·.1)=false:=by rfl) :
  PE X (.Call (.Name x p) (e::es) [] pos) (tMake C sp dvs E t):=by
 intro pins s σ H Q I h
 refine wpAny_Call_Name_kw (ld_glob I hg hm ?_ hdb)
 refine W.callWith_K (h₀:=X.base) I.ok.mod.kin M.kp (thn (ha pos pins s σ H _ I h) fun us s1 ⟨vs,H1,I1,r,q⟩=>⟨I1.kIn,?_⟩) he hpl
 exact run_make M F hr hb hd hx I1 r q
end
structure FnScope(N P:List Str)(sc:Scope):Prop where
 kind:sc.kind=.function
 co:sc.isCoroutine=false
 gen:sc.isGenerator=false
 nd:N.Nodup
 pre:N.take P.length=P
 par:∀x∈P,sc.names.lookup x=some .local∨sc.names.lookup x=some .cell
 nofree:∀y∈sc.names,y.2≠.free
theorem bindL_out{kindOf:Str→Option NameKind}{x:Str}:∀{binds:List (Str×Value)}{m:BinT},(∀v,(x,v)∉binds)→bindL kindOf binds m x=m x
 |[],_,_=>rfl
 |(n,v)::r,m,h=>by
  unfold bindL
  rw[bindL_out fun w hw=>h w (List.mem_cons_of_mem _ hw)]
  split
  ·have:x≠n:=by rintro rfl;exact h v List.mem_cons_self
   simp[this]
  ·rfl
theorem bindC_out{kindOf:Str→Option NameKind}{x:Str}:∀{binds:List (Str×Value)}{m:BinT},(∀v,(x,v)∉binds)→bindC kindOf binds m x=m x
 |[],_,_=>rfl
 |(n,v)::r,m,h=>by
  unfold bindC
  rw[bindC_out fun w hw=>h w (List.mem_cons_of_mem _ hw)]
  split
  ·rfl
  ·have:x≠n:=by rintro rfl;exact h v List.mem_cons_self
   simp[this]
theorem bindL_get{kindOf:Str→Option NameKind}{x:Str}{v:Value}:∀{P:List Str}{vs:List Value}{i:Nat}{m:BinT},P.Nodup→P[i]? = some x→vs[i]? = some v→kindOf x=some .local→
  bindL kindOf (P.zip vs) m x=some v
 | [],_,_,_,_,h,_,_=>by simp at h
 | _::_,[],_,_,_,_,h,_=>by simp at h
 |p::P,w::vs,0,m,nd,h1,h2,hk=>by
  simp at h1 h2;subst h1;subst h2
  show bindL kindOf ((p,w)::P.zip vs) m p=_
  unfold bindL
  rw[bindL_out fun v hv=>(List.nodup_cons.mp nd).1 (List.of_mem_zip hv).1,if_pos hk]
  simp
 |p::P,w::vs,i+1,m,nd,h1,h2,hk=>by
  show bindL kindOf ((p,w)::P.zip vs) m x=_
  unfold bindL
  exact bindL_get (i:=i) (List.nodup_cons.mp nd).2 (by simpa using h1) (by simpa using h2) hk
theorem bindC_get{kindOf:Str→Option NameKind}{x:Str}{v:Value}:∀{P:List Str}{vs:List Value}{i:Nat}{m:BinT},P.Nodup→P[i]? = some x→vs[i]? = some v→kindOf x≠some .local→
  bindC kindOf (P.zip vs) m x=some v
 | [],_,_,_,_,h,_,_=>by simp at h
 | _::_,[],_,_,_,_,h,_=>by simp at h
 |p::P,w::vs,0,m,nd,h1,h2,hk=>by
  simp at h1 h2;subst h1;subst h2
  show bindC kindOf ((p,w)::P.zip vs) m p=_
  unfold bindC
  rw[bindC_out fun v hv=>(List.nodup_cons.mp nd).1 (List.of_mem_zip hv).1,if_neg hk]
  simp
 |p::P,w::vs,i+1,m,nd,h1,h2,hk=>by
  show bindC kindOf ((p,w)::P.zip vs) m x=_
  unfold bindC
  exact bindC_get (i:=i) (List.nodup_cons.mp nd).2 (by simpa using h1) (by simpa using h2) hk
noncomputable def start(N:List Str)(vs:List V):St:=vs.map some++List.replicate (N.length-vs.length) none
noncomputable def cxOf(CX:CXT)(P:Program)(w:World)(K:FrgT)(mg:BinT)(base:Heap)(N:List Str)(qual:Str)(scope:Scope)(f:Addr)(cd:Value)(A:Around)(outer:List Env)(s:Shared)(H:Hp)(E:XK):Cx where
 prog:=P
 w:=w
 K:=K
 mg:=mg
 base:=base
 A:=A.deeper (envOfC qual scope s.heap.objs.size f cd)
 N:=N
 s₀:=s
 H₀:=H
 env:=envOfC qual scope s.heap.objs.size f cd
 outer:=outer
 stack:=envOfC qual scope s.heap.objs.size f cd::outer
 ex:=[]
 calm:=true
 fn:=fun _=>true
 pn:=[]
 xe:=fun e s'=>wpAny (model P w) (A.deeper (envOfC qual scope s.heap.objs.size f cd)) (leaving (envOfC qual scope s.heap.objs.size f cd) e) (fun _ s''=>CX outer H s E e s'') (fun e' s''=>CX outer H s E e' s'') s'
theorem cell_has{sc:Scope}{n:Nat}{x:Str}(h:sc.names.lookup x=some .cell):∃c,(cellsFrom n sc.names []).lookup x=some c:=by
 have q:=W.cellsFrom_some sc.names n [] (.inl h)
 exact Option.isSome_iff_exists.mp q
theorem inv_start{CX:CXT}{P:Program}{w:World}{K:FrgT}{mg:BinT}{base:Heap}{N ps:List Str}{qual:Str}{scope:Scope}{f:Addr}{cd:Value}{A:Around}{outer:List Env}{s s1:Shared}{H:Hp}{E:XK}{us:List Value}{vs:List V}
  (S:FnScope N ps scope) (hd:A.handled=none) (e0:Env0 P w K mg base A outer s H) (hl:vs.length=ps.length) (r:Vals vs us)
  (x:InCallC s s.heap.objs.size (bindL (envOfC qual scope s.heap.objs.size f cd).kindOf (ps.zip us) fun _=>none) (cellsFrom (s.heap.objs.size+1) scope.names []) (bindC (envOfC qual scope s.heap.objs.size f cd).kindOf (ps.zip us) fun _=>none) s1) :
  Inv (cxOf CX P w K mg base N qual scope f cd A outer s H E) [] (start N vs) H s1:=by
 have hpl:ps.length≤N.length:=by have:=congrArg List.length S.pre;rw[List.length_take]at this;omega
 obtain⟨h1,tk,rfl,hk⟩:=x.done
 have noA:∀b:Addr,b∉(cxOf CX P w K mg base N qual scope f cd A outer s H E).ex:=fun b z=>absurd (show b∈([]:List Addr)from z) (by simp)
 refine⟨⟨e0.mod,S.kind,rfl,rfl,Nat.le_refl _,fun y z c h1 h2=>?_,fun y hy=>?_,fun y c _ h=>?_,fun _=>hd,Around.frames_deeper e0.frames,.inr ⟨rfl,rfl⟩,fun b z=>absurd z (noA b),e0.bs,e0.bsz,fun b _ _=>noA b,fun b z=>absurd z (noA b),e0.funs,e0.frf⟩,
  rfl,e0.bare,Un.kept hk,⟨_,x.toInCall.ns,fun i y v h1 h2 h3=>?_⟩,fun y c h=>⟨_,x.cell y c h⟩,e0.hok.fresh (Nat.le_refl _),fun y c h=>?_,fun p hp=>absurd (show p∈([]:PinT)from hp) (by simp),e0.hok.kept hk,?_⟩
 ·exact name_of_addr x.apart (PySem.mem_of_lookup h1) (PySem.mem_of_lookup h2)
 ·have hy:scope.names.lookup y=some .cell∨scope.names.lookup y=some .free:=hy
  rcases hy with hy | hy
  ·exact cell_has hy
  ·exact absurd rfl (S.nofree _ (PySem.mem_of_lookup hy))
 ·exact Nat.le_of_lt (x.above y c (PySem.mem_of_lookup h))
 ·have hi:i<vs.length:=by
   unfold start at h2
   by_cases hi:i<vs.length
   ·exact hi
   ·rw[List.getElem?_append_right (by simpa using hi)]at h2
    rw[List.getElem?_replicate]at h2
    split at h2<;>cases h2
  have ha:vs[i]? = some v:=by
   unfold start at h2
   rw[List.getElem?_append_left (by simpa using hi),List.getElem?_map]at h2
   cases e:vs[i]? with
   |none=>rw[e]at h2;cases h2
   |some a=>rw[e]at h2;cases h2;rfl
  obtain⟨u,hu,rv⟩:=r.get ha
  have hp:ps[i]? = some y:=by
   rw[←S.pre,List.getElem?_take_of_lt (by omega)];exact h1
  have ndP:ps.Nodup:=by rw[←S.pre];exact S.nd.sublist (List.take_sublist _ _)
  refine⟨u,rv,?_⟩
  rcases S.par y (List.mem_of_getElem? hp)with k | k
  ·exact .inl ⟨k,bindL_get ndP hp hu k⟩
  ·obtain⟨c,e⟩:=cell_has (n:=s.heap.objs.size+1) k
   refine .inr ⟨.inl k,c,e,?_⟩
   have q:=x.cell y c e
   rw[bindC_get ndP hp hu (by show scope.names.lookup y≠_;rw[k];decide)]at q
   exact q
 ·exact e0.hok.fresh (Nat.le_of_lt (x.above y c (PySem.mem_of_lookup h)))
 ·unfold start
  show _=N.length
  rw[List.length_append,List.length_map,List.length_replicate]
  omega
theorem fn_of{CX:CXT}{P:Program}{w:World}{K:FrgT}{mg:BinT}{base:Heap}{k:Nat}{f:Addr}{name qual:Str}{params:Arguments}{body:List Stmt}{scope:Scope}{dV kV doc pm cdv ct oc:Value}{an od:Option Addr}
  {osl:Array (Option Value)}{N ps:List Str}{sp:Sp}(lk:K.lookup f=some ⟨oc,od,.func (W.fnOf name qual params body scope dV kV doc pm an cdv ct),osl⟩) (hcd:W.codeIn K cdv qual=true) (S:FnScope N ps scope)
  (len:∀vs H Q E,sp vs H Q E→vs.length=ps.length)
  (hbody:∀(A:Around)(outer:List Env)(s:Shared)(H:Hp)(vs:List V)(Q:VK)(E:XK),Room k (A.deeper (envOfC qual scope s.heap.objs.size f cdv))→sp vs H Q E→
   ∃t,PSs (cxOf CX P w K mg base N qual scope f cdv A outer s H E) body t∧t { nx:=fun _ H'=>Q .non H',rt:=Q } (start N vs) H) :
  FnOk P w K mg base CX (k+1) f (W.fnOf name qual params body scope dV kV doc pm an cdv ct) ps sp:=by
 refine⟨len,fun A outer s H args us vs Q E hr e0 hb r hsp=>?_⟩
 have hl:=len _ _ _ _ hsp
 have KX:K.In s.heap:=e0.mod.kin.keeps fun b o e=>(e0.bs b o e).1
 have lim:s.heap.NoLimit:=e0.mod.nolimit.keeps fun b o e=>(e0.bs b o e).1
 have hkind:∀y∈ps.zip us,scope.names.lookup y.1=some .local∨(scope.names.lookup y.1=some .cell∧((cellsFrom (s.heap.objs.size+1) scope.names []).lookup y.1).isSome=true):=fun⟨n,v⟩ hy=>by
  rcases S.par n (List.of_mem_zip hy).1 with q | q
  ·exact .inl q
  ·exact .inr ⟨q,W.cellsFrom_some _ _ _ (.inl q)⟩
 refine codeAny_call_function hr.depth (KX _ _ lk) rfl S.co S.gen rfl (W.codeRec_of KX hcd) (hb _ _ _ _ ?_)
 refine wpAny_newFunctionEnv_cells S.kind hkind fun env he s1 x=>?_
 subst he
 refine⟨lim.keeps x.toInCall.keep,codeAny_func ?_⟩
 obtain⟨t,ht,hq⟩:=hbody A outer s H vs Q E (hr.deeper _) hsp
 have I:Inv (cxOf CX P w K mg base N qual scope f cdv A outer s H E) [] (start N vs) H s1:=inv_start S hr.hd e0 hl r x
 refine wpAny_mono (ht [] s1 (start N vs) H _ I hq) (fun fl s' hs=>?_) fun e s' hs=>hs
 have fin:∀{σ':St}{H':Hp}{v:V}{u:Value},Inv (cxOf CX P w K mg base N qual scope f cdv A outer s H E) [] σ' H' s'→RelV v u→Q v H'→CE outer P w H s Q u s':=
  fun{σ' H' v u} J rv q=>⟨v,H',J.os,J.bare,J.base,J.hok,rv,q⟩
 cases fl with
 |ret u=>
  obtain⟨v,σ',H',J,rv,q⟩:=hs
  exact fin J rv q
 |next=>
  obtain⟨σ',H',J,q⟩:=hs
  exact fin (v:=V.non) (u:=Value.none) J rfl q
 |brk=>
  obtain⟨_,_,_,q⟩:=hs
  exact False.elim q
 |cont=>
  obtain⟨_,_,_,q⟩:=hs
  exact False.elim q
section
variable{X:Cx}{x:Str}{p pos:Pos}{e:Expr}{es:List Expr}{t:TA}{id T:String}{r:List V→Hp→VK→Prop}
noncomputable def tCB(r:List V→Hp→VK→Prop)(t:TA):TE:=fun σ H Q=>t σ H fun vs H1=>r vs H1 Q
theorem pe_callB(hc:CallR X (.builtin id) r)(hg:Gl X x)(hm:X.mg x=none)(hv:bootBuiltins x=some (.builtin id))(ha:PA X (e::es) t)(hn:x≠"__name__":=by decide)(hdb:(x==("__debug__":Str))=false:=by decide)
  (he:starEach (e::es) X.env=(false,eval e X.env)::starEach es X.env:=by rfl) (hpl:(backTo pos (starEach es X.env)).any (·.1)=false:=by rfl):PE X (.Call (.Name x p) (e::es) [] pos) (tCB r t):=by
 intro pins s σ H Q I h
 refine wpAny_Call_Name_kw (ld_blt I hg hm hv ?_ hn hdb)
 exact PyProof.Rows.callWith_builtin1 (thn (ha pos pins s σ H _ I h) fun us s1 ⟨vs,H1,I1,r1,q1⟩=>hc pins s1 σ H1 vs us Q I1 r1 q1) he hpl
theorem pe_callTy(hc:CallR X (.type T) r)(hg:Gl X x)(hm:X.mg x=none)(hv:bootBuiltins x=some (.type T))(ha:PA X (e::es) t)(hn:x≠"__name__":=by decide)(hdb:(x==("__debug__":Str))=false:=by decide)
  (he:starEach (e::es) X.env=(false,eval e X.env)::starEach es X.env:=by rfl) (hpl:(backTo pos (starEach es X.env)).any (·.1)=false:=by rfl):PE X (.Call (.Name x p) (e::es) [] pos) (tCB r t):=by
 intro pins s σ H Q I h
 refine wpAny_Call_Name_kw (ld_blt I hg hm hv ?_ hn hdb)
 exact PyProof.Rows.callWith_type1 (thn (ha pos pins s σ H _ I h) fun us s1 ⟨vs,H1,I1,r1,q1⟩=>hc pins s1 σ H1 vs us Q I1 r1 q1) he hpl
end
end L2
namespace HT
open PySem PyProof.Rows
section
variable{prog:Program}{w:World}{A:Around}{E:ExcT}{s:Shared}
noncomputable def sIx(n d:Nat):Option Int→Nat
 |none=>d
 |some v=>if v<0 then(v+(n:Int)).toNat else min v.toNat n
theorem sIx_none(n d:Nat):sIx n d none=d:=rfl
theorem sIx_nat(n d k:Nat):sIx n d (some (k:Int))=min k n:=by
 show(if(k:Int)<0 then((k:Int)+(n:Int)).toNat else min (k:Int).toNat n)=min k n
 rw[if_neg (by omega),Int.toNat_natCast]
theorem sIx_le(n d:Nat)(hd:d≤n)(o:Option Int):sIx n d o≤n:=by
 cases o with
 |none=>exact hd
 |some v=>
  show(if v<0 then(v+(n:Int)).toNat else min v.toNat n)≤n
  by_cases hv:v<0
  ·rw[if_pos hv];omega
  ·rw[if_neg hv];exact Nat.min_le_right _ _
theorem clip_eq(v:Int)(n d:Nat):(if v<0 then max (v+(n:Int)) 0 else min v (n:Int))=((sIx n d (some v):Nat):Int):=by
 show(if v<0 then max (v+(n:Int)) 0 else min v (n:Int))=(((if v<0 then(v+(n:Int)).toNat else min v.toNat n):Nat):Int)
 by_cases hv:v<0
 ·simp only[if_pos hv];omega
 ·simp only[if_neg hv];omega
theorem adjust_gen(lo hi:Option Int)(n:Nat):Builtin.Slice.sliceAdjust lo hi 1 (n:Int)=(((sIx n 0 lo:Nat):Int),((sIx n n hi:Nat):Int)):=by
 have h1:¬((1:Int)<0):=by omega
 unfold Builtin.Slice.sliceAdjust
 simp only[h1,if_false]
 refine Prod.ext ?_ ?_
 ·cases lo with
  |none=>rfl
  |some v=>exact clip_eq v n 0
 ·cases hi with
  |none=>rfl
  |some v=>exact clip_eq v n n
theorem places_gen(i j:Nat):Builtin.Slice.slicePlaces (i:Int) (j:Int) 1=j-i:=by
 unfold Builtin.Slice.slicePlaces
 have h1:(1:Int) > 0:=by omega
 simp only[h1,if_true,Int.ediv_one]
 split<;>omega
theorem slicePart_{v:Value}{o:Option Int}{Q:Option Int→Shared→Prop}(p:IsPart v o)(h:Q o s):wpAny (model prog w) A (Builtin.Slice.slicePartIndex v) Q E s:=by
 cases p with
 |none=>exact slicePart_none h
 |int i t=>exact slicePart_int h
theorem sliceApplied_gen{sl:Addr}{vl vu:Value}{lo hi:Option Int}{n:Nat}{Q:Int×Int×Nat→Shared→Prop}(hs:s.heap.IsSliceOf sl vl vu .none)(pl:IsPart vl lo)(pu:IsPart vu hi)
  (h:Q (((sIx n 0 lo:Nat):Int),1,sIx n n hi-sIx n 0 lo) s):wpAny (model prog w) A (Builtin.Slice.sliceApplied (.ref sl) (pure (n:Int))) Q E s:=by
 obtain⟨os,hos,hcs,hds⟩:=id hs
 unfold Builtin.Slice.sliceApplied Builtin.Slice.sliceFields
 refine wpAny_bind (wpAny_bind (wpAny_field hos hds (x:=vl) rfl (wpAny_bind (wpAny_field hos hds (x:=vu) rfl (wpAny_bind (wpAny_field hos hds (x:=.none) rfl (wpAny_pure ?_)))))))
 refine wpAny_bind (slicePart_none ?_)
 show wpAny _ _ (if((1:Int)==0)=true then _ else _) _ _ s
 rw[if_neg (by decide)]
 refine wpAny_bind (slicePart_ pl (wpAny_bind (slicePart_ pu (wpAny_bind (wpAny_pure ?_)))))
 show wpAny _ _ (match Builtin.Slice.sliceAdjust lo hi 1 (n:Int)with | (lo,hi)=>pure (lo,(1:Int),Builtin.Slice.slicePlaces lo hi 1)) _ _ s
 rw[adjust_gen lo hi n]
 show wpAny _ _ (pure (((sIx n 0 lo:Nat):Int),(1:Int),Builtin.Slice.slicePlaces ((sIx n 0 lo:Nat):Int) ((sIx n n hi:Nat):Int) 1)) _ _ s
 rw[places_gen]
 exact wpAny_pure h
theorem pick_gen(xs:Array Value)(i k:Nat):((List.range k).filterMap fun(m:Nat)=>xs[((i:Int)+(m:Int)*1).toNat]?).toArray=((xs.toList.drop i).take k).toArray:=by
 have e:(fun(m:Nat)=>xs[((i:Int)+(m:Int)*1).toNat]?)=fun m=>xs[i+m]?:=by
  funext m
  have:((i:Int)+(m:Int)*1).toNat=i+m:=by omega
  rw[this]
 rw[e]
 have:=pick_run xs i k
 rw[List.filterMap_map]at this
 have e2:((fun x=>xs[x]?)∘fun x=>i+x)=fun m=>xs[i+m]?:=rfl
 rw[e2]at this
 rw[this]
theorem getItem_tuple_cut{t sl:Addr}{items:Array Value}{vl vu:Value}{lo hi:Option Int}{Q:ExcT}(ht:IsTup s.heap t items)(hs:s.heap.IsSliceOf sl vl vu .none)(pl:IsPart vl lo)(pu:IsPart vu hi)
  (hw:¬(sIx items.size 0 lo=0∧sIx items.size items.size hi=items.size))
  (h:Q (.ref s.heap.objs.size) { s with heap:=s.heap.push { cls:=.type "tuple",data:=.seq ((items.toList.drop (sIx items.size 0 lo)).take (sIx items.size items.size hi-sIx items.size 0 lo)).toArray } })
  (hsz:items.size≤sizeLine):wpAny (model prog w) A (getItem (.ref t) (.ref sl)) Q E s:=by
 have htake:sizeOk (.seq ((items.toList.drop (sIx items.size 0 lo)).take (sIx items.size items.size hi-sIx items.size 0 lo)).toArray):=by
  show((items.toList.drop (sIx items.size 0 lo)).take (sIx items.size items.size hi-sIx items.size 0 lo)).toArray.size≤sizeLine
  rw[List.size_toArray,List.length_take,List.length_drop,Array.length_toList]
  omega
 have hj:sIx items.size items.size hi≤items.size:=sIx_le _ _ (Nat.le_refl _) hi
 obtain⟨os,hos,hcs,hds⟩:=id hs
 have hTs:s.TypeIs (.ref sl) "slice":=⟨os,hos,hcs⟩
 unfold getItem
 try with_reducible refine wpAny_holding ?_
 first | refine wpAny_bind (wpAny_pure ?_) | skip
 refine wpAny_bind (wpAny_sequenceKey ht.typeIs (by decide) ?_)
 refine wpAny_bind (wpAny_callSpecial?_slot (name:=Str.ofString "__getitem__") ht.typeIs PyProof.Rows.slot_tuple_getitem
  (wpAny_call_entry PyProof.Rows.slot_tuple_getitem ht.typeIs entry_tuple_getitem ?_ (args_tuple_getitem _ _)))
 show wpAny _ _ (Builtin.Tuple.tupleItemsOf (.ref t) >>= _) _ _ s
 refine wpAny_bind (tupleItemsOf_ ht ?_)
 refine wpAny_bind (wpAny_typeOf hTs ?_)
 rw[if_pos (by decide)]
 refine wpAny_bind (sliceApplied_gen hs pl pu ?_)
 have hno:¬((((sIx items.size 0 lo:Nat):Int)==0&&(1:Int)==1&&(sIx items.size items.size hi-sIx items.size 0 lo)==items.size)=true):=by
  intro q
  rw[Bool.and_eq_true,Bool.and_eq_true]at q
  have q1:((sIx items.size 0 lo:Nat):Int)=0:=eq_of_beq q.1.1
  have q2:sIx items.size items.size hi-sIx items.size 0 lo=items.size:=eq_of_beq q.2
  exact hw ⟨by omega,by omega⟩
 show wpAny _ _ (if(((sIx items.size 0 lo:Nat):Int)==0&&(1:Int)==1&&(sIx items.size items.size hi-sIx items.size 0 lo)==items.size)=true then _ else _) _ _ s
 rw[if_neg hno,pick_gen]
 first
  |exact wpAny_bind (m:=Builtin.Tuple.tupleExact _) (wpAny_newObj_type (wpAny_pure ⟨_,rfl,wpAny_pure h⟩) htake)
  |exact wpAny_bind (m:=Builtin.Tuple.tupleExact _) (wpAny_newObj_type (wpAny_bind (wpAny_pure (wpAny_pure ⟨_,rfl,wpAny_pure h⟩))) htake)
  |exact wpAny_bind (wpAny_bind (m:=Builtin.Tuple.tupleExact _) (wpAny_newObj_type (wpAny_pure (wpAny_pure ⟨_,rfl,wpAny_pure h⟩)) htake))
  |exact wpAny_bind (wpAny_bind (m:=Builtin.Tuple.tupleExact _) (wpAny_newObj_type (wpAny_pure ⟨_,rfl,wpAny_pure h⟩) htake))
end
end HT
namespace L2
open PySem PySem.Spec PyProof.Rows
noncomputable abbrev TO:=St→Hp→(Option Int→Hp→Prop)→Prop
def PO(X:Cx)(e:Option Expr)(t:TO):Prop:=
 ∀(pins:PinT)(s:Shared)(σ:St)(H:Hp)(Q:Option Int→Hp→Prop),Inv X pins σ H s→t σ H Q→
  wpAny (model X.prog X.w) X.A (evalPart e X.env) (fun u s'=>∃o H',Inv X pins σ H' s'∧IsPart u o∧Q o H') X.xe s
noncomputable def tNoPart:TO:=fun _ H Q=>Q none H
noncomputable def tPart(t:TE):TO:=fun σ H Q=>t σ H fun x H1=>∃i,x=.int i∧Q (some i) H1
section
variable{X:Cx}{e:Expr}{te:TE}{lo hi:Option Expr}{tl th:TO}{pos p2:Pos}
theorem po_none:PO X none tNoPart:=by
 intro pins s σ H Q I h
 rw[evalPart_none]
 exact wpAny_pure ⟨none,H,I,.none,h⟩
theorem po_some(h:PE X e te):PO X (some e) (tPart te):=by
 intro pins s σ H Q I hw
 rw[evalPart_some]
 refine thn (h pins s σ H _ I hw) fun u s1 ⟨x,H1,I1,r1,q1⟩=>?_
 obtain⟨i,rfl,q⟩:=q1
 obtain⟨t,rfl⟩:=r1
 exact⟨some i,H1,I1,.int i t,q⟩
def SlR(X:Cx)(r:V→Option Int→Option Int→Hp→VK→Prop):Prop:=
 ∀(pins:PinT)(s:Shared)(σ:St)(H:Hp)(x:V)(v vl vu:Value)(lo hi:Option Int)(sl:Addr)(Q:VK),Inv X pins σ H s→RelV x v→s.heap.IsSliceOf sl vl vu .none→IsPart vl lo→IsPart vu hi→r x lo hi H Q→
  ∃T id,typeLookup (.type T) "__getitem__"=pure (some (.builtin id))∧s.TypeIs v T∧wpAny (model X.prog X.w) X.A (getItem v (.ref sl)) (EP X pins σ Q) X.xe s
theorem SlR.or{r r':V→Option Int→Option Int→Hp→VK→Prop}(h:SlR X r)(h':SlR X r'):SlR X (fun x lo hi H Q=>r x lo hi H Q∨r' x lo hi H Q):=by
 intro pins s σ H x v vl vu lo hi sl Q I rx hs pl pu q
 rcases q with q | q
 ·exact h pins s σ H x v vl vu lo hi sl Q I rx hs pl pu q
 ·exact h' pins s σ H x v vl vu lo hi sl Q I rx hs pl pu q
noncomputable def tSl(r:V→Option Int→Option Int→Hp→VK→Prop)(te:TE)(tl th:TO):TE:=fun σ H Q=>te σ H fun x H1=>tl σ H1 fun l H2=>th σ H2 fun u H3=>r x l u H3 Q
theorem pe_slice{r:V→Option Int→Option Int→Hp→VK→Prop}(hr:SlR X r)(he:PE X e te)(hl:PO X lo tl)(hu:PO X hi th):PE X (.Subscript e (.Slice lo hi none p2) pos) (tSl r te tl th):=by
 intro pins s σ H Q I h
 refine Subscript_ (thn (he pins s σ H _ I h) fun v s1 ⟨x,H1,I1,r1,q1⟩=>?_)
 refine wpAny_Slice (thn (hl pins s1 σ H1 _ I1 q1) fun vl s2 ⟨l,H2,I2,pl,q2⟩=>thn (hu pins s2 σ H2 _ I2 q2) fun vu s3 ⟨u,H3,I3,pu,q3⟩=>?_)
 rw[evalPart_none]
 refine wpAny_pure ?_
 have I4:Inv X pins σ H3 { s3 with heap:=s3.heap.push { cls:=.type "slice",data:=.fields #[vl,vu,.none] } }:=I3.kept (t':=s3.toks) fun b ob q=>Heap.get?_push_of_some _ q
 obtain⟨T,id,hT,ht,hg⟩:=hr pins { s3 with heap:=s3.heap.push { cls:=.type "slice",data:=.fields #[vl,vu,.none] } } σ H3 x v vl vu l u s3.heap.objs.size Q I4 r1 (Heap.IsSliceOf.new ..) pl pu q3
 show wpAny (model X.prog X.w) X.A (subscriptTail e (.Slice lo hi none p2) v (.ref s3.heap.objs.size)) (EP X pins σ Q) X.xe { s3 with heap:=s3.heap.push { cls:=.type "slice",data:=.fields #[vl,vu,.none] } }
 exact tail_any (ops:=[.ref s3.heap.objs.size,v]) ht hT hg (by with_unfolding_all rfl)
noncomputable def cutV(xs:List V)(lo hi:Option Int):List V:=(xs.drop (HT.sIx xs.length 0 lo)).take (HT.sIx xs.length xs.length hi-HT.sIx xs.length 0 lo)
theorem cutV_length(xs:List V)(lo hi:Option Int):(cutV xs lo hi).length≤xs.length:=by
 unfold cutV
 rw[List.length_take,List.length_drop]
 omega
noncomputable def rSlT(K:FrgT):V→Option Int→Option Int→Hp→VK→Prop:=fun x lo hi H Q=>∃a xs,x=.ref a∧SqT K H a xs∧
 ¬(HT.sIx xs.length 0 lo=0∧HT.sIx xs.length xs.length hi=xs.length)∧∀p,H p=none→Q (.ref p) (upd H p (.tup (cutV xs lo hi)))
theorem sl_tup:SlR X (rSlT X.K):=by
 intro pins s σ H x v vl vu lo hi sl Q I rx hs pl pu h
 obtain⟨a,xs,rfl,hx,hw,q⟩:=h
 cases rx
 obtain⟨its,r,ht,hz⟩:=I.tuple hx
 have hlen:its.toArray.size=xs.length:=by rw[List.size_toArray];exact r.length.symm
 refine⟨"tuple",_,PyProof.Rows.slot_tuple_getitem.lookup,ht.typeIs,?_⟩
 refine HT.getItem_tuple_cut ht hs pl pu (by rw[hlen];exact hw) ?_ (by rw[hlen];exact hz)
 rw[hlen]
 refine⟨.ref s.heap.objs.size,_,I.laid (t':=s.toks) (o:=.tup (cutV xs lo hi)) (fun b ob q=>Heap.get?_push_of_some _ q) (Nat.le_refl _) ?_,rfl,q _ (I.hok.fresh (Nat.le_refl _))⟩
 exact⟨Nat.le_trans (cutV_length xs lo hi) hz,_,(r.drop (HT.sIx xs.length 0 lo)).take (HT.sIx xs.length xs.length hi-HT.sIx xs.length 0 lo),IsTup.new _ _⟩
end
noncomputable def ixN(n:Nat)(i:Int):Option Nat:=if 0≤i then(if i<n then some i.toNat else none)else if -(n:Int)≤i then some (i+n).toNat else none
noncomputable def atI{α:Type}(xs:List α)(i:Int):Option α:=(ixN xs.length i).bind fun j=>xs[j]?
theorem ixN_seq{n:Nat}{i:Int}{j:Nat}(h:ixN n i=some j):seqIndex? i n=some j∧j<n∧-(n:Int)≤i∧i<n:=by
 unfold ixN at h
 by_cases h0:0≤i
 ·rw[if_pos h0]at h
  by_cases h1:i<n
  ·rw[if_pos h1]at h
   have e:i.toNat=j:=Option.some.inj h
   exact⟨by rw[seqIndex_of h0 h1,e],by omega,by omega,h1⟩
  ·rw[if_neg h1]at h;cases h
 ·rw[if_neg h0]at h
  by_cases h1:-(n:Int)≤i
  ·rw[if_pos h1]at h
   have e:(i+n).toNat=j:=Option.some.inj h
   exact⟨by rw[seqIndex_neg (by omega) h1,e],by omega,h1,by omega⟩
  ·rw[if_neg h1]at h;cases h
theorem atI_get{α:Type}{xs:List α}{i:Int}{v:α}(h:atI xs i=some v):∃j,seqIndex? i xs.length=some j∧xs[j]? = some v∧j<xs.length∧-(xs.length:Int)≤i∧i<xs.length:=by
 unfold atI at h
 cases e:ixN xs.length i with
 |none=>rw[e]at h;cases h
 |some j=>
  rw[e]at h
  obtain⟨h1,h2,h3,h4⟩:=ixN_seq e
  exact⟨j,h1,h,h2,h3,h4⟩
theorem atI_nat{α:Type}{xs:List α}{j:Nat}{v:α}(h:xs[j]? = some v):atI xs (j:Int)=some v:=by
 have hj:j<xs.length:=(List.getElem?_eq_some_iff.mp h).1
 have e:ixN xs.length (j:Int)=some j:=by
  unfold ixN
  rw[if_pos (by omega),if_pos (by omega)];simp
 unfold atI;rw[e];exact h
def PlainIx(b:Expr):Prop:=∀o i,subscripted b false o i=operate [o,i] (getItem o i)
def IxR(X:Cx)(r:R2):Prop:=
 ∀(value slice:Expr)(pins:PinT)(s:Shared)(σ:St)(H:Hp)(x y:V)(v u:Value)(Q:VK),Inv X pins σ H s→RelV x v→RelV y u→r x y H Q→
  subscripted slice false v u=operate [v,u] (getItem v u)→wpAny (model X.prog X.w) X.A (subscriptTail value slice v u) (EP X pins σ Q) X.xe s
def MtR(X:Cx)(id:String)(r:V→List V→Hp→VK→Prop):Prop:=
 ∀(pins:PinT)(s:Shared)(σ:St)(H:Hp)(x:V)(xs:List V)(v:Value)(us:List Value)(Q:VK),Inv X pins σ H s→RelV x v→Vals xs us→r x xs H Q→
  wpAny (model X.prog X.w) X.A (call (.builtin id) (v::us)) (EP X pins σ Q) X.xe s
section
variable{X:Cx}{a b:Expr}{ta tb:TE}{pos:Pos}
theorem IxR.or{r r':R2}(h:IxR X r)(h':IxR X r'):IxR X (fun x y H Q=>r x y H Q∨r' x y H Q):=by
 intro value slice pins s σ H x y v u Q I rx ry q hs
 rcases q with q | q
 ·exact h value slice pins s σ H x y v u Q I rx ry q hs
 ·exact h' value slice pins s σ H x y v u Q I rx ry q hs
theorem pe_ix{r:R2}(hr:IxR X r)(ha:PE X a ta)(hb:PE X b tb)(hs:PlainIx b):PE X (.Subscript a b pos) (tOp r ta tb):=by
 intro pins s σ H Q I h
 exact Subscript_ (binT ha hb I h fun v u s2 x y H2 I2 rx ry q=>hr a b pins s2 σ H2 x y v u Q I2 rx ry q (hs _ _))
noncomputable def rIxL(K:FrgT):R2:=fun x y H Q=>∃p xs i v,x=.ref p∧y=.int i∧SqL K H p xs∧atI xs i=some v∧Q v H
noncomputable def rIxT(K:FrgT):R2:=fun x y H Q=>∃p xs i v,x=.ref p∧y=.int i∧SqT K H p xs∧atI xs i=some v∧Q v H
noncomputable def rIxS:R2:=fun x y H Q=>∃z i c,x=.str z∧y=.int i∧z.length≤sizeLine∧atI z.cps.toList i=some c∧Q (.str ⟨#[c]⟩) H
theorem ix_list:IxR X (rIxL X.K):=by
 intro value slice pins s σ H x y v u Q I rx ry h hs
 obtain⟨p,xs,i,z,rfl,rfl,hq,he,q⟩:=h
 cases rx
 obtain⟨t,rfl⟩:=ry
 obtain⟨its,r,pl,hz⟩:=I.list hq
 obtain⟨j,h1,h2,h3,h4,h5⟩:=atI_get he
 obtain⟨w,ew,rw'⟩:=r.get h2
 have hl:=r.length
 have hn:=line63
 have fin:EP X pins σ Q w s:=⟨z,H,I,rw',q⟩
 by_cases h0:0≤i
 ·have hj:i.toNat=j:=by
   rw[seqIndex_of h0 h5]at h1
   exact Option.some.inj h1
  exact item_listR pl.isList h0 (by omega) (by rw[hj];simpa using ew) fin hs
 ·have hj:(i+(its.toArray.size:Int)).toNat=j:=by
   rw[seqIndex_neg (by omega) h4]at h1
   rw[List.size_toArray,←hl]
   exact Option.some.inj h1
  exact subscriptTail_builtinR (x:=w) pl.isList.typeIs slot_list_getitem.lookup
   (wpAny_getItem_list_neg (Q:=fun r s'=>r=w∧EP X pins σ Q r s') pl.isList (by omega) (by rw[List.size_toArray]<;>omega) (by omega) (by rw[hj];simpa using ew) ⟨rfl,fin⟩) hs
theorem ix_tup:IxR X (rIxT X.K):=by
 intro value slice pins s σ H x y v u Q I rx ry h hs
 obtain⟨p,xs,i,z,rfl,rfl,hq,he,q⟩:=h
 cases rx
 obtain⟨t,rfl⟩:=ry
 obtain⟨its,r,pl,hz⟩:=I.tuple hq
 obtain⟨j,h1,h2,h3,h4,h5⟩:=atI_get he
 obtain⟨w,ew,rw'⟩:=r.get h2
 have hl:=r.length
 have hn:=line63
 have fin:EP X pins σ Q w s:=⟨z,H,I,rw',q⟩
 exact subscriptTail_builtinR (x:=w) pl.typeIs slot_tuple_getitem.lookup
  (getItem_tuple (j:=j) (Q:=fun r s'=>r=w∧EP X pins σ Q r s') pl (by omega) (by omega) (by rw[List.size_toArray,←hl];exact h1) (by simpa using ew) ⟨rfl,fin⟩) hs
theorem ix_str:IxR X rIxS:=by
 intro value slice pins s σ H x y v u Q I rx ry h hs
 obtain⟨z,i,c,rfl,rfl,hz,he,q⟩:=h
 obtain⟨t,rfl⟩:=rx
 obtain⟨t',rfl⟩:=ry
 obtain⟨j,h1,h2,h3,h4,h5⟩:=atI_get he
 have hl:z.cps.toList.length=z.length:=by simp[Str.length]
 rw[hl]at h1 h4 h5
 have hn:=line63
 exact tail_any (typeIs_str s z t) slot_str_getitem.lookup (getItem_str (c:=c) (by
  have e1:decide (i < -(2 ^ 63:Int))=false:=decide_eq_false (by omega)
  have e2:decide (i≥2 ^ 63)=false:=decide_eq_false (by omega)
  rw[e1,e2,Bool.or_false]) (by rw[h1];simpa using h2) ⟨.str ⟨#[c]⟩,H,I.tok _,⟨_,rfl⟩,q⟩) hs
noncomputable def rIx(K:FrgT):R2:=fun x y H Q=>rIxL K x y H Q∨rIxT K x y H Q∨rIxS x y H Q
theorem ix_seq:IxR X (rIx X.K):=ix_list.or (ix_tup.or ix_str)
theorem slice_bounds(lo hi:Option Int)(n:Nat):(sliceBounds lo hi none n).1=((HT.sIx n 0 lo:Nat):Int)∧(sliceBounds lo hi none n).2.1=((HT.sIx n n hi:Nat):Int)∧(sliceBounds lo hi none n).2.2=1:=by
 refine⟨?_,?_,rfl⟩
 ·cases lo with
  |none=>simp[sliceBounds,HT.sIx]
  |some i=>
   simp only[sliceBounds,HT.sIx,Option.getD_none,show(1:Int) > 0 by decide,if_true]
   by_cases h:i<0
   ·simp only[h,if_true]<;>omega
   ·simp only[h,if_false]<;>omega
 ·cases hi with
  |none=>simp[sliceBounds,HT.sIx]
  |some i=>
   simp only[sliceBounds,HT.sIx,Option.getD_none,show(1:Int) > 0 by decide,if_true]
   by_cases h:i<0
   ·simp only[h,if_true]<;>omega
   ·simp only[h,if_false]<;>omega
theorem slicePick_cut(its:List Value)(lo hi:Option Int):slicePick its.toArray lo hi none=((its.drop (HT.sIx its.length 0 lo)).take (HT.sIx its.length its.length hi-HT.sIx its.length 0 lo)).toArray:=by
 obtain⟨h1,h2,h3⟩:=slice_bounds lo hi its.toArray.size
 unfold slicePick
 rw[h1,h2,h3]
 simp only[sliceRange_one,pick_run,List.size_toArray]<;>rfl
noncomputable def rSlL(K:FrgT):V→Option Int→Option Int→Hp→VK→Prop:=fun x lo hi H Q=>∃a xs,x=.ref a∧SqL K H a xs∧∀p,H p=none→Q (.ref p) (upd H p (.lst (cutV xs lo hi)))
theorem sl_list:SlR X (rSlL X.K):=by
 intro pins s σ H x v vl vu lo hi sl Q I rx hs pl pu h
 obtain⟨a,xs,rfl,hx,q⟩:=h
 cases rx
 obtain⟨its,r,ht,hz⟩:=I.list hx
 have hlen:=r.length
 refine⟨"list",_,slot_list_getitem.lookup,ht.isList.typeIs,?_⟩
 refine wpAny_getItem_list_slice ht.isList hs pl pu .none (by simp) ?_ (by rw[List.size_toArray]<;>omega)
 rw[slicePick_cut,←hlen]
 refine⟨.ref s.heap.objs.size,_,I.laid (t':=s.toks) (o:=.lst (cutV xs lo hi)) (fun b ob q=>Heap.get?_push_of_some _ q) (Nat.le_refl _) ?_,rfl,q _ (I.hok.fresh (Nat.le_refl _))⟩
 exact⟨Nat.le_trans (cutV_length xs lo hi) hz,_,0,(r.drop (HT.sIx xs.length 0 lo)).take (HT.sIx xs.length xs.length hi-HT.sIx xs.length 0 lo),Heap.get?_push_size _ rfl⟩
noncomputable def flatV:V→Bool
 |.non=>true
 |.bl _=>true
 |.int _=>true
 |.str _=>true
 |_=>false
noncomputable def eqV:V→V→Bool
 |.non,.non=>true
 |.bl a,.bl b=>a==b
 |.bl a,.int b=>(if a then 1 else 0)==b
 |.int a,.bl b=>a==(if b then 1 else 0)
 |.int a,.int b=>a==b
 |.str a,.str b=>a==b
 |_,_=>false
theorem eqAt_V{A:Around}{s:Shared}{y x:V}{u v:Value}(ry:RelV y u)(rx:RelV x v)(fy:flatV y=true)(fx:flatV x=true):SeqAt.EqAt A s u v (eqV y x):=by
 cases y with
 |non=>
  cases ry
  cases x with
  |non=>cases rx;exact SeqAt.EqAt.same _
  |bl b=>cases rx;exact SeqAt.EqAt.none_bool b
  |int b=>obtain⟨t,rfl⟩:=rx;exact SeqAt.EqAt.none_int b t
  |str b=>obtain⟨t,rfl⟩:=rx;exact SeqAt.EqAt.none_str b t
  |_=>exact absurd (show false=true from fx) Bool.false_ne_true
 |bl a=>
  cases ry
  cases x with
  |non=>cases rx;exact SeqAt.EqAt.bool_none a
  |bl b=>cases rx;exact SeqAt.EqAt.bool_bool a b
  |int b=>obtain⟨t,rfl⟩:=rx;exact SeqAt.EqAt.bool_int a b t
  |str b=>obtain⟨t,rfl⟩:=rx;exact SeqAt.EqAt.bool_str a b t
  |_=>exact absurd (show false=true from fx) Bool.false_ne_true
 |int a=>
  obtain⟨t',rfl⟩:=ry
  cases x with
  |non=>cases rx;exact SeqAt.EqAt.int_none a t'
  |bl b=>cases rx;exact SeqAt.EqAt.int_bool a t' b
  |int b=>obtain⟨t,rfl⟩:=rx;exact SeqAt.EqAt.int_int a t' b t
  |str b=>obtain⟨t,rfl⟩:=rx;exact SeqAt.EqAt.int_str a t' b t
  |_=>exact absurd (show false=true from fx) Bool.false_ne_true
 |str a=>
  obtain⟨t',rfl⟩:=ry
  cases x with
  |non=>cases rx;exact SeqAt.EqAt.str_none a t'
  |bl b=>cases rx;exact SeqAt.EqAt.str_bool a t' b
  |int b=>obtain⟨t,rfl⟩:=rx;exact SeqAt.EqAt.str_int a t' b t
  |str b=>obtain⟨t,rfl⟩:=rx;exact SeqAt.EqAt.str_str a t' b t
  |_=>exact absurd (show false=true from fx) Bool.false_ne_true
 |_=>exact absurd (show false=true from fy) Bool.false_ne_true
noncomputable def eqU(x:V)(u:Value):Bool:=match u with
 |.none=>eqV .non x
 |.bool b=>eqV (.bl b) x
 |.int i _=>eqV (.int i) x
 |.str z _=>eqV (.str z) x
 |_=>false
theorem eqU_of{x y:V}{u:Value}(r:RelV y u)(f:flatV y=true):eqU x u=eqV y x:=by
 cases y with
 |non=>cases r;rfl
 |bl b=>cases r;rfl
 |int i=>obtain⟨t,rfl⟩:=r;rfl
 |str z=>obtain⟨t,rfl⟩:=r;rfl
 |_=>exact absurd (show false=true from f) Bool.false_ne_true
theorem any_eqU{x:V}:∀{xs:List V}{us:List Value},Vals xs us→xs.all flatV=true→us.any (eqU x)=xs.any fun y=>eqV y x
 |_,_,.nil,_=>rfl
 |y::xs,u::us,.cons r t,f=>by
  rw[List.all_cons,Bool.and_eq_true]at f
  rw[List.any_cons,List.any_cons,eqU_of r f.1,any_eqU t f.2]
theorem mem_eqAt{A:Around}{s:Shared}{x:V}{v:Value}(rx:RelV x v)(fx:flatV x=true):∀{xs:List V}{us:List Value},Vals xs us→xs.all flatV=true→∀u∈us,SeqAt.EqAt A s u v (eqU x u)
 | _,_,.nil,_=>fun u hu=>by cases hu
 |y::xs,u::us,.cons r t,f=>fun u' hu=>by
  rw[List.all_cons,Bool.and_eq_true]at f
  rcases List.mem_cons.mp hu with rfl | hu
  ·rw[eqU_of r f.1];exact eqAt_V r rx f.1 fx
  ·exact mem_eqAt rx fx t f.2 u' hu
noncomputable def inV(x:V)(xs:List V):Bool:=xs.any fun y=>eqV y x
noncomputable def rIn(K:FrgT)(neg:Bool):R2:=fun x y H Q=>∃p xs,y=.ref p∧(SqL K H p xs∨SqT K H p xs)∧flatV x=true∧xs.all flatV=true∧Q (.bl (if neg then !inV x xs else inV x xs)) H
theorem op_in_seq:OpR X (compareOp .In) (rIn X.K false):=by
 intro pins s σ H x y v u Q I rx ry h
 obtain⟨p,xs,rfl,hq,fx,fs,q⟩:=h
 cases ry
 rcases hq with hq | hq
 ·obtain⟨its,r,pl,hz⟩:=I.list hq
  refine SeqAt.in_listAt (eqU x) pl.isList (fun w hw=>mem_eqAt rx fx r fs w (by simpa using hw)) ⟨.bl _,H,I,rfl,?_⟩
  rw[show its.toArray.any (eqU x)=its.any (eqU x)by simp,any_eqU r fs]
  exact q
 ·obtain⟨its,r,pl,hz⟩:=I.tuple hq
  refine SeqAt.in_tupleAt (eqU x) pl (fun w hw=>mem_eqAt rx fx r fs w (by simpa using hw)) ⟨.bl _,H,I,rfl,?_⟩
  rw[show its.toArray.any (eqU x)=its.any (eqU x)by simp,any_eqU r fs]
  exact q
theorem call_len_seq:CallR X (.builtin "len") (fun xs H Q=>∃p ys,xs=[.ref p]∧(SqL X.K H p ys∨SqT X.K H p ys)∧Q (.int ys.length) H):=by
 intro pins s σ H xs us Q I r h
 obtain⟨p,ys,rfl,hq,q⟩:=h
 obtain⟨u,rfl,rx⟩:=vals1 r
 cases rx
 have hn:=line63
 rcases hq with hq | hq
 ·obtain⟨its,r',pl,hz⟩:=I.list hq
  have hlen:=r'.length
  exact Calls.call_len_list pl.isList (by simp only[List.size_toArray]<;>omega) ⟨.int ys.length,H,I.tok _,⟨s.toks+1,by rw[List.size_toArray,hlen]⟩,q⟩
 ·obtain⟨its,r',pl,hz⟩:=I.tuple hq
  have hlen:=r'.length
  exact len_tuple pl (by simp only[List.size_toArray]<;>omega) ⟨.int ys.length,H,I.tok _,⟨s.toks+1,by rw[List.size_toArray,hlen]⟩,q⟩
theorem call_len_str:CallR X (.builtin "len") (fun xs H Q=>∃z,xs=[.str z]∧z.length≤sizeLine∧Q (.int z.length) H):=by
 intro pins s σ H xs us Q I r h
 obtain⟨z,rfl,hz,q⟩:=h
 obtain⟨u,rfl,t,rfl⟩:=vals1 r
 have hn:=line63
 exact len_str (by omega) ⟨.int z.length,H,I.tok _,⟨_,rfl⟩,q⟩
theorem call_tuple_of:CallR X (.type "tuple") (fun xs H Q=>∃p ys,xs=[.ref p]∧((SqL X.K H p ys∧∀l,H l=none→Q (.ref l) (upd H l (.tup ys)))∨(SqT X.K H p ys∧Q (.ref p) H))):=by
 intro pins s σ H xs us Q I r h
 obtain⟨p,ys,rfl,h⟩:=h
 obtain⟨u,rfl,rx⟩:=vals1 r
 cases rx
 rcases h with⟨hq,q⟩ | ⟨hq,q⟩
 ·obtain⟨its,r',pl,hz⟩:=I.list hq
  have hlen:=r'.length
  refine call_tuple_list pl.isList (fun h' kp=>?_) (by simp only[List.size_toArray]<;>omega)
  have I1:Inv X pins σ H { s with heap:=h' }:=I.kept (t':=s.toks) kp
  have I2:Inv X pins σ (upd H h'.objs.size (.tup ys)) { s with heap:=h'.push { cls:=.type "tuple",data:=.seq its.toArray } }:=
   I1.laid (t':=s.toks) (fun b o e=>Heap.get?_push_of_some _ e) (Nat.le_refl _) (show ObjOk X.prog X.w _ _ _ (.tup ys)from⟨hz,its,r',IsTup.new _ _⟩)
  exact⟨.ref h'.objs.size,_,I2,rfl,q _ (I1.hok.fresh (Nat.le_refl _))⟩
 ·obtain⟨its,r',pl,hz⟩:=I.tuple hq
  exact call_tuple_same pl ⟨.ref p,H,I,rfl,q⟩
def tyV(K:FrgT)(T:String)(x:V)(H:Hp):Prop:=match x with
 |.str _=>T="str"
 |.int _=>T="int"
 |.ref p=>(T="list"∧∃xs,SqL K H p xs)∨(T="tuple"∧∃o,K.lookup p=some o∧o.cls=.type "tuple"∧o.dict=none)∨
   (T="dict"∧((∃kvs,H p=some (.dK kvs))∨∃kvs,H p=some (.dT kvs)))∨(T="set"∧∃S n,H p=some (.set S n))
 |_=>False
theorem tyV_is{pins:PinT}{σ:St}{H:Hp}{s:Shared}{T:String}{x:V}{v:Value}(I:Inv X pins σ H s)(r:RelV x v)(ty:tyV X.K T x H) :
  s.TypeIs v T∧∀a,v=.ref a→∃ob,s.heap.get? a=some ob∧ob.dict=none:=by
 cases x with
 |str z=>
  obtain⟨t,rfl⟩:=r
  cases(show T="str" from ty)
  exact⟨typeIs_str s z t,fun _ e=>nomatch e⟩
 |int i=>
  obtain⟨t,rfl⟩:=r
  cases(show T="int" from ty)
  exact⟨typeIs_int s i t,fun _ e=>nomatch e⟩
 |ref p=>
  cases r
  rcases ty with⟨rfl,xs,hq⟩ | ⟨rfl,o,hk,hc,hd⟩ | ⟨rfl,hk⟩ | ⟨rfl,S,n,hk⟩
  ·obtain⟨its,_,pl,_⟩:=I.list hq
   refine⟨pl.isList.typeIs,fun a e=>?_⟩
   cases e
   obtain⟨o,n,e,c,hd,_⟩:=pl
   exact⟨o,e,hd⟩
  ·refine⟨⟨o,I.kIn p o hk,hc⟩,fun a e=>?_⟩
   cases e
   exact⟨o,I.kIn _ o hk,hd⟩
  ·have z:∃o,s.heap.get? p=some o∧o.ExactDict:=by
    rcases hk with⟨kvs,hk⟩ | ⟨kvs,hk⟩
    ·obtain⟨_,_,_,_,o,_,_,e,ex,_⟩:=I.hok p _ hk
     exact⟨o,e,ex⟩
    ·obtain⟨_,_,_,_,o,_,_,e,ex,_⟩:=I.hok p _ hk
     exact⟨o,e,ex⟩
   obtain⟨o,e,ex⟩:=z
   refine⟨⟨o,e,ex.1⟩,fun a e2=>?_⟩
   cases e2
   exact⟨o,e,ex.2.1⟩
  ·obtain⟨o,_,_,_,e,ex,_⟩:=I.hok p _ hk
   refine⟨⟨o,e,ex.1⟩,fun a e2=>?_⟩
   cases e2
   exact⟨o,e,ex.2.1⟩
 |_=>exact False.elim ty
noncomputable def tBM0(K:FrgT)(T:String)(r:V→List V→Hp→VK→Prop)(to:TE):TE:=fun σ H Q=>to σ H fun x H1=>tyV K T x H1∧r x [] H1 Q
noncomputable def tBM(K:FrgT)(T:String)(r:V→List V→Hp→VK→Prop)(to:TE)(t:TA):TE:=fun σ H Q=>to σ H fun x H1=>tyV K T x H1∧t σ H1 fun xs H2=>r x xs H2 Q
variable{o e:Expr}{es:List Expr}{to:TE}{t:TA}{name:Str}{apos cpos:Pos}{T id:String}{r:V→List V→Hp→VK→Prop}
theorem pe_bm0(pa:PlainAttrs T)(slot:Slot T name id)(hty:typeOf (.builtin id)=pure (.type "method_descriptor"))(hm:MtR X id r)(ho:PE X o to)
  (hbase:attributeBase o name X.env (eval o X.env)=eval o X.env:=by rfl) (hline:(apos.endLine==cpos.line)=true:=by rfl):PE X (.Call (.Attribute o name apos) [] [] cpos) (tBM0 X.K T r to):=by
 intro pins s σ H Q I h
 refine wpAny_Call_method0_late hbase hline (thn (ho pins s σ H _ I h) fun v s1 ⟨x,H1,I1,r1,ty,q1⟩=>?_)
 obtain⟨h1,h2⟩:=tyV_is I1 r1 ty
 exact⟨T,id,pa,slot,hty,h1,h2,Calls.callWith_builtin rfl (PySem.evalArgs_none (hm pins s1 σ H1 x [] v [] Q I1 r1 .nil q1))⟩
theorem pe_bm(pa:PlainAttrs T)(slot:Slot T name id)(hty:typeOf (.builtin id)=pure (.type "method_descriptor"))(hm:MtR X id r)(ho:PE X o to)(ha:PA X (e::es) t)
  (hbase:attributeBase o name X.env (eval o X.env)=eval o X.env:=by rfl)
  (hfew:((backTo cpos (starEach (e::es) X.env)).all (fun x=>!x.1)&&(backToKw cpos (keywordEach [] X.env)).all (fun x=>x.1.isSome)
&&decide ((e::es).length+([]:List Keyword).length+(if([]:List Keyword).isEmpty then 0 else 1)<30))=true:=by rfl)
  (hline:(apos.endLine==cpos.line)=true:=by rfl) (hs:starEach (e::es) X.env=(false,eval e X.env)::starEach es X.env:=by rfl) (hplain:(backTo cpos (starEach es X.env)).any (·.1)=false:=by rfl) :
  PE X (.Call (.Attribute o name apos) (e::es) [] cpos) (tBM X.K T r to t):=by
 intro pins s σ H Q I h
 refine wpAny_Call_method_late hbase hfew hline rfl (thn (ho pins s σ H _ I h) fun v s1 ⟨x,H1,I1,r1,ty,q1⟩=>?_)
 obtain⟨h1,h2⟩:=tyV_is I1 r1 ty
 refine⟨T,id,pa,slot,hty,h1,h2,?_⟩
 have hA:=ha cpos pins s1 σ H1 _ I1 q1
 rw[hs]at hA ⊢
 refine Calls.callWith_builtin (by show(false||(backTo cpos (starEach es X.env)).any (·.1))=false;rw[hplain]<;>rfl) (Calls.evalArgs_plain ?_)
 exact thn hA fun us s2 ⟨vs,H2,I2,r2,q2⟩=>hm pins s2 σ H2 x vs v us Q I2 r1 r2 q2
end
def MtM(X:Cx)(id:String)(r:V→List V→Hp→VK→Prop):Prop:=
 ∀(pins:PinT)(s:Shared)(σ:St)(H:Hp)(x:V)(xs:List V)(v:Value)(us:List Value)(Q:VK),Inv X pins σ H s→RelV x v→Vals xs us→r x xs H Q→
  wpAny (model X.prog X.w) X.A (call (.builtin id) (v::us)) (EP X pins σ Q) X.xe s
theorem Vals.one:∀{x:V}{us:List Value},Vals [x] us→∃u,us=[u]∧RelV x u
 |_,_,.cons r .nil=>⟨_,rfl,r⟩
section
variable{X:Cx}{pins:PinT}{σ:St}{H:Hp}{s:Shared}{l b:Addr}{xs ys zs:List V}
theorem Inv.lset{its its':List Value}{n:Nat}{f:Array Value→Array Value}{t':Nat}(I:Inv X pins σ H s)(hH:H l=some (.lst xs))
  (e:s.heap.get? l=some { cls:=.type "list",data:=.seq its.toArray n }) (hf:f its.toArray=its'.toArray) (hv:Vals ys its') (hz:ys.length≤sizeLine) :
  Inv X pins σ (upd H l (.lst ys)) { s with heap:=s.heap.update l (Obj.mapSeq f),toks:=t' }:=by
 have q:=IsL.update e f
 rw[hf]at q
 refine I.write (x:=l) (e:=l) (by rw[hH];exact trivial) (.inl rfl) (fun b' u hb hu=>(Heap.get?_update_other s.heap (Obj.mapSeq f) (Ne.symm hb)).trans hu) ⟨_,q⟩ ?_
 exact⟨hz,its',_,hv,q⟩
theorem Inv.lnew{its:List Value}{t':Nat}(I:Inv X pins σ H s)(hv:Vals ys its)(hz:ys.length≤sizeLine) :
  Inv X pins σ (upd H s.heap.objs.size (.lst ys)) { s with heap:=s.heap.push { cls:=.type "list",data:=.seq its.toArray },toks:=t' }:=
 I.laid (fun _ _ q=>Heap.get?_push_of_some _ q) (Nat.le_refl _) ⟨hz,its,0,hv,Heap.get?_push_size _ rfl⟩
theorem Inv.fresh(I:Inv X pins σ H s):H s.heap.objs.size=none:=I.hok.fresh (Nat.le_refl _)
theorem Inv.lstM(I:Inv X pins σ H s)(hH:H l=some (.lst xs)):xs.length≤sizeLine∧∃(its:List Value)(n:Nat),Vals xs its∧xs.length=its.length∧s.heap.get? l=some { cls:=.type "list",data:=.seq its.toArray n }:=by
 obtain⟨z,its,n,r,e⟩:=I.hok l _ hH
 exact⟨z,its,n,r,r.length,e⟩
theorem notLongL{n:Nat}(h:n≤sizeLine):Builtin.List.listTooLong n=false:=by
 unfold Builtin.List.listTooLong
 exact decide_eq_false (by omega)
end
section
variable{X:Cx}
noncomputable def rAppend:V→List V→Hp→VK→Prop:=fun x vs H Q=>∃l xs y,x=.ref l∧vs=[y]∧H l=some (.lst xs)∧xs.length<sizeLine∧Q .non (upd H l (.lst (xs++[y])))
theorem mt_append:MtM X "list.append" rAppend:=by
 intro pins s σ H x vs v us Q I rx rv h
 obtain⟨l,xs,y,rfl,rfl,hH,hz,q⟩:=h
 cases rx
 obtain⟨u,rfl,ru⟩:=rv.one
 obtain⟨z,its,n,r,hl,e⟩:=I.lstM hH
 refine call_meets F.slot_list_append ⟨_,e,rfl⟩ F.entry_list_append (F.args_list_append_2 _ _) (PySem.list_append l its.toArray n u (by rw[List.size_toArray];omega)) ⟨e,?_⟩
 refine⟨.non,_,I.lset (its':=its++[u]) hH e (by simp) (r.append (.cons ru .nil)) ?_,rfl,q⟩
 rw[List.length_append,List.length_singleton]
 omega
noncomputable def rExtend:V→List V→Hp→VK→Prop:=fun x vs H Q=>∃l b xs zs,x=.ref l∧vs=[.ref b]∧H l=some (.lst xs)∧H b=some (.lst zs)∧xs.length+zs.length≤sizeLine∧Q .non (upd H l (.lst (xs++zs)))
theorem mt_extend:MtM X "list.extend" rExtend:=by
 intro pins s σ H x vs v us Q I rx rv h
 obtain⟨l,b,xs,zs,rfl,rfl,hH,hB,hz,q⟩:=h
 cases rx
 obtain⟨u,rfl,ru⟩:=rv.one
 cases ru
 obtain⟨z,its,n,r,hl,e⟩:=I.lstM hH
 obtain⟨z2,its2,n2,r2,hl2,e2⟩:=I.lstM hB
 have hsz:its.toArray.size+its2.toArray.size≤sizeLine:=by rw[List.size_toArray,List.size_toArray];omega
 have hlong:¬(!its.toArray.isEmpty&&Builtin.List.listTooLong (its.toArray.size+its2.toArray.size))=true:=by
  rw[notLongL hsz,Bool.and_false]
  exact Bool.false_ne_true
 refine call_meets F.slot_list_extend ⟨_,e,rfl⟩ F.entry_list_extend (F.args_list_extend_2 _ _)
  (AutoSeq1.list_extend_list_list_0 l its.toArray n b its2.toArray n2 hlong (by rw[List.size_toArray];omega) (by omega)) ⟨e,e2,?_⟩
 refine⟨.non,_,I.lset (its':=its++its2) hH e (by simp) (r.append r2) ?_,rfl,q⟩
 rw[List.length_append]
 omega
noncomputable def rCat:R2:=fun x y H Q=>∃l b xs zs,x=.ref l∧y=.ref b∧H l=some (.lst xs)∧H b=some (.lst zs)∧xs.length+zs.length≤sizeLine∧∀p,H p=none→Q (.ref p) (upd H p (.lst (xs++zs)))
theorem op_cat:OpR X (binaryOp .Add) rCat:=by
 intro pins s σ H x y v u Q I rx ry h
 obtain⟨l,b,xs,zs,rfl,rfl,hH,hB,hz,q⟩:=h
 cases rx
 cases ry
 obtain⟨z,its,n,r,hl,e⟩:=I.lstM hH
 obtain⟨z2,its2,n2,r2,hl2,e2⟩:=I.lstM hB
 refine P.add_list e e2 ?_ (by rw[List.size_toArray,List.size_toArray];omega)
 have ea:its.toArray++its2.toArray=(its++its2).toArray:=by simp
 rw[ea]
 exact⟨.ref _,_,I.lnew (t':=s.toks) (r.append r2) (by rw[List.length_append];omega),rfl,q _ I.fresh⟩
end
end L2
namespace Att
open PySem PySem.W PySem.Calls PyProof.Rows
theorem ints_of_wellAll{P:Params}{h:Heap}:∀(ns:List Int)(vs:List Value),WellAll P h vs (ns.map WData.int)→IntsAre vs ns:=by
 intro ns
 induction ns with
 |nil=>
  intro vs w
  rw[List.map_nil]at w
  cases w
  exact .nil
 |cons n ns ih=>
  intro vs w
  rw[List.map_cons]at w
  cases w with
  |cons a b=>
   cases a
   exact .cons _ _ (ih _ b)
theorem script_of{l:OpenLaw}{n:Nat}(hn:l.most=some n){P:Params}{h:Heap}{args:List WData}{vals:List Value}
  (hpre:l.row.toRowW.claim.pre args=true) (hwl:WellAll P h vals args) :
  ∃a vs ns,vals=[Value.ref a]∧args=[WData.list (ns.map WData.int)]∧h.get? a=some { cls:=.type "list",data:=.seq vs.toArray }∧IntsAre vs ns∧ns.length≤n:=by
 have hsh:WShape.hasAll [] args [.list .int]=true:=(pre_splitW hpre).1
 have hc:l.pre.holds [] { args:=args }=true:=(pre_splitW hpre).2
 obtain⟨d,r,rfl,h1,h2⟩:=hasAllW_cons hsh
 obtain rfl:=hasAllW_nil h2
 obtain⟨xs,rfl,h3⟩:=hasW_list h1
 obtain⟨ns,rfl⟩:=items_int h3
 have hlen:ns.length≤n:=by
  unfold OpenLaw.pre at hc
  have h4:(WTm.not (.lt (.lit (.int (n:Int))) (.len (.arg 0)))).holds [] { args:=[.list (ns.map .int)] }=true:=by
   have h4:=(holds_andW hc).1
   rw[hn]at h4
   exact h4
  have h5:=condW_of h4 (w_not (w_lt w_lit (w_len_list (w_arg rfl))))
  rw[List.length_map]at h5
  refine Nat.le_of_not_lt fun q=>?_
  have q':(n:Int)<((ns.length:Nat):Int):=by omega
  first
   |(rw[decide_eq_true q']at h5;exact absurd h5 (by decide))
   |(simp at h5;omega)
 cases hwl with
 |cons w1 w2=>
  cases w2
  cases w1 with
  |list ho hall=>exact⟨_,_,ns,rfl,rfl,ho,ints_of_wellAll ns _ hall,hlen⟩
theorem post_true(l:OpenLaw)(args:List WData):l.row.toRowW.claim.post args (.bool true) args=true:=
 postW_of (r:=l.row.toRowW) (X:=(true==true))
  (show WShape.has [] (.bool true) .bool=true by first | rfl | decide | simp[WShape.has,WShape.arms,WShape.armsAll])
  (show(WTm.eq .res (.lit (.bool true))).value [] { args:=args,res:=some (.bool true),after:=args }=some (.bool (true==true))from w_eq_bool (w_res rfl) w_lit) rfl
theorem attach_call{l:OpenLaw}{n:Nat}{q:Program}{loose:List Str}{XP:(Str→Option Value)→Heap→Prop}{YP:World→Heap→Prop}{d:DefRec}
  (hn:l.most=some n) (hdf:d.params.defaults=[])
  (call:∀(w:World)(s₀ s₁:Shared)(mg mb:BinT)(fa:Addr)(o:Obj)(pm cd doc:Value)(a:Addr)(vs:List Value)(ns:List Int),
   Ground q loose [] XP w s₀ mg mb s₁.heap→YP w s₁.heap→
   s₁.heap.get? fa=some o→o.data=.func (docDef d.name d.params d.body d.scope pm cd doc)→s₁.heap.CodeRec cd d.name→mg d.name=some (.ref fa)→
   s₁.heap.get? a=some { cls:=.type "list",data:=.seq vs.toArray }→IntsAre vs ns→ns.length≤n→s₁.gens=#[]→
   codeAny (model l.prog w) callerA (.call (.ref fa) ⟨[.ref a],[]⟩) (fun r s'=>r=.ok (.ret (.bool true))∧OldK s₁.heap s'.heap∧s'.os=s₁.os∧AllBare s'.gens) s₁) :
  WalkO q loose XP YP l.row.toRowW d [] (fun f vs=>PySem.call f vs):=by
 intro w s₀ s₁ mg mb G Y fa o pm cd doc dV kV ho hd hcd hD hmg hg args vals as hpre hlay hrd hwl hlo
 obtain rfl:dV=.none:=Dflts.none hD hdf
 obtain rfl:kV=.none:=Dflts.noKw hD
 obtain⟨a,vs,ns,rfl,rfl,hobj,hints,hlen⟩:=script_of hn hpre hwl
 refine enter_call (codeAny_mono (call w s₀ s₁ mg mb fa o pm cd doc a vs ns G Y ho (fd_plain hd) hcd hmg hobj hints hlen hg) fun r s' hq=>?_)
 obtain⟨rfl,h2,h3,h4⟩:=hq
 exact⟨.inl ⟨.bool true,.bool true,[],rfl,fun _=>rfl,.bool true,post_true l _,fun _=>⟨List.Pairwise.nil,fun _ hm=>(nomatch hm)⟩⟩,h2,h3,h4⟩
end Att
namespace L2
open PySem PySem.Spec PyProof.Rows
theorem vals_ints:∀{vs:List Value}{ns:List Int},IntsAre vs ns→Vals (ns.map V.int) vs
 |_,_,.nil=>.nil
 |_,_,.cons n t h=>.cons ⟨t,rfl⟩ (vals_ints h)
def Only(H:Hp):Prop:=∀b,H b=none∨∃o xs,H b=some (.frz o (.lst xs))
theorem law_call{P:Program}{w:World}{K:FrgT}{mg mb:BinT}{CX:CXT}{k:Nat}{fa a:Addr}{fd:FuncData}{x:Str}{sp:Sp}{s₁:Shared}{vs:List Value}{ns:List Int}
  (KX:K.In s₁.heap) (hns:s₁.heap.Ns mainGlobals mg) (hb:s₁.heap.Ns builtinsNs mb) (hbb:∀x:Str,x≠"__name__"→mb x=bootBuiltins x) (hlim:s₁.heap.NoLimit) (hg:s₁.gens=#[])
  (ha:s₁.heap.get? a=some { cls:=.type "list",data:=.seq vs.toArray }) (hi:IntsAre vs ns) (hl:ns.length≤sizeLine) (hr:Room k callerA)
  (F:∀base:Heap,K.In base→base.Ns mainGlobals mg→FnOk P w K mg base CX k fa fd [x] sp) (hbind:∀(s:Shared)(u:Value),BindsTo s fd ⟨[u],[]⟩ [(x,u)])
  (hsp:∀H:Hp,Only H→SqL K H a (ns.map V.int)→sp [.ref a] H (fun v _=>v=.bl true) fun _ _ _=>False)
  (hCX:∀H e s',CX [] H s₁ (fun _ _ _=>False) e s'→False) :
  codeAny (model P w) callerA (.call (.ref fa) ⟨[.ref a],[]⟩) (fun r s'=>r=.ok (.ret (.bool true))∧OldK s₁.heap s'.heap∧s'.os=s₁.os∧AllBare s'.gens) s₁:=by
 have rv:=vals_ints hi
 have lenV:=hi.length
 have core:∀H:Hp,Only H→SqL K H a (ns.map V.int)→HOk P w H s₁.heap→(∀b,H b≠none→b=a)→(H a≠none→K.lookup a=none)→
   codeAny (model P w) callerA (.call (.ref fa) ⟨[.ref a],[]⟩) (fun r s'=>r=.ok (.ret (.bool true))∧OldK s₁.heap s'.heap∧s'.os=s₁.os∧AllBare s'.gens) s₁:=by
  intro H hO hS hok hA hK
  have base_of:∀{b:Addr}{o:Obj},s₁.heap.get? b=some o→H b=none→(hidT s₁.heap H).get? b=some o:=fun e n=>hidT_get e n
  have noA:∀{b:Addr}{o:Obj}{es:Array DictEntry}{ep:Nat},s₁.heap.get? b=some o→o.data=.dict es ep→H b=none:=fun{b o es ep} e d=>by
   cases q:H b with
   |none=>rfl
   |some u=>
    have e':b=a:=hA b (by rw[q];simp)
    subst e'
    rw[ha]at e;cases e
    have d':Data.seq vs.toArray _=Data.dict es ep:=d
    cases d'
  have nsK:∀{b:Addr}{m:BinT},s₁.heap.Ns b m→(hidT s₁.heap H).Ns b m:=fun{b m} ⟨o,es,ep,e,d,r⟩=>⟨o,es,ep,base_of e (noA e d),d,r⟩
  have hKb:K.In (hidT s₁.heap H):=fun b o e=>base_of (KX b o e) (by
   cases q:H b with
   |none=>rfl
   |some u=>
    have e':b=a:=hA b (by rw[q];simp)
    subst e'
    rw[hK (by rw[q];simp)]at e;cases e)
  have hM:Mod K mg (hidT s₁.heap H):=⟨hKb,nsK hns,⟨mb,nsK hb,hbb⟩,let⟨mc,h1,h2⟩:=hlim;⟨mc,nsK h1,h2⟩⟩
  have e0:Env0 P w K mg (hidT s₁.heap H) callerA [] s₁ H:=⟨rfl,hM,fun b o e=>of_hidT e,Nat.le_of_eq (hidT_size _ _),trivial,fun b hb=>absurd (show b∈([]:List Addr)from hb) (by simp),hok,.of_eq hg⟩
  refine codeAny_mono ((F _ hKb (nsK hns)).run callerA [] s₁ H ⟨[.ref a],[]⟩ [.ref a] [.ref a] _ _ hr e0 (hbind s₁ (.ref a)) (.cons rfl .nil) (hsp H hO hS)) fun r s' h=>?_
  cases r with
  |error e=>exact(hCX H e s' h).elim
  |ok fl=>
   cases fl with
   |next=>exact False.elim h
   |brk=>exact False.elim h
   |cont=>exact False.elim h
   |ret u=>
    obtain⟨v,H',os,bare,un,hok',r',q⟩:=h
    have q':v=.bl true:=q
    subst q'
    obtain rfl:u=Value.bool true:=r'
    refine⟨rfl,OldK.of_keep fun b o e=>?_,os,bare⟩
    cases q:H b with
    | none=>exact un.keep b o e q (by intro z;exact absurd (show b∈([]:List Addr)from z) (by simp)) (by simp)
    |some u=>
     rcases hO b with z | ⟨ob,xs,z⟩
     ·rw[q]at z;cases z
     ·have z2:=un.frzs b ob _ z
      obtain⟨e1,_⟩:=hok b _ z
      obtain⟨e2,_⟩:=hok' b _ z2
      rw[e]at e1;cases e1
      exact e2
 cases hk:K.lookup a with
 |some o=>
  have e:=KX a o hk
  rw[ha]at e
  cases e
  refine core (fun _=>none) (fun _=>.inl rfl) (.inr ⟨_,vs.toArray,_,hk,rfl,rfl,rfl,by rw[List.size_toArray,lenV];exact hl,by simpa using rv⟩) (fun b u z=>by have z':(none:Option HO)=some u:=z;cases z') (fun b z=>absurd rfl z) fun z=>absurd rfl z
 |none=>
  refine core (fun b=>if b=a then some (.frz { cls:=.type "list",data:=.seq vs.toArray } (.lst (ns.map V.int)))else none) (fun b=>?_) (.inl (.inr ⟨{ cls:=.type "list",data:=.seq vs.toArray },if_pos rfl⟩)) (fun b u z=>?_) (fun b z=>?_) fun _=>hk
  ·by_cases hb:b=a
   ·exact .inr ⟨_,_,if_pos hb⟩
   ·exact .inl (if_neg hb)
  ·by_cases hb:b=a
   ·have z':=(if_pos hb).symm.trans z
    cases z'
    subst hb
    exact⟨ha,by rw[List.length_map];exact hl,vs,_,rv,ha⟩
   ·have z':=(if_neg hb).symm.trans z
    cases z'
  ·by_cases hb:b=a
   ·exact hb
   ·exact absurd (if_neg hb) z
noncomputable abbrev KOf{K:FrgT}{h:Heap}(_:K.In h):FrgT:=K
theorem walk_of{l:W.OpenLaw}{n k:Nat}{q:Program}{loose:List Str}{XP:(Str→Option Value)→Heap→Prop}{YP:World→Heap→Prop}{d:DefRec}{K:Params→FrgT}{CX:World→CXT}{sp:World→Sp}{x:Str}
  (hn:l.most=some n) (hn2:n≤sizeLine) (hdf:d.params.defaults=[]) (hr:Room k callerA)
  (hY:∀(w:World)(h:Heap),YP w h→(K w.params).In h)
  (F:∀(w:World)(mg:BinT)(fa:Addr)(h:Heap),(K w.params).In h→h.Ns mainGlobals mg→mg d.name=some (.ref fa)→
   ∃fd:FuncData,(∀(s:Shared)(u:Value),BindsTo s fd ⟨[u],[]⟩ [(x,u)])∧
    ∀base:Heap,(K w.params).In base→base.Ns mainGlobals mg→FnOk l.prog w (K w.params) mg base (CX w) k fa fd [x] (sp w))
  (hsp:∀(w:World)(H:Hp)(a:Addr)(ns:List Int),ns.length≤n→Only H→SqL (K w.params) H a (ns.map V.int)→sp w [.ref a] H (fun v _=>v=.bl true) fun _ _ _=>False)
  (hCX:∀(w:World)(H:Hp)(s:Shared)(e:Value)(s':Shared),CX w [] H s (fun _ _ _=>False) e s'→False) :
  W.WalkO q loose XP YP l.row.toRowW d [] (fun f vs=>PySem.call f vs):=by
 refine Att.attach_call hn hdf fun w s₀ s₁ mg mb fa o pm cd doc a vs ns G Y ho hd hcd hmg hobj hints hlen hg=>?_
 have KX:=hY w _ Y
 obtain⟨fd,hb,hF⟩:=F w mg fa _ KX G.T.g hmg
 exact law_call KX G.T.g G.T.b G.T.builtins G.T.nolimit hg hobj hints (Nat.le_trans hlen hn2) hr hF hb (fun H hO hS=>hsp w H a ns hlen hO hS) fun H e s'=>hCX w H s₁ e s'
noncomputable def inClass(s:Stmt)(j:Nat):Stmt:=match s with
 |.ClassDef _ _ _ body _ _ _ _ _ _ _=>body.getD j (.Pass ⟨0,0,0,0⟩)
 |_=>.Pass ⟨0,0,0,0⟩
noncomputable def defArgs(s:Stmt):Arguments:=match s with
 |.FunctionDef _ a _ _ _ _ _ _ _ _=>a
 |_=>{ posonlyargs:=[],args:=[],vararg:=none,kwonlyargs:=[],kw_defaults:=[],kwarg:=none,defaults:=[] }
noncomputable def defBody(s:Stmt):List Stmt:=match s with
 |.FunctionDef _ _ b _ _ _ _ _ _ _=>b
 |_=>[]
noncomputable def defScope(s:Stmt):Scope:=match s with
 |.FunctionDef _ _ _ _ _ _ sc _ _ _=>sc
 |_=>{ kind:=.function,names:=[],isGenerator:=false,isCoroutine:=false }
noncomputable abbrev CX0:CXT:=fun _ _ _ _ _ _=>False
noncomputable abbrev E0:XK:=fun _ _ _=>False
theorem pass0{X:Cx}:Passes CX0 X E0:=fun _ _ _ _ _ _ _ h=>h.elim
structure Fun(K:FrgT)(x qual:Str)(st:Stmt)(f:Addr)(fd:FuncData):Prop where
 ex:∃(oc:Value)(od:Option Addr)(kV doc pm:Value)(an:Option Addr)(cdv ct:Value)(osl:Array (Option Value)),
  fd=W.fnOf x qual (defArgs st) (defBody st) (defScope st) .none kV doc pm an cdv ct∧K.lookup f=some ⟨oc,od,.func fd,osl⟩∧W.codeIn K cdv qual=true
 kp:W.keepIn K (.ref f)=true
section
variable{P:Program}{w:World}{K:FrgT}{mg:BinT}{base:Heap}
theorem Fun.ok{x qual:Str}{st:Stmt}{f:Addr}{fd:FuncData}{N ps:List Str}{k:Nat}{sp:Sp}(F:Fun K x qual st f fd)(S:FnScope N ps (defScope st))(len:∀vs H Q E,sp vs H Q E→vs.length=ps.length)
  (hbody:∀(cdv:Value)(A:Around)(outer:List Env)(s:Shared)(H:Hp)(vs:List V)(Q:VK)(E:XK),Room k (A.deeper (envOfC qual (defScope st) s.heap.objs.size f cdv))→sp vs H Q E→
   ∃t,PSs (cxOf CX0 P w K mg base N qual (defScope st) f cdv A outer s H E).nox (defBody st) t∧t { nx:=fun _ H'=>Q .non H',rt:=Q } (start N vs) H):FnOk P w K mg base CX0 (k+1) f fd ps sp:=by
 obtain⟨oc,od,kV,doc,pm,an,cdv,ct,osl,rfl,lk,hcd⟩:=F.ex
 refine fn_of lk hcd S len fun A outer s H vs Q E hr hsp=>?_
 obtain⟨t,h,q⟩:=hbody cdv A outer s H vs Q E hr hsp
 exact⟨t,h.nox,q⟩
theorem Fun.binds{x qual:Str}{st:Stmt}{f:Addr}{fd:FuncData}{ps:List Str}(F:Fun K x qual st f fd)
  (h:∀(kV doc pm:Value)(an:Option Addr)(cdv ct:Value)(us:List Value),us.length=ps.length→bindArgs (W.fnOf x qual (defArgs st) (defBody st) (defScope st) .none kV doc pm an cdv ct) ⟨us,[]⟩=pure (ps.zip us)):Binds K fd ps []:=by
 obtain⟨oc,od,kV,doc,pm,an,cdv,ct,osl,rfl,lk,hcd⟩:=F.ex
 exact .all (h kV doc pm an cdv ct)
theorem fun_mk{x qual:Str}{st:Stmt}{f:Addr}{oc:Value}{od an:Option Addr}{osl:Array (Option Value)}{kV doc pm cdv ct:Value}(l:K.lookup f=some ⟨oc,od,.func (W.fnOf x qual (defArgs st) (defBody st) (defScope st) .none kV doc pm an cdv ct),osl⟩)
  (c:W.codeIn K cdv qual=true) (k:W.keepIn K (.ref f)=true):Fun K x qual st f (W.fnOf x qual (defArgs st) (defBody st) (defScope st) .none kV doc pm an cdv ct):=⟨⟨oc,od,kV,doc,pm,an,cdv,ct,osl,rfl,l,c⟩,k⟩
end
theorem small1000{n:Nat}(h:n≤1000):n<sizeLine:=Nat.lt_of_le_of_lt h (by decide)
theorem iteF{A B:Prop}(h:B):if false=true then A else B:=by
 rw[if_neg Bool.false_ne_true]
 exact h
theorem iteT{A B:Prop}(h:A):if true=true then A else B:=by
 rw[if_pos rfl]
 exact h
end L2
set_option maxHeartbeats 4000000
namespace L2
open PySem PySem.Spec PyProof.Rows
structure M1(X:Cx)(o:Expr)(m:Str)(apos:Pos)(e:Expr)(cpos:Pos):Prop where
 base:attributeBase o m X.env (eval o X.env)=eval o X.env
 few:((backTo cpos (starEach [e] X.env)).all (fun x=>!x.1)&&(backToKw cpos (keywordEach [] X.env)).all (fun x=>x.1.isSome)
&&decide (([e]:List Expr).length+([]:List Keyword).length+(if([]:List Keyword).isEmpty then 0 else 1)<30))=true
 line:(apos.endLine==cpos.line)=true
 trees:backTo cpos (starEach [e] X.env)=[(false,eval e X.env)]
class TabP where
 tp:Addr→Prop
 ql:Addr→Str
noncomputable def nT:HO→Prop
 |.tbl _=>False
 |_=>True
noncomputable def cdP(c:Addr)(q:Str):Heap→Prop:=fun h=>h.CodeRec (.ref c) q
def TabOk[TabP](H:Hp)(P:Addr):Prop:=∃ps:Array Value,H P=some (.tbl ps)∧TriplesOk ps.toList∧∀pos cv,codeAmong pos ps.toList=some cv→∃c,cv=.ref c∧H c=some (.ext (cdP c (TabP.ql P)))
def TabsOk[TabP](H:Hp):Prop:=∀P,TabP.tp P→TabOk H P
structure Same[TabP](H H':Hp):Prop where
 at':∀b o,H b=some o→(h:nT o:=by exact trivial)→H' b=some o
 tb:∀b ps,H b=some (.tbl ps)→∃ps',H' b=some (.tbl ps')
 gd:TabsOk H→TabsOk H'
variable[TabP]
theorem nT_or(o:HO):nT o∨∃ps,o=.tbl ps:=by cases o<;>first | exact .inl trivial | exact .inr ⟨_,rfl⟩
theorem Same.refl(H:Hp):Same H H:=⟨fun _ _ h _=>h,fun _ ps h=>⟨ps,h⟩,id⟩
theorem Same.trans{H H1 H2:Hp}(a:Same H H1)(b:Same H1 H2):Same H H2:=
 ⟨fun c o h n=>b.at' c o (a.at' c o h n) n,fun c ps h=>let⟨p1,e1⟩:=a.tb c ps h;b.tb c p1 e1,fun g=>b.gd (a.gd g)⟩
theorem Same.some{H H':Hp}(s:Same H H'){b:Addr}(h:H b≠none):H' b≠none:=by
 cases e:H b with
 |none=>exact absurd e h
 |some o=>
  rcases nT_or o with n | ⟨ps,rfl⟩
  ·rw[s.at' b o e n];intro z;cases z
  ·obtain⟨p,q⟩:=s.tb b ps e;rw[q];intro z;cases z
theorem Same.free{H H':Hp}(e:Same H H'){l:Addr}(h:H' l=Option.none):H l=Option.none:=by
 cases q:H l with
 |none=>rfl
 | some o=>exact absurd h (e.some (by rw[q];intro z;cases z))
theorem Same.seq{K:FrgT}{H H':Hp}{a:Addr}{xs:List V}(e:Same H H')(h:SqL K H a xs):SqL K H' a xs:=by
 rcases h with(h | ⟨o,h⟩) | h
 ·exact .inl (.inl (e.at' _ _ h))
 ·exact .inl (.inr ⟨o,e.at' _ _ h⟩)
 ·exact .inr h
theorem TabsOk.put{H:Hp}{p:Addr}(g:TabsOk H)(o:HO)(h1:∀ps,H p≠some (.tbl ps))(h2:∀q,H p≠some (.ext (cdP p q))):TabsOk (upd H p o):=fun P hP=>by
 obtain⟨ps,e,t,c⟩:=g P hP
 refine⟨ps,by rw[upd_ne (by rintro rfl;exact h1 _ e)];exact e,t,fun pos cv hc=>?_⟩
 obtain⟨c',e1,e2⟩:=c pos cv hc
 exact⟨c',e1,by rw[upd_ne (by rintro rfl;exact h2 _ e2)];exact e2⟩
theorem TabsOk.new{H:Hp}{p:Addr}(g:TabsOk H)(h:H p=none)(o:HO):TabsOk (upd H p o):=g.put o (fun ps=>by rw[h];intro z;cases z) (fun φ=>by rw[h];intro z;cases z)
theorem TabsOk.lst{H:Hp}{p:Addr}{zs:List V}(g:TabsOk H)(h:H p=some (.lst zs))(o:HO):TabsOk (upd H p o):=g.put o (fun ps=>by rw[h];intro z;cases z) (fun φ=>by rw[h];intro z;cases z)
theorem same_new{H:Hp}{p:Addr}(h:H p=none)(o:HO):Same H (upd H p o):=
 ⟨fun b u q _=>by rw[upd_ne (ne_of_none q h)];exact q,fun b ps q=>⟨ps,by rw[upd_ne (ne_of_none q h)];exact q⟩,fun g=>g.new h o⟩
theorem upd_over{H1 H:Hp}{D:Addr}{zs:List V}(hD:H1 D=none)(s:Same H1 H)(hl:H D=some (.lst zs))(o:HO):Same H1 (upd H D o):=
 ⟨fun b u q n=>by rw[upd_ne (ne_of_none q hD)];exact s.at' b u q n,fun b ps q=>by rw[upd_ne (ne_of_none q hD)];exact s.tb b ps q,fun g=>(s.gd g).lst hl o⟩
end L2
namespace L2
open PySem
noncomputable def clGo(env:Env):List (Str×NameKind)→List (Str×Addr)→List (Str×Addr)
 |[],acc=>acc
 |(n,k)::r,acc=>if(k==NameKind.free)=true then clGo env r ((n,(env.cells.lookup n).getD 0)::acc)else clGo env r acc
noncomputable abbrev clOf(scope:Scope)(env:Env):List (Str×Addr):=clGo env scope.names []
theorem closureFor_cl{scope:Scope}{env:Env}(h:∀y∈scope.names,y.2=.free→∃c,env.cells.lookup y.1=some c):closureFor scope env=pure (clOf scope env):=by
 unfold closureFor clOf
 generalize scope.names=ns at h
 generalize([]:List (Str×Addr))=acc
 show(forIn ns acc _ >>= _)=_
 induction ns generalizing acc with
 |nil=>rfl
 |cons y r ih=>
  obtain⟨n,k⟩:=y
  rw[List.forIn_cons]
  have ih':=fun acc=>ih (fun y hy=>h y (List.mem_cons_of_mem _ hy)) acc
  by_cases hk:(k==NameKind.free)=true
  ·have hk':k=.free:=by simpa using hk
   obtain⟨c,hc⟩:=h (n,k) List.mem_cons_self hk'
   have e1:cellOf env n=pure c:=by unfold cellOf;rw[hc]
   simp only[hk,if_true,e1,pure_bind,clGo,hc,Option.getD_some]
   exact ih' _
  ·simp only[hk,clGo]
   exact ih' _
theorem clGo_mem{env:Env}:∀{ns:List (Str×NameKind)}{acc:List (Str×Addr)}{p:Str×Addr},p∈clGo env ns acc→p∈acc∨∃k,(p.1,k)∈ns∧k=NameKind.free∧p.2=(env.cells.lookup p.1).getD 0
 |[],_,_,h=>.inl h
 |(n,k)::r,acc,p,h=>by
  unfold clGo at h
  split at h
  ·rename_i hk
   rcases clGo_mem h with h | ⟨k',a,b⟩
   ·rcases List.mem_cons.mp h with rfl | h
    ·exact .inr ⟨k,List.mem_cons_self,by simpa using hk,rfl⟩
    ·exact .inl h
   ·exact .inr ⟨k',List.mem_cons_of_mem _ a,b⟩
  ·rcases clGo_mem h with h | ⟨k',a,b⟩
   ·exact .inl h
   ·exact .inr ⟨k',List.mem_cons_of_mem _ a,b⟩
theorem clGo_has{env:Env}:∀{ns:List (Str×NameKind)}{acc:List (Str×Addr)}{y:Str},((y,NameKind.free)∈ns∨∃c,(y,c)∈acc)→∃c,(y,c)∈clGo env ns acc
 |[],_,_,h=>by
  rcases h with h | h
  ·cases h
  ·exact h
 |(n,k)::r,acc,y,h=>by
  unfold clGo
  split
  ·refine clGo_has ?_
   rcases h with h | ⟨c,h⟩
   ·rcases List.mem_cons.mp h with e | h
    ·cases e;exact .inr ⟨_,List.mem_cons_self⟩
    ·exact .inl h
   ·exact .inr ⟨c,List.mem_cons_of_mem _ h⟩
  ·rename_i hk
   refine clGo_has ?_
   rcases h with h | h
   ·rcases List.mem_cons.mp h with e | h
    ·cases e;exact absurd rfl hk
    ·exact .inl h
   ·exact .inr h
theorem lookup_of_mem{α:Type}{y:Str}{c:α}:∀{l:List (Str×α)},(y,c)∈l→∃c',l.lookup y=some c'
 |(n,k)::r,h=>by
  by_cases e:(y==n)=true
  ·exact⟨k,by rw[List.lookup_cons,e]⟩
  ·have e':(y==n)=false:=by simpa using e
   rcases List.mem_cons.mp h with z | z
   ·cases z;simp at e
   ·obtain⟨c',q⟩:=lookup_of_mem z
    exact⟨c',by rw[List.lookup_cons,e'];exact q⟩
theorem cl_lookup{scope:Scope}{env:Env}(h:∀y∈scope.names,y.2=.free→∃c,env.cells.lookup y.1=some c){y:Str}{c:Addr}(e:(clOf scope env).lookup y=some c):env.cells.lookup y=some c:=by
 rcases clGo_mem (PySem.mem_of_lookup e)with z | ⟨k,a,b,d⟩
 ·cases z
 ·obtain⟨c',q⟩:=h _ a b
  have d':c=(env.cells.lookup y).getD 0:=d
  have q':env.cells.lookup y=some c':=q
  rw[q']at d' ⊢
  exact congrArg some d'.symm
theorem cl_has{scope:Scope}{env:Env}{y:Str}(h:scope.names.lookup y=some .free):∃c,(clOf scope env).lookup y=some c:=by
 obtain⟨c,q⟩:=clGo_has (env:=env) (acc:=[]) (.inl (PySem.mem_of_lookup h))
 exact lookup_of_mem q
theorem map_kind{g:Str×NameKind→Str×NameKind}{y:Str}(h1:∀p,(g p).1=p.1)(h2:∀p,p.2≠.cell→(g p).2=.cell∨(g p).2=.free→p.2=.free) :
  ∀{ns:List (Str×NameKind)},(∀z∈ns,z.2≠NameKind.cell)→((ns.map g).lookup y=some .cell∨(ns.map g).lookup y=some .free)→ns.lookup y=some .free
 | [],_,h=>by simp at h
 |p::r,hc,h=>by
  rw[List.map_cons]at h
  have ih:=map_kind (g:=g) (y:=y) h1 h2 (ns:=r) fun z hz=>hc z (List.mem_cons_of_mem _ hz)
  have nc:=hc p List.mem_cons_self
  have q1:=h1 p
  have q2:=h2 p nc
  generalize g p=q at h q1 q2
  obtain⟨qn,qk⟩:=q
  obtain⟨n,k⟩:=p
  have q1:qn=n:=q1
  subst q1
  have q2:qk=.cell∨qk=.free→k=.free:=q2
  rw[List.lookup_cons]at h ⊢
  cases e:(y==qn)with
  |true=>
   rw[e]at h
   have h':some qk=some NameKind.cell∨some qk=some NameKind.free:=h
   exact congrArg some (q2 (h'.imp Option.some.inj Option.some.inj))
  |false=>
   rw[e]at h
   exact ih h
theorem relabel_kind{scope:Scope}{env:Env}{y:Str}(hc:∀z∈scope.names,z.2≠NameKind.cell)(h:(relabel scope env).names.lookup y=some .cell∨(relabel scope env).names.lookup y=some .free):scope.names.lookup y=some .free:=by
 refine map_kind (fun p=>?_) (fun p hp q=>?_) hc h
 ·obtain⟨n,k⟩:=p
  dsimp only
  split<;>rfl
 ·obtain⟨n,k⟩:=p
  dsimp only at q hp ⊢
  split at q
  ·rename_i hk
   have:=(Bool.and_eq_true _ _▸(Bool.and_eq_true _ _▸hk).1).1
   simpa using this
  ·exact q.elim (fun z=>absurd z hp) id
end L2
namespace L2
open PySem PySem.Spec PyProof.Rows
noncomputable def cxComp(X:Cx)(scope:Scope)(N:List Str)(C:Addr)(fp:List Addr)(s:Shared)(H:Hp):Cx where
 prog:=X.prog
 w:=X.w
 K:=X.K
 mg:=X.mg
 base:=X.base
 A:=X.A
 N:=N
 s₀:=s
 H₀:=H
 env:=compEnvC scope (clOf scope X.env) C X.env
 outer:=X.stack
 stack:=X.stack
 ex:=fp
 fn:=fun _=>false
 calm:=X.calm
 pn:=[]
 xe:=fun _ _=>False
structure CpScope(esc scope:Scope)(EN N:List Str)(n:Nat)(cap:List Nat):Prop where
 kind:scope.kind=.function
 cell:∀y∈scope.names,y.2≠.cell
 loc:∀y∈scope.names,y.2=.local→scope.names.lookup y.1=some .local
 free:∀y∈scope.names,y.2=.free→esc.names.lookup y.1=some .cell∨esc.names.lookup y.1=some .free
 nd:N.Nodup
 len:N.length=n+cap.length
 caps:∀j<cap.length,N[n+j]? = EN[cap.getD j 0]?∧∀x,N[n+j]? = some x→scope.names.lookup x=some .free
noncomputable def cpSt(n:Nat)(cap:List Nat)(σ:St):St:=List.replicate n none++cap.map fun k=>(σ[k]?).join
theorem cpSt_len{n:Nat}{cap:List Nat}{σ:St}:(cpSt n cap σ).length=n+cap.length:=by
 unfold cpSt;rw[List.length_append,List.length_replicate,List.length_map]
theorem cpSt_get{n:Nat}{cap:List Nat}{σ:St}{i:Nat}{v:V}(h:(cpSt n cap σ)[i]? = some (some v)):∃j,i=n+j∧j<cap.length∧σ[cap.getD j 0]? = some (some v):=by
 unfold cpSt at h
 by_cases hi:i<n
 ·rw[List.getElem?_append_left (by simpa using hi),List.getElem?_replicate,if_pos hi]at h
  cases h
 ·rw[List.getElem?_append_right (by simpa using hi),List.length_replicate,List.getElem?_map]at h
  cases e:cap[i-n]? with
  |none=>rw[e]at h;cases h
  |some k=>
   rw[e]at h
   have hl:i-n<cap.length:=(List.getElem?_eq_some_iff.mp e).1
   refine⟨i-n,by omega,hl,?_⟩
   have h':(σ[k]?).join=some v:=Option.some.inj h
   rw[List.getD_eq_getElem?_getD,e,Option.getD_some]
   cases q:σ[k]? with
   |none=>rw[q]at h';cases h'
   |some z=>rw[q]at h';exact congrArg some h'
section
variable{X:Cx}{scope esc:Scope}{EN N:List Str}{n:Nat}{cap:List Nat}{pins:PinT}{σ:St}{H:Hp}{s:Shared}{fp:List Addr}
theorem inv_comp{h':Heap}{tk:Nat}{m:BinT}(S:CpScope esc scope EN N n cap)(he:X.env.scope=esc)(hN:X.N=EN)(I:Inv X pins σ H s)(hf:∀b∈fp,FpOk X pins H b)(ho:∀b∈fp,∃o,s.heap.get? b=some o)
  (hns:h'.Ns s.heap.objs.size m) (k:∀b o,s.heap.get? b=some o→h'.get? b=some o) :
  Inv (cxComp X scope N s.heap.objs.size fp s H) [] (cpSt n cap σ) H { s with heap:=h',toks:=tk }:=by
 have hfree:∀y∈scope.names,y.2=.free→∃c,X.env.cells.lookup y.1=some c:=fun y hy hk=>by
  refine I.ok.has y.1 ?_
  show X.env.scope.names.lookup y.1=_∨X.env.scope.names.lookup y.1=_
  rw[he];exact S.free y hy hk
 have up:∀{y:Str}{c:Addr},(clOf scope X.env).lookup y=some c→X.env.cells.lookup y=some c:=fun{y c} e=>cl_lookup hfree e
 have kfree:∀y,(cxComp X scope N s.heap.objs.size fp s H).env.kindOf y=some .cell∨(cxComp X scope N s.heap.objs.size fp s H).env.kindOf y=some .free→scope.names.lookup y=some .free:=fun y h=>relabel_kind S.cell h
 have cellK:∀c v,s.heap.IsCell c v→h'.IsCell c v:=fun c v ⟨o,e,d⟩=>⟨o,k c o e,d⟩
 refine⟨⟨I.ok.mod,S.kind,I.ok.glob,I.ok.blt,Nat.le_refl _,fun x y c h1 h2=>I.ok.inj x y c (up h1) (up h2),fun y hy=>cl_has (kfree y hy),fun _ _ z=>absurd z Bool.false_ne_true,I.ok.hd,I.ok.frames,.inl rfl,fun b hb=>⟨?_,fun x c e=>(hf b hb).2.2.2.2.1 x c (up e)⟩,I.bs,Nat.le_trans I.ok.bsz I.sz,fun b o e hb=>?_,fun b hb hz=>?_,I.stack,I.stkFree⟩,
  rfl,I.bare,Un.kept k,⟨m,hns,fun i x v e1 e2 e3=>?_⟩,fun x c e=>?_,I.hok.fresh (Nat.le_refl _),fun x c e=>I.freeC x c (up e),fun p hp=>absurd (show p∈([]:PinT)from hp) (by simp),I.hok.kept k,?_⟩
 ·obtain⟨o,e⟩:=ho b hb
  exact Nat.ne_of_lt (Heap.lt_size e)
 ·rcases(hf b hb).2.2.2.1 with z | z
  ·exact I.ok.noex b o e z
  ·exact absurd (Nat.lt_of_lt_of_le (Heap.lt_size e) (Nat.le_trans I.ok.bsz z)) (Nat.lt_irrefl _)
 ·rcases List.mem_cons.mp (I.stkSub b hz)with z | z
  ·exact(hf b hb).2.1 z
  ·exact(hf b hb).2.2.1 z
 ·obtain⟨j,rfl,hj,e4⟩:=cpSt_get e2
  obtain⟨c1,c2⟩:=S.caps j hj
  have e1:N[n+j]? = some x:=e1
  have hfr:=c2 x e1
  rw[e1,←hN]at c1
  obtain⟨c,hc⟩:=cl_has (env:=X.env) hfr
  obtain⟨m0,hn0,hl⟩:=I.loc
  have kx:X.env.scope.names.lookup x=some .cell∨X.env.scope.names.lookup x=some .free:=by
   rw[he];exact S.free (x,.free) (PySem.mem_of_lookup hfr) rfl
  obtain⟨u,r,l⟩:=hl _ x v c1.symm e4 (kx.elim (fun z=>.inr (.inl z)) fun z=>.inr (.inr z))
  refine⟨u,r,.inr ⟨?_,c,hc,?_⟩⟩
  ·rcases e3 with z | z | z
   ·exfalso
    have z':(relabel scope X.env).names.lookup x=some .local:=z
    have hz:∀ns:List (Str×NameKind),ns.lookup x=some .free→(ns.map fun(n,k)=>if(k==NameKind.free&&X.env.scope.kind==.function&&X.env.kindOf n==some .cell)then(n,NameKind.cell)else(n,k)).lookup x≠some .local:=by
     intro ns
     induction ns with
     |nil=>intro h;simp at h
     |cons p r ih=>
      obtain⟨pn,pk⟩:=p
      intro h
      rw[List.map_cons]
      rw[List.lookup_cons]at h
      cases q:(x==pn)with
      |true=>
       rw[q]at h
       have h':pk=.free:=Option.some.inj h
       subst h'
       dsimp only
       split
       ·rw[List.lookup_cons,q];intro w;cases w
       ·rw[List.lookup_cons,q];intro w;cases w
      |false=>
       rw[q]at h
       dsimp only
       split
       ·rw[List.lookup_cons,q];exact ih h
       ·rw[List.lookup_cons,q];exact ih h
    exact hz _ hfr z'
   ·exact .inl z
   ·exact .inr z
  ·rcases l with⟨q,_⟩ | ⟨_,c',e5,z⟩
   ·exfalso
    have q':X.env.scope.names.lookup x=some .local:=q
    rcases kx with w | w<;>rw[w]at q'<;>cases q'
   ·rw[up hc]at e5
    cases e5
    exact cellK c _ z
 ·obtain⟨v,z⟩:=I.cell x c (up e)
  exact⟨v,cellK c v z⟩
 ·show(cpSt n cap σ).length=N.length
  rw[cpSt_len,S.len]
theorem inv_back{N:List Str}{C:Addr}{pj:PinT}{σ':St}{H':Hp}{s':Shared}(I:Inv X pins σ H s)(hf:∀b∈fp,FpOk X pins H b)(J:Inv (cxComp X scope N C fp s H) pj σ' H' s'):Inv X pins σ H' s':=
 I.call' J.os J.base J.hok J.bare fun b hb=>⟨(hf b hb).2.2.2.1,(hf b hb).2.1,(hf b hb).2.2.2.2.1,(hf b hb).2.2.2.2.2⟩
end
section
variable{X:Cx}
def PIfs(X:Cx)(ifs:List Expr)(t:TT):Prop:=
 ∀(pins:PinT)(s:Shared)(σ:St)(H:Hp)(Q:Bool→Hp→Prop),Inv X pins σ H s→t σ H Q→
  wpAny (model X.prog X.w) X.A (forIn ifs true fun c r=>if r=true then do let ok ←isTrue c X.env (eval c X.env);pure (ForInStep.yield ok)else pure (ForInStep.yield r)) (TP X pins σ Q) X.xe s
noncomputable def tT0:TT:=fun _ H Q=>Q true H
theorem pf_nil:PIfs X [] tT0:=fun _ _ _ H _ I h=>wpAny_tests_nil ⟨H,I,h⟩
theorem pf_one{c:Expr}{t:TT}(h:PT X c t):PIfs X [c] t:=fun pins s σ H Q I hq=>wpAny_tests_one (h pins s σ H Q I hq)
end
section
variable{prog:Program}{w:World}{A:Around}{R:Result→Shared→Prop}{s:Shared}
theorem codeAny_compLoop_gen{elt target iter:Expr}{ifs:List Expr}{scope:Scope}{pos:Pos}{it acc:Value}{env:Env}(I:Nat→Shared→Prop)
  (turn:∀n s,I n s→wpAny (model prog w) A (pyNext it) (fun r s₁=>match r with
   |none=>R (.ok .next) s₁
   | some v=>wpAny (model prog w) A (letOwnedTupleGo target it v) (fun _ s₁'=>wpAny (model prog w) A (assign target env v) (fun _ s₂=>
     wpAny (model prog w) A (forIn ifs true fun c r=>if r=true then do let ok ←isTrue c env (eval c env);pure (ForInStep.yield ok)else pure (ForInStep.yield r)) (fun ok s₃=>
      if ok=true then wpAny (model prog w) A (eval elt env) (fun x s₄=>
       wpAny (model prog w) A (call (.builtin "list.append") [acc,x]) (fun _ s₅=>∃m,m<n∧I m s₅) (fun _ _=>False) s₄) (fun _ _=>False) s₃
      else ∃m,m<n∧I m s₃) (fun _ _=>False) s₂) (fun _ _=>False) s₁') (fun _ _=>False) s₁) (fun _ _=>False) s)
  (n:Nat) (h:I n s) :
  codeAny (model prog w) A (.compLoop (.ListComp elt [⟨target,iter,ifs,0⟩] scope pos) 0 it acc env) R s:=by
 refine codeAny_loop rfl I (fun n s hI=>?_) n h
 show wpAny _ A ((compTurn (.ListComp elt [⟨target,iter,ifs,0⟩] scope pos) 0 it acc env).onRaise (fun x=>do noteFrame x env;theTreesLotGoes x)) _ _ s
 refine wpAny_noted ?_
 rw[compTurn_list]
 refine wpAny_bind (wpAny_standAt (wpAny_bind (wpAny_mono (turn n s hI) (fun r s₁ h₁=>?_) fun _ _ h'=>h'.elim)))
 cases r with
 |none=>exact wpAny_pure h₁
 |some v=>
  refine wpAny_bind (wpAny_mono h₁ (fun _ s₁' h₁'=>?_) fun _ _ h'=>h'.elim)
  refine wpAny_bind (wpAny_mono h₁' (fun _ s₂ h₂=>wpAny_bind (wpAny_mono h₂ (fun ok s₃ h₃=>?_) fun _ _ h'=>h'.elim)) fun _ _ h'=>h'.elim)
  cases ok with
  |false=>exact wpAny_pure ⟨rfl,h₃⟩
  |true=>
   exact wpAny_bind (wpAny_bind (wpAny_mono h₃ (fun x s₄ h₄=>wpAny_bind (wpAny_mono h₄ (fun _ s₅ h₅=>wpAny_pure (wpAny_pure ⟨rfl,h₅⟩)) fun _ _ h'=>h'.elim)) fun _ _ h'=>h'.elim))
end
def Fgt(σ σ2:St):Prop:=σ.length=σ2.length∧∀(i:Nat) v,σ[i]? = some (some v)→σ2[i]? = some (some v)
theorem Fgt.refl(σ:St):Fgt σ σ:=⟨rfl,fun _ _ h=>h⟩
theorem Fgt.set{σ σ2:St}{i:Nat}{x:V}(h:Fgt σ σ2)(hn:σ[i]? = some none):Fgt σ (σ2.set i (some x)):=by
 refine⟨by rw[List.length_set];exact h.1,fun j v e=>?_⟩
 by_cases hj:i=j
 ·subst hj;rw[hn]at e;cases e
 ·rw[List.getElem?_set_ne hj];exact h.2 j v e
def cpW(J:It)(σ':St)(g:TG)(tt:TT)(te:TE)(D:Addr)(H1:Hp)(Q:VK):Prop:=
  ∃W:Nat→Nat→List V→Hp→Prop,(∃m,W 0 m [] (upd H1 D (.lst [])))∧∀i m ys H,W i m ys H→
   ((J.stop i H∧Q (.ref D) H)∨(J.go i H∧∀x H',J.yld i H x H'→g x σ' H' fun σ2 H2=>Fgt σ' σ2∧tt σ2 H2 fun b H3=>
       if b=true then te σ2 H3 fun y H4=>H4 D=some (.lst ys)∧ys.length<sizeLine∧∃m',m'<m∧W (i+1) m' (ys++[y]) (upd H4 D (.lst (ys++[y])))else ∃m',m'<m∧W (i+1) m' ys H3))
noncomputable def tComp(n:Nat)(cap:List Nat)(wi:TI)(g:TG)(tt:TT)(te:TE):TE:=fun σ H Q=>wi σ H fun J H1=>∀D,H1 D=none→cpW J (cpSt n cap σ) g tt te D H1 Q
section
variable{X:Cx}{scope esc:Scope}{EN N:List Str}{n:Nat}{cap:List Nat}{pins:PinT}{σ:St}{s:Shared}{elt tg iter:Expr}{ifs:List Expr}{pos:Pos}{g:TG}{tt:TT}{te:TE}
theorem comp_run{E:ExcT}{H:Hp}{J:It}{fp:List Addr}{it:Addr}{tn:Nat→Heap→Prop}{Q:VK}{RR:Value→Addr→Result→Shared→Prop}(S:CpScope esc scope EN N n cap)(he:X.env.scope=esc)(hN:X.N=EN)(hc:X.calm=true)
  (hg:∀C fp s H,PG (cxComp X scope N C fp s H) tg g) (ht:∀C fp s H,PIfs (cxComp X scope N C fp s H) ifs tt) (hel:∀C fp s H,PE (cxComp X scope N C fp s H) elt te)
  (I:Inv X pins σ H s) (T:Turn X.prog X.w X.K tg J fp it tn) (st:tn 0 s.heap) (hf:∀b∈fp,FpOk X pins H b) (hq:∀D,H D=none→cpW J (cpSt n cap σ) g tt te D H Q)
  (hRR:∀D C H' s' m,Inv X pins σ H' s'→FpOk X pins H' C→s'.heap.Ns C m→Q (.ref D) H'→RR (.ref D) C (.ok .next) s') :
  wpAny (model X.prog X.w) X.A (newList []) (fun acc s₃=>wpAny (model X.prog X.w) X.A (newFunctionEnv scope X.env.globals (clOf scope X.env) [] X.env.qual none .none (some X.env)) (fun cenv s₄=>
   codeAny (model X.prog X.w) X.A (.compStart (.ListComp elt [⟨tg,iter,ifs,0⟩] scope pos) 0 (.ref it) acc { cenv with scope:=relabel scope X.env }) (RR acc cenv.locals) s₄) E s₃) E s:=by
 refine wpAny_newObj_type (wpAny_newFunctionEnv S.cell (by intro y hy;simp at hy) (fun h₁ hns₁ hsb₁=>?_) S.kind)
 have I3:=I.lnew (t':=s.toks) (ys:=[]) (its:=[]) .nil (Nat.zero_le _)
 have hD:H s.heap.objs.size=none:=I.fresh
 obtain⟨W,⟨m0,w0⟩,turn⟩:=hq _ hD
 generalize hs3:({ s with heap:=s.heap.push { cls:=.type "list",data:=.seq ([]:List Value).toArray },toks:=s.toks }:Shared)=s3 at I3
 have k3:∀b o,s.heap.get? b=some o→s3.heap.get? b=some o:=fun b o e=>by rw[←hs3];exact Heap.get?_push_of_some _ e
 have hs3':({ s with heap:=s.heap.push { cls:=.type "list",data:=.seq ([]:List Value).toArray } }:Shared)=s3:=hs3
 have hh:s.heap.push { cls:=.type "list",data:=.seq ([]:List Value).toArray }=s3.heap:=by rw[←hs3]
 dsimp only at hns₁ hsb₁ ⊢
 try rw[hh]at hns₁
 try rw[hh]at hsb₁
 have hf3:∀b∈fp,FpOk X pins (upd H s.heap.objs.size (.lst [])) b:=fun b hb=>by
  refine⟨?_,(hf b hb).2⟩
  obtain⟨o,e,_⟩:=T.obj _ _ st b hb
  rw[upd_ne (Nat.ne_of_lt (Heap.lt_size e))]
  exact(hf b hb).1
 have k4:∀b o,s3.heap.get? b=some o→h₁.get? b=some o:=fun b o e=>hsb₁.extBut b o (Nat.ne_of_lt (Heap.lt_size e)) (Heap.get?_push_of_some _ e)
 have ob:∀b∈fp,∃o,s3.heap.get? b=some o:=fun b hb=>by
  obtain⟨o,e,_⟩:=T.obj _ _ st b hb
  exact⟨o,k3 b o e⟩
 have I4:=inv_comp (tk:=s3.toks) S he hN I3 hf3 ob hns₁ k4
 have st4:tn 0 h₁:=T.keep _ _ _ st fun b _ o e=>k4 b o (k3 b o e)
 have hC3:s3.heap.objs.size≤s3.heap.objs.size:=Nat.le_refl _
 have loop:∀s₃:Shared,s₃.heap=h₁→Inv (cxComp X scope N s3.heap.objs.size fp s3 (upd H s.heap.objs.size (.lst []))) [] (cpSt n cap σ) (upd H s.heap.objs.size (.lst [])) s₃→
   codeAny (model X.prog X.w) X.A (.compLoop (.ListComp elt [⟨tg,iter,ifs,0⟩] scope pos) 0 (.ref it) (.ref s.heap.objs.size) (compEnvC scope (clOf scope X.env) s3.heap.objs.size X.env)) (RR (.ref s.heap.objs.size) s3.heap.objs.size) s₃:=by
  intro s₃ e₃ I₃
  have stat:∀{H':Hp},(∀b∈fp,H' b=none)→∀b∈fp,FpOk (cxComp X scope N s3.heap.objs.size fp s3 (upd H s.heap.objs.size (.lst []))) [] H' b:=fun{H'} hn b hb=>
   ⟨hn b hb,(I₃.ok.exf b hb).1,I₃.ok.exfs b hb,.inl hb,(I₃.ok.exf b hb).2,fun p hp=>absurd (show p∈([]:PinT)from hp) (by simp)⟩
  refine codeAny_compLoop_gen (fun k s'=>∃i ys H',Inv (cxComp X scope N s3.heap.objs.size fp s3 (upd H s.heap.objs.size (.lst []))) [] (cpSt n cap σ) H' s'∧tn i s'.heap∧(∀b∈fp,H' b=none)∧W i k ys H') ?_ m0
   ⟨0,[],_,I₃,by rw[e₃];exact st4,fun b hb=>(hf3 b hb).1,w0⟩
  rintro k s5 ⟨i,ys,H5,I5,st5,fr5,w5⟩
  rcases turn i k ys H5 w5 with⟨stop,q⟩ | ⟨go,step⟩
  ·refine thn (T.done (cxComp X scope N s3.heap.objs.size fp s3 (upd H s.heap.objs.size (.lst []))) rfl rfl rfl hc i [] s5 _ H5 _ I5 (stat fr5) st5 stop) fun r s6 ⟨hr,I6⟩=>?_
   subst hr
   obtain⟨m,hn,_⟩:=I6.loc
   exact hRR _ _ H5 s6 m (inv_back I3 hf3 I6) (I3.fpOk hC3 I6.free) hn q
  ·refine thn (T.item (cxComp X scope N s3.heap.objs.size fp s3 (upd H s.heap.objs.size (.lst []))) rfl rfl rfl hc i [] s5 _ H5 (fun _ _=>False) I5 (stat fr5) st5 go) fun r s6 ⟨u,hr,h6⟩=>?_
   subst hr
   refine thn h6 fun _ s7 ⟨x,H7,I7,r7,y7,st7,fr7⟩=>?_
   have I7':=I7.pinned (stat fr7) (T.obj _ _ st7)
   refine thn (hg _ _ _ _ _ s7 _ H7 x u _ I7' r7 (step x H7 y7)) fun _ s8 ⟨σ8,H8,I8,fg,q8⟩=>?_
   refine thn (ht _ _ _ _ _ s8 σ8 H8 _ I8 q8) fun b s9 ⟨H9,I9,q9⟩=>?_
   have back:∀{H':Hp}{s':Shared},Inv (cxComp X scope N s3.heap.objs.size fp s3 (upd H s.heap.objs.size (.lst []))) ([]++pinsAt fp s7.heap) σ8 H' s'→
     Inv (cxComp X scope N s3.heap.objs.size fp s3 (upd H s.heap.objs.size (.lst []))) [] (cpSt n cap σ) H' s'∧tn (i+1) s'.heap∧∀b∈fp,H' b=none:=fun{H' s'} I'=>by
    refine⟨I'.unpinned.weak fg.1 fg.2,T.keep _ _ _ st7 fun b hb o e=>(I'.pin (b,o) (List.mem_append_right _ (List.mem_append_right _ (mem_pinsAt hb e)))).1,fun b hb=>?_⟩
    obtain⟨o,e,d⟩:=T.obj _ _ st7 b hb
    exact(I'.pin (b,o) (List.mem_append_right _ (List.mem_append_right _ (mem_pinsAt hb e)))).2.1
   cases b with
   |false=>
    obtain⟨m',hm,w'⟩:=q9
    obtain⟨b1,b2,b3⟩:=back I9
    exact⟨m',hm,i+1,ys,H9,b1,b2,b3,w'⟩
   |true=>
    refine thn (hel _ _ _ _ _ s9 σ8 H9 _ I9 q9) fun v s10 ⟨y,H10,I10,r10,hD10,hz,m',hm,w'⟩=>?_
    refine thn (mt_append _ s10 σ8 H10 (.ref s.heap.objs.size) [y] (.ref s.heap.objs.size) [v] (fun z H'=>z=.non∧H'=upd H10 s.heap.objs.size (.lst (ys++[y]))) I10 rfl (.cons r10 .nil) ⟨_,ys,y,rfl,rfl,hD10,hz,rfl,rfl⟩) fun z s11 ⟨y',H11,I11,_,_,e11⟩=>?_
    subst e11
    obtain⟨b1,b2,b3⟩:=back I11
    exact⟨m',hm,i+1,ys++[y],_,b1,b2,b3,w'⟩
 have I4':Inv (cxComp X scope N s3.heap.objs.size fp s3 (upd H s.heap.objs.size (.lst []))) [] (cpSt n cap σ) (upd H s.heap.objs.size (.lst [])) { heap:=h₁,gens:=s3.gens,drawn:=s3.drawn,toks:=s3.toks+([]:List (Str×Value)).length,os:=s3.os }:=I4
 exact codeAny_compStart_list (loop _ rfl I4') (T.self _ 0 _ _ _ st4 (loop _ rfl I4'))
theorem pe_comp(S:CpScope esc scope EN N n cap){wi:TI}(hi:PI X tg iter wi)(hg:∀C fp s H,PG (cxComp X scope N C fp s H) tg g)(ht:∀C fp s H,PIfs (cxComp X scope N C fp s H) ifs tt)(hel:∀C fp s H,PE (cxComp X scope N C fp s H) elt te)
  (he:X.env.scope=esc:=by rfl) (hN:X.N=EN:=by rfl) (hc:X.calm=true:=by rfl) (hs:∀x,foldedSetIterable iter X.env x=pure x:=by intro _;rfl):PE X (.ListComp elt [⟨tg,iter,ifs,0⟩] scope pos) (tComp n cap wi g tt te):=by
 intro pins s σ H Q I h
 rw[eval_ListComp]
 have hclos:closureFor scope X.env=pure (clOf scope X.env):=closureFor_cl fun y hy hk=>I.ok.has y.1 (by
  show X.env.scope.names.lookup y.1=_∨X.env.scope.names.lookup y.1=_
  rw[he];exact S.free y hy hk)
 refine wpAny_comprehension_free (use:=none) rfl hs hclos S.kind S.loc (thn (hi pins s σ H _ I h) fun v s1 h1=>thn h1 fun itv s2 h2=>?_)
 obtain⟨it,fp,tn,J,H2,e,I2,T,st2,f2,hq⟩:=h2
 subst e
 refine comp_run S he hN hc hg ht hel I2 T st2 f2 hq fun D C H' s' m I' fC hn q=>?_
 exact⟨m,hn,fun h' hs'=>⟨.ref D,H',I'.turned (t':=s'.toks) (fun b o hb e=>hs'.extBut b o hb e) fC.1 fC.2.1 fC.2.2.2.1 fC.2.2.2.2.1 fC.2.2.2.2.2,rfl,q⟩⟩
end
structure Has(P:Program)(w:World)(K:FrgT)(mg:BinT)(base:Heap)(x:Str)(ps:List Str)(k:Nat)(sp:Sp):Prop where
 ex:∃f fd,FnOk P w K mg base CX0 k f fd ps sp∧Binds K fd ps []∧W.keepIn K (.ref f)=true∧mg x=some (.ref f)
structure Df(K:FrgT)(mg:BinT)(x:Str)(st:Stmt)(ps:List Str):Prop where
 ex:∃f fd,Fun K x x st f fd∧Binds K fd ps []∧mg x=some (.ref f)
section
variable{P:Program}{w:World}{K:FrgT}{mg:BinT}{base:Heap}{x:Str}{st:Stmt}{ps N:List Str}{k:Nat}{sp:Sp}
theorem Has.mono{j:Nat}(h:Has P w K mg base x ps k sp)(hj:k≤j):Has P w K mg base x ps j sp:=by
 obtain⟨f,fd,a,b⟩:=h.ex
 exact⟨f,fd,a.mono hj,b⟩
end
section
variable{X:Cx}{x:Str}{ps:List Str}{k:Nat}{sp:Sp}{p pos:Pos}{e:Expr}{es:List Expr}{t:TA}
noncomputable def tFn(sp:Sp)(t:TA):TE:=fun σ H Q=>t σ H fun vs H1=>sp vs H1 Q E0
theorem pe_fn(h:Has X.prog X.w X.K X.mg X.base x ps k sp)(hr:Room k X.A)(hg:Gl X x)(ha:PA X (e::es) t)(hdb:(x==("__debug__":Str))=false:=by decide)
  (he:starEach (e::es) X.env=(false,eval e X.env)::starEach es X.env:=by rfl) (hpl:(backTo pos (starEach es X.env)).any (·.1)=false:=by rfl):PE X (.Call (.Name x p) (e::es) [] pos) (tFn sp t):=by
 obtain⟨f,fd,F,b,kp,m⟩:=h.ex
 intro pins s σ H Q I hq
 refine pe_call (dvs:=[]) (ds:=[]) F hr hg m kp b .nil pass0 ha hdb he hpl pins s σ H Q I ?_
 have hq':t σ H fun vs H1=>sp vs H1 Q E0:=hq
 show t σ H fun vs H1=>sp (vs++[]) H1 Q E0
 simpa only[List.append_nil]using hq'
theorem pe_fn0(h:Has X.prog X.w X.K X.mg X.base x ps k sp)(hr:Room k X.A)(hg:Gl X x)(hdb:(x==("__debug__":Str))=false:=by decide):PE X (.Call (.Name x p) [] [] pos) (tFn sp tNil):=by
 obtain⟨f,fd,F,b,kp,m⟩:=h.ex
 intro pins s σ H Q I hq
 exact pe_call0 (dvs:=[]) (ds:=[]) F hr hg m kp b .nil pass0 hdb pins s σ H Q I hq
end
structure Kit(K:FrgT):Prop where
 ans:∀t∈["NoneType","bool","int","str","list","tuple"],∀c∈["int","bool","tuple","list","str"],W.kitOne K (.type t) (.type c)=some (t==c||(t == "bool"&&c == "int"))
inductive TyW(K:FrgT)(H:Hp):V→String→Prop where
 |non:TyW K H .non "NoneType"
 |bl (x:Bool):TyW K H (.bl x) "bool"
 |int (i:Int):TyW K H (.int i) "int"
 |str (x:Str):TyW K H (.str x) "str"
 |lst {a:Addr}{xs:List V}(e:SqL K H a xs):TyW K H (.ref a) "list"
 |tup {a:Addr}{xs:List V}(e:SqT K H a xs):TyW K H (.ref a) "tuple"
noncomputable abbrev tyNs:List String:=["NoneType","bool","int","str","list","tuple"]
theorem TyW.mem{K:FrgT}{H:Hp}{x:V}{t:String}(h:TyW K H x t):t∈tyNs:=by
 cases h<;>decide
section
variable{X:Cx}
noncomputable def isiB(t n:String):Bool:=t==n||(t == "bool"&&n == "int")
noncomputable def rIsi(K:FrgT):List V→Hp→VK→Prop:=fun xs H Q=>∃x n t,xs=[x,.ty n]∧TyW K H x t∧n∈["int","bool","tuple","list","str"]∧Q (.bl (isiB t n)) H
theorem call_isi(kt:Kit X.K):CallR X (.builtin "isinstance") (rIsi X.K):=by
 intro pins s σ H xs us Q I rv h
 obtain⟨x,n,t,rfl,ty,hn,q⟩:=h
 obtain⟨u,w',rfl,r1,r2⟩:=vals2 rv
 cases(show w'=Value.type n from r2)
 have e:=kt.ans t ty.mem n hn
 have fin:∀tk,EP X pins σ Q (.bool (isiB t n)) { s with toks:=tk }:=fun tk=>⟨.bl _,H,I.tok tk,rfl,q⟩
 cases ty with
 |non=>cases(show u=Value.none from r1);exact W.kia_one W.kitx_none I.kIn True.intro e (fun z=>nomatch z) fin
 |bl y=>cases(show u=Value.bool y from r1);exact W.kia_one W.kitx_bool I.kIn True.intro e (fun z=>nomatch z) fin
 |int i=>obtain⟨t,q⟩:=(show ∃t,u=Value.int i t from r1);cases q;exact W.kia_one W.kitx_int I.kIn True.intro e (fun z=>nomatch z) fin
 |str y=>obtain⟨t,q⟩:=(show ∃t,u=Value.str y t from r1);cases q;exact W.kia_one W.kitx_str I.kIn True.intro e (fun z=>nomatch z) fin
 |@lst a xs ea=>
  cases(show u=Value.ref a from r1)
  obtain⟨its,_,⟨o,n',h1,h2,_⟩,_⟩:=I.list ea
  exact W.kia_one W.kitx_list I.kIn ⟨o,h1,h2⟩ e (fun z=>nomatch z) fin
 |@tup a xs ea=>
  cases(show u=Value.ref a from r1)
  obtain⟨its,_,⟨o,h1,h2,_⟩,_⟩:=I.tuple ea
  exact W.kia_one W.kitx_tuple I.kIn ⟨o,h1,h2⟩ e (fun z=>nomatch z) fin
theorem mt_bitlen:MtR X "int.bit_length" (fun x xs H Q=>∃i,x=.int i∧xs=[]∧Q (.int (Builtin.Int.intBits i:Nat)) H):=by
 intro pins s σ H x xs v us Q I rx rv h
 obtain⟨i,rfl,rfl,q⟩:=h
 obtain⟨t,rfl⟩:=rx
 cases rv
 exact call_int_bit_length ⟨.int _,H,I.tok _,⟨_,rfl⟩,q⟩
end
mutual
noncomputable def Rep(K:FrgT)(H:Hp):PyData→V→Prop
 |.none,v=>v=.non
 |.bool b,v=>v=.bl b
 |.int i,v=>v=.int i
 |.str x,v=>v=.str x
 |.list ds,v=>∃a xs,v=.ref a∧SqL K H a xs∧RepAll K H ds xs
 |.tuple ds,v=>∃a xs,v=.ref a∧SqT K H a xs∧RepAll K H ds xs
 |.dict _,_=>False
noncomputable def RepAll(K:FrgT)(H:Hp):List PyData→List V→Prop
 |[],xs=>xs=[]
 |d::ds,xs=>∃x r,xs=x::r∧Rep K H d x∧RepAll K H ds r
end
theorem Same.seqT[TabP]{K:FrgT}{H H':Hp}{a:Addr}{xs:List V}(e:Same H H')(h:SqT K H a xs):SqT K H' a xs:=by
 rcases h with(h | ⟨o,h⟩) | h
 ·exact .inl (.inl (e.at' _ _ h))
 ·exact .inl (.inr ⟨o,e.at' _ _ h⟩)
 ·exact .inr h
section
variable{X:Cx}{pins:PinT}{σ:St}{H:Hp}{s:Shared}
mutual
theorem Rep.reads(I:Inv X pins σ H s):∀{d:PyData}{v:V}{u:Value},Rep X.K H d v→RelV v u→∃as,Reads s.heap u d as
 | .none,_,_,h,r=>by cases h;cases r;exact⟨_,.none⟩
 | .bool _,_,_,h,r=>by cases h;cases r;exact⟨_,.bool _⟩
 | .int _,_,_,h,r=>by cases h;obtain⟨t,rfl⟩:=r;exact⟨_,.int _ _⟩
 | .str _,_,_,h,r=>by cases h;obtain⟨t,rfl⟩:=r;exact⟨_,.str _ _⟩
 |.list _,_,_,h,r=>by
  obtain⟨a,xs,rfl,l,q⟩:=h
  cases r
  obtain⟨its,rv,⟨o,n,e,c,_,d⟩,_⟩:=I.list l
  obtain⟨as,z⟩:=RepAll.reads I q rv
  exact⟨_,.list e c d (by simpa using z)⟩
 |.tuple _,_,_,h,r=>by
  obtain⟨a,xs,rfl,l,q⟩:=h
  cases r
  obtain⟨its,rv,⟨o,e,c,n,d⟩,_⟩:=I.tuple l
  obtain⟨as,z⟩:=RepAll.reads I q rv
  exact⟨_,.tuple e c d (by simpa using z)⟩
 |.dict _,_,_,h,_=>h.elim
theorem RepAll.reads(I:Inv X pins σ H s):∀{ds:List PyData}{xs:List V}{us:List Value},RepAll X.K H ds xs→Vals xs us→∃as,ReadsAll s.heap us ds as
 | [],_,_,h,r=>by cases h;cases r;exact⟨_,.nil⟩
 |_::_,_,_,h,r=>by
  obtain⟨x,t,rfl,a,b⟩:=h
  cases r with
  |cons r1 r2=>
   obtain⟨as,z1⟩:=Rep.reads I a r1
   obtain⟨bs,z2⟩:=RepAll.reads I b r2
   exact⟨_,.cons z1 z2⟩
end
end
section
variable{X:Cx}
noncomputable def rEqD(K:FrgT)(neg:Bool):R2:=fun x y H Q=>∃d e,Rep K H d x∧Rep K H e y∧SeqAt.shaped d=true∧SeqAt.shaped e=true∧Q (.bl (if neg then !PyData.eqv d e else PyData.eqv d e)) H
theorem op_eqD(hu:X.A.units+64<cLine):OpR X (compareOp .Eq) (rEqD X.K false):=by
 intro pins s σ H x y v u Q I rx ry h
 obtain⟨d,e,a,b,sa,sb,q⟩:=h
 obtain⟨as,ra⟩:=a.reads I rx
 obtain⟨bs,rb⟩:=b.reads I ry
 exact eq_dataH ra rb sa sb hu ⟨.bl _,H,I,rfl,q⟩
theorem op_neD(hu:X.A.units+64<cLine):OpR X (compareOp .NotEq) (rEqD X.K true):=by
 intro pins s σ H x y v u Q I rx ry h
 obtain⟨d,e,a,b,sa,sb,q⟩:=h
 obtain⟨as,ra⟩:=a.reads I rx
 obtain⟨bs,rb⟩:=b.reads I ry
 exact ne_dataH ra rb sa sb hu ⟨.bl _,H,I,rfl,q⟩
end
theorem repAll_ints{K:FrgT}{H:Hp}:∀ns:List Int,RepAll K H (ns.map PyData.int) (ns.map V.int)
 |[]=>rfl
 |n::r=>⟨.int n,r.map V.int,rfl,rfl,repAll_ints r⟩
theorem bt_len:bootBuiltins "len"=some (.builtin "len"):=by decide +kernel
theorem bt_isinstance:bootBuiltins "isinstance"=some (.builtin "isinstance"):=by decide +kernel
theorem bt_max:bootBuiltins "max"=some (.builtin "max"):=by decide +kernel
theorem bt_any:bootBuiltins "any"=some (.builtin "any"):=by decide +kernel
theorem bt_all:bootBuiltins "all"=some (.builtin "all"):=by decide +kernel
theorem bt_int:bootBuiltins "int"=some (.type "int"):=by decide +kernel
theorem bt_bool:bootBuiltins "bool"=some (.type "bool"):=by decide +kernel
theorem bt_list:bootBuiltins "list"=some (.type "list"):=by decide +kernel
theorem bt_tuple:bootBuiltins "tuple"=some (.type "tuple"):=by decide +kernel
theorem bt_str:bootBuiltins "str"=some (.type "str"):=by decide +kernel
variable[TabP]
def ItOk(J:It)(H1:Hp)(xs:List V):Prop:=∀H,Same H1 H→∀i,(i<xs.length→J.go i H∧∀x H',J.yld i H x H'→H'=H∧xs[i]? = some x)∧(xs.length≤i→J.stop i H)
theorem itl_ok{K:FrgT}{H:Hp}{a:Addr}{xs:List V}(h:SqL K H a xs):ItOk (Itl K a) H xs:=fun H' s i=>
 ⟨fun hi=>⟨⟨xs,xs[i],s.seq h,by simp[hi]⟩,fun x H'' y=>⟨y.1,y.2 xs (s.seq h)⟩⟩,fun hi=>⟨xs,s.seq h,hi⟩⟩
theorem itt_ok{K:FrgT}{H:Hp}{a:Addr}{xs:List V}(h:SqT K H a xs):ItOk (Itt K a) H xs:=fun H' s i=>
 ⟨fun hi=>⟨⟨xs,xs[i],s.seqT h,by simp[hi]⟩,fun x H'' y=>⟨y.1,y.2 xs (s.seqT h)⟩⟩,fun hi=>⟨xs,s.seqT h,hi⟩⟩
noncomputable def rngV(lo:Int)(n:Nat):List V:=(List.range n).map fun i=>V.int (lo+(i:Nat))
theorem itr_ok{H:Hp}(lo:Int)(n:Nat):ItOk (Itr lo n) H (rngV lo n):=fun H' s i=>by
 have hl:(rngV lo n).length=n:=by unfold rngV;rw[List.length_map,List.length_range]
 refine⟨fun hi=>⟨by rw[hl]at hi;exact hi,fun x H'' y=>⟨y.1,?_⟩⟩,fun hi=>by rw[hl]at hi;exact hi⟩
 rw[hl]at hi
 rw[y.2]
 unfold rngV
 rw[List.getElem?_map,List.getElem?_range hi]
 rfl
end L2
namespace L2
open PySem PySem.Spec PyProof.Rows
theorem Df.none{P:Program}{w:World}{K:FrgT}{mg:BinT}{base:Heap}{x:Str}{st:Stmt}{ps:List Str}{k:Nat}{sp:Sp}(D:Df K mg x st ps)(no:∀vs H Q E,¬sp vs H Q E):Has P w K mg base x ps k sp:=by
 obtain⟨f,fd,F,b,m⟩:=D.ex
 exact⟨f,fd,⟨fun vs H Q E h=>absurd h (no vs H Q E),fun A outer s H args us vs Q E _ _ _ _ h=>absurd h (no vs H Q E)⟩,b,F.kp,m⟩
theorem kit_all(K:FrgT):Kit K:=⟨by
 intro t ht c hc
 simp only[List.mem_cons,List.mem_nil_iff,or_false]at ht hc
 rcases ht with rfl | rfl | rfl | rfl | rfl | rfl<;>rcases hc with rfl | rfl | rfl | rfl | rfl<;>kernel_rfl⟩
theorem range_any(bs:List Bool):(List.range bs.length).any (fun i=>bs.getD i false)=bs.any id:=by
 rw[Bool.eq_iff_iff,List.any_eq_true,List.any_eq_true]
 constructor
 ·rintro⟨i,hi,h⟩
  have hi':=List.mem_range.mp hi
  refine⟨bs[i],List.getElem_mem hi',?_⟩
  rw[List.getD_eq_getElem?_getD,List.getElem?_eq_getElem hi']at h
  exact h
 ·rintro⟨b,hb,h⟩
  obtain⟨i,hi,rfl⟩:=List.getElem_of_mem hb
  refine⟨i,List.mem_range.mpr hi,?_⟩
  rw[List.getD_eq_getElem?_getD,List.getElem?_eq_getElem hi]
  exact h
theorem range_all(bs:List Bool):(List.range bs.length).all (fun i=>bs.getD i false)=bs.all id:=by
 rw[Bool.eq_iff_iff,List.all_eq_true,List.all_eq_true]
 constructor
 ·intro h b hb
  obtain⟨i,hi,rfl⟩:=List.getElem_of_mem hb
  have:=h i (List.mem_range.mpr hi)
  rw[List.getD_eq_getElem?_getD,List.getElem?_eq_getElem hi]at this
  exact this
 ·intro h i hi
  have hi':=List.mem_range.mp hi
  rw[List.getD_eq_getElem?_getD,List.getElem?_eq_getElem hi']
  exact h _ (List.getElem_mem hi')
section
variable{X:Cx}{K:FrgT}
theorem truth_bls{prog:Program}{w:World}{A:Around}{bs:List Bool}{its:List Value}(rv:Vals (bs.map V.bl) its):TruthOf prog w A (fun i v=>its.toArray[i]? = some v) (fun i=>bs.getD i false):=by
 intro i v s Q E hv hq
 have hv':its[i]? = some v:=by simpa using hv
 have hi:i<bs.length:=by
  have h1:=(List.getElem?_eq_some_iff.mp hv').1
  have h2:=rv.length
  rw[List.length_map]at h2
  omega
 obtain⟨u,hu,ru⟩:=rv.get (i:=i) (x:=.bl bs[i]) (by rw[List.getElem?_map,List.getElem?_eq_getElem hi];rfl)
 rw[hv']at hu
 cases hu
 cases ru
 have hq':Q (bs.getD i false) s:=hq
 rw[List.getD_eq_getElem?_getD,List.getElem?_eq_getElem hi]at hq'
 exact wpAny_truthy_bool hq'
theorem call_any(hc:X.calm=true):CallR X (.builtin "any") (fun xs H Q=>∃(l:Addr)(bs:List Bool),xs=[.ref l]∧SqL X.K H l (bs.map V.bl)∧Q (.bl (bs.any id)) H):=by
 intro pins s σ H xs us Q I rv h
 obtain⟨l,bs,rfl,hS,q⟩:=h
 obtain⟨u,rfl,r1⟩:=vals1 rv
 cases r1
 obtain⟨its,rvs,p,hz⟩:=I.list hS
 have hlt:l<s.heap.objs.size:=by obtain⟨o,n,e,_⟩:=p;exact Heap.lt_size e
 refine call_any_walk (wpAny_pyIter_list p.isList ?_)
 refine⟨s.heap.objs.size,_,_,_,_,_,fun i=>bs.getD i false,rfl,Walks.list (A:=X.A.in1) (show X.A.in1.handled=none from I.ok.hd hc) s.heap.objs.size l (Nat.ne_of_lt hlt) its.toArray,⟨⟨_,Heap.get?_push_size _ rfl,rfl,rfl⟩,p.isList.at fun o e=>Heap.get?_push_of_some _ e⟩,truth_bls rvs,fun h' tk k=>?_⟩
 have hn:its.toArray.size=bs.length:=by
  have h2:=rvs.length
  rw[List.length_map]at h2
  simp[h2]
 rw[hn,range_any]
 exact⟨.bl _,H,I.kept (h':=h') (t':=tk) fun b o e=>k b o (by intro z;rw[List.mem_singleton.mp z]at e;exact absurd (Heap.lt_size e) (Nat.lt_irrefl _)) (Heap.get?_push_of_some _ e),rfl,q⟩
theorem call_all(hc:X.calm=true):CallR X (.builtin "all") (fun xs H Q=>∃(l:Addr)(bs:List Bool),xs=[.ref l]∧SqL X.K H l (bs.map V.bl)∧Q (.bl (bs.all id)) H):=by
 intro pins s σ H xs us Q I rv h
 obtain⟨l,bs,rfl,hS,q⟩:=h
 obtain⟨u,rfl,r1⟩:=vals1 rv
 cases r1
 obtain⟨its,rvs,p,hz⟩:=I.list hS
 have hlt:l<s.heap.objs.size:=by obtain⟨o,n,e,_⟩:=p;exact Heap.lt_size e
 refine call_all_walk (wpAny_pyIter_list p.isList ?_)
 refine⟨s.heap.objs.size,_,_,_,_,_,fun i=>bs.getD i false,rfl,Walks.list (A:=X.A.in1) (show X.A.in1.handled=none from I.ok.hd hc) s.heap.objs.size l (Nat.ne_of_lt hlt) its.toArray,⟨⟨_,Heap.get?_push_size _ rfl,rfl,rfl⟩,p.isList.at fun o e=>Heap.get?_push_of_some _ e⟩,truth_bls rvs,fun h' tk k=>?_⟩
 have hn:its.toArray.size=bs.length:=by
  have h2:=rvs.length
  rw[List.length_map]at h2
  simp[h2]
 rw[hn,range_all]
 exact⟨.bl _,H,I.kept (h':=h') (t':=tk) fun b o e=>k b o (by intro z;rw[List.mem_singleton.mp z]at e;exact absurd (Heap.lt_size e) (Nat.lt_irrefl _)) (Heap.get?_push_of_some _ e),rfl,q⟩
end
section
variable{X:Cx}
theorem pe_globR{x:Str}{v:V}{pos:Pos}(hg:Gl X x)(h:∃u,X.mg x=some u∧RelV v u)(hd:(x==("__debug__":Str))=false:=by decide):PE X (.Name x pos) (tC v):=by
 obtain⟨u,hm,r⟩:=h
 exact pe_glob hg hm r hd
variable[TabP]
end
end L2
set_option maxHeartbeats 1000000
namespace L3
open PySem PySem.Spec L2
variable[L2.TabP]
inductive D where
 |non | bl (b:Bool) | int (i:Int) | str (x:Str) | tup (xs:List D) | lst (xs:List D) | dic (ks:List Key) (vs:List D) | fn (f:Str) | ty (n:String)
noncomputable abbrev Pl:=Int×Int×Int
inductive Tr where
 |lf (d:D) | ls (ts:List Tr) | dc (ks:List Key) (ts:List Tr) | ob (c:Str) (ns:List Str) (ts:List Tr) | any | tp (ts:List Tr)
inductive TM where
 |own | par | view
 deriving DecidableEq
inductive Slot where
 |emp | val (d:D) | ow (p:Bool) (xs:List D) | vw (xs:List D) | dct (kvs:List (Key×D)) | vd (kvs:List (Key×D)) | pd (kvs:List (Pl×D)) | vp (kvs:List (Pl×D)) | tr (m:TM) (t:Tr)
noncomputable abbrev En:=List Slot
structure Ob where
 cls:Str
 fs:List (Str×Slot)
noncomputable abbrev Store:=List Ob
inductive Out(α:Type) where
 |ok (a:α) (S:Store) | exc (c:Str) (S:Store) | bad
structure M(α:Type):Type where
 run:Store→Out α
noncomputable def M.bnd{α β:Type}(m:M α)(f:α→M β):M β:=⟨fun S=>match m.run S with
 |.ok a S'=>(f a).run S'
 |.exc c S'=>.exc c S'
 | .bad=>.bad⟩
noncomputable instance:Monad M where
 pure a:=⟨fun S=>.ok a S⟩
 bind:=M.bnd
omit [L2.TabP]in
theorem M.ext{α:Type}{x y:M α}(h:∀S,x.run S=y.run S):x=y:=by
 cases x;cases y;congr;funext S;exact h S
omit [L2.TabP]in
theorem M.bind_def{α β:Type}(m:M α)(f:α→M β):(m >>= f)=M.bnd m f:=rfl
noncomputable instance:LawfulMonad M:=LawfulMonad.mk'
 (id_map:=fun x=>M.ext fun S=>by show(M.bnd x (fun a=>pure (id a))).run S=x.run S;unfold M.bnd;dsimp only;cases x.run S<;>rfl)
 (pure_bind:=fun x f=>rfl)
 (bind_assoc:=fun x f g=>M.ext fun S=>by show(M.bnd (M.bnd x f) g).run S=(M.bnd x (fun a=>M.bnd (f a) g)).run S;unfold M.bnd;dsimp only;cases x.run S<;>rfl)
 (bind_pure_comp:=fun f x=>rfl)
noncomputable def bad{α:Type}:M α:=⟨fun _=>.bad⟩
omit [L2.TabP]in
theorem M.inv{α β:Type}{m:M α}{f:α→M β}{S S':Store}{b:β}(h:(m >>= f).run S=.ok b S'):∃a S1,m.run S=.ok a S1∧(f a).run S1=.ok b S':=by
 rw[M.bind_def]at h
 unfold M.bnd at h
 dsimp only at h
 cases e:m.run S with
 |ok a S1=>rw[e]at h;exact⟨a,S1,rfl,h⟩
 |exc c S1=>rw[e]at h;cases h
 |bad=>rw[e]at h;cases h
noncomputable def chk(p:Prop)[Decidable p]:M Unit:=if p then pure ()else bad
omit [L2.TabP]in
theorem chk_inv{p:Prop}[Decidable p]{S S':Store}{u:Unit}(h:(chk p).run S=.ok u S'):p∧S=S':=by
 unfold chk at h
 by_cases hp:p
 ·rw[if_pos hp]at h;cases h;exact⟨hp,rfl⟩
 ·rw[if_neg hp]at h;cases h
inductive R where
 |v (d:D) | fr (xs:List D) | vw (xs:List D) | mv (xs:List D) | dv (kvs:List (Key×D))
noncomputable abbrev ME:=En→M R
inductive Own where
 |free | out | tmp | loc (i:Nat) | tr (i:Nat) (p:List Nat)
 deriving DecidableEq
noncomputable def Own.at:Own→List Nat→Own
 |.loc i,p=>.tr i p
 |w,_=>w
noncomputable def TM.ow:TM→Own→Own
 |.view,_=>.out
 |_,w=>w
noncomputable abbrev Ow:=Addr→Own
def KLst(K:FrgT)(a:Addr)(xs:List V):Prop:=
 ∃(o:Obj)(its:Array Value)(n:Nat),K.lookup a=some o∧o.cls=.type "list"∧o.dict=none∧o.data=.seq its n∧its.size≤sizeLine∧Vals xs its.toList
def LsF(_:FrgT)(O:Ow)(H:Hp)(a:Addr)(ys:List V):Prop:=H a=some (.lst ys)∧O a=.free
mutual
noncomputable def Rep(K:FrgT)(mg:BinT)(O:Ow)(H:Hp):D→V→Prop
 |.non,v=>v=.non
 |.bl b,v=>v=.bl b
 |.int i,v=>v=.int i
 |.str x,v=>v=.str x
 |.tup xs,v=>∃a ys,v=.ref a∧SqT K H a ys∧RepAll K mg O H xs ys
 |.lst xs,v=>∃a ys,v=.ref a∧LsF K O H a ys∧RepAll K mg O H xs ys
 |.dic _ _,_=>False
 |.fn f,v=>∃a,v=.ref a∧mg f=some (.ref a)
 |.ty n,v=>v=.ty n
noncomputable def RepAll(K:FrgT)(mg:BinT)(O:Ow)(H:Hp):List D→List V→Prop
 |[],ys=>ys=[]
 |x::xs,ys=>∃y r,ys=y::r∧Rep K mg O H x y∧RepAll K mg O H xs r
end
structure Go(O O':Ow)(H H':Hp):Prop where
 same:Same H H'
 own:∀b,H b≠none→O' b=O b
theorem Go.refl(O:Ow)(H:Hp):Go O O H H:=⟨Same.refl _,fun _ _=>rfl⟩
theorem Go.trans{O O1 O2:Ow}{H H1 H2:Hp}(a:Go O O1 H H1)(b:Go O1 O2 H1 H2):Go O O2 H H2:=
 ⟨a.same.trans b.same,fun c h=>(b.own c (a.same.some h)).trans (a.own c h)⟩
theorem Rd.same{H H':Hp}(s:Same H H'){a:Addr}{u:HO}(h:Rd H a u)(n:nT u:=by exact trivial):Rd H' a u:=by
 rcases h with h | ⟨o,h⟩
 ·exact .inl (s.at' _ _ h n)
 ·exact .inr ⟨o,s.at' _ _ h⟩
omit [L2.TabP]in
theorem Rd.some{H:Hp}{a:Addr}{u:HO}(h:Rd H a u):H a≠none:=by
 rcases h with h | ⟨o,h⟩<;>rw[h]<;>intro z<;>cases z
theorem LsF.sq{K:FrgT}{O:Ow}{H:Hp}{a:Addr}{ys:List V}(h:LsF K O H a ys):SqL K H a ys:=SqL.of h.1
def LsV(K:FrgT)(O:Ow)(H:Hp)(a:Addr)(ys:List V):Prop:=(Rd H a (.lst ys)∧(O a=.free∨O a=.out))∨KLst K a ys
theorem LsV.sq{K:FrgT}{O:Ow}{H:Hp}{a:Addr}{ys:List V}(h:LsV K O H a ys):SqL K H a ys:=h.elim (fun z=>.inl z.1) .inr
theorem LsV.go{K:FrgT}{O O':Ow}{H H':Hp}(g:Go O O' H H'){a:Addr}{ys:List V}(h:LsV K O H a ys):LsV K O' H' a ys:=by
 rcases h with⟨l,f⟩ | l
 ·exact .inl ⟨Rd.same g.same l,by rw[g.own a (Rd.some l)];exact f⟩
 ·exact .inr l
theorem LsF.go{K:FrgT}{O O':Ow}{H H':Hp}(g:Go O O' H H'){a:Addr}{ys:List V}(h:LsF K O H a ys):LsF K O' H' a ys:=by
 exact⟨g.same.at' _ _ h.1,(g.own a (by rw[h.1];intro z;cases z)).trans h.2⟩
section
variable{K:FrgT}{mg:BinT}{O O':Ow}{H H':Hp}
mutual
theorem Rep.go(g:Go O O' H H'):∀{d:D}{v:V},Rep K mg O H d v→Rep K mg O' H' d v
 |.non,_,h=>h
 |.bl _,_,h=>h
 |.int _,_,h=>h
 |.str _,_,h=>h
 | .tup _,_,h=>by obtain⟨a,ys,q,l,r⟩:=h;exact⟨a,ys,q,g.same.seqT l,RepAll.go g r⟩
 | .lst _,_,h=>by obtain⟨a,ys,q,l,r⟩:=h;exact⟨a,ys,q,l.go g,RepAll.go g r⟩
 |.dic _ _,_,h=>h
 |.fn _,_,h=>h
 |.ty _,_,h=>h
theorem RepAll.go(g:Go O O' H H'):∀{ds:List D}{ys:List V},RepAll K mg O H ds ys→RepAll K mg O' H' ds ys
 |[],_,h=>h
 | _::_,_,h=>by obtain⟨x,r,q,a,b⟩:=h;exact⟨x,r,q,Rep.go g a,RepAll.go g b⟩
end
structure Fre(O O':Ow):Prop where
 fr:∀a,O a=.free→O' a=.free
mutual
theorem Rep.fre(g:Fre O O'):∀{d:D}{v:V},Rep K mg O H d v→Rep K mg O' H d v
 |.non,_,h=>h
 |.bl _,_,h=>h
 |.int _,_,h=>h
 |.str _,_,h=>h
 | .tup _,_,h=>by obtain⟨a,ys,q,l,r⟩:=h;exact⟨a,ys,q,l,RepAll.fre g r⟩
 | .lst _,_,h=>by obtain⟨a,ys,q,l,r⟩:=h;exact⟨a,ys,q,⟨l.1,g.fr _ l.2⟩,RepAll.fre g r⟩
 |.dic _ _,_,h=>h
 |.fn _,_,h=>h
 |.ty _,_,h=>h
theorem RepAll.fre(g:Fre O O'):∀{ds:List D}{ys:List V},RepAll K mg O H ds ys→RepAll K mg O' H ds ys
 |[],_,h=>h
 | _::_,_,h=>by obtain⟨x,r,q,a,b⟩:=h;exact⟨x,r,q,Rep.fre g a,RepAll.fre g b⟩
end
theorem RepAll.len:∀{ds:List D}{xs:List V},RepAll K mg O H ds xs→xs.length=ds.length
 | [],_,h=>by cases h;rfl
 | _::_,_,h=>by obtain⟨x,r,rfl,_,b⟩:=h;rw[List.length_cons,List.length_cons,RepAll.len b]
theorem RepAll.get:∀{ds:List D}{xs:List V}{i:Nat}{d:D},RepAll K mg O H ds xs→ds[i]? = some d→∃x,xs[i]? = some x∧Rep K mg O H d x
 | [],_,_,_,_,e=>by simp at e
 | _::_,_,0,d,h,e=>by obtain⟨x,r,rfl,a,_⟩:=h;cases(show some _=some d from e);exact⟨x,rfl,a⟩
 |_::ds,_,i+1,d,h,e=>by
  obtain⟨x,r,rfl,_,b⟩:=h
  obtain⟨y,e1,e2⟩:=RepAll.get (i:=i) b (by simpa using e)
  exact⟨y,by simpa using e1,e2⟩
theorem RepAll.append:∀{ds es:List D}{xs ys:List V},RepAll K mg O H ds xs→RepAll K mg O H es ys→RepAll K mg O H (ds++es) (xs++ys)
 | [],_,_,_,h,q=>by cases h;exact q
 | _::_,_,_,_,h,q=>by obtain⟨x,r,rfl,a,b⟩:=h;exact⟨x,_,rfl,a,RepAll.append b q⟩
theorem RepAll.one{d:D}{x:V}(h:Rep K mg O H d x):RepAll K mg O H [d] [x]:=⟨x,[],rfl,h,rfl⟩
theorem RepAll.take:∀{ds:List D}{xs:List V}(n:Nat),RepAll K mg O H ds xs→RepAll K mg O H (ds.take n) (xs.take n)
 | [],_,_,h=>by cases h;rw[List.take_nil,List.take_nil];rfl
 | _::_,_,0,_=>by rw[List.take_zero,List.take_zero];rfl
 | _::_,_,n+1,h=>by obtain⟨x,r,rfl,a,b⟩:=h;exact⟨x,_,rfl,a,RepAll.take n b⟩
theorem RepAll.drop:∀{ds:List D}{xs:List V}(n:Nat),RepAll K mg O H ds xs→RepAll K mg O H (ds.drop n) (xs.drop n)
 | [],_,_,h=>by cases h;rw[List.drop_nil,List.drop_nil];rfl
 |_::_,_,0,h=>h
 | _::_,_,n+1,h=>by obtain⟨x,r,rfl,a,b⟩:=h;exact RepAll.drop n b
theorem repAll_ints(ns:List Int):RepAll K mg O H (ns.map D.int) (ns.map V.int):=by
 induction ns with
 |nil=>rfl
 |cons n r ih=>exact⟨.int n,_,rfl,rfl,ih⟩
def RepKV(K:FrgT)(mg:BinT)(O:Ow)(H:Hp)(kvs:List (Key×D))(kvv:List (Key×V)):Prop:=kvs.map (·.1)=kvv.map (·.1)∧RepAll K mg O H (kvs.map (·.2)) (kvv.map (·.2))
theorem RepKV.go(g:Go O O' H H'){kvs:List (Key×D)}{kvv:List (Key×V)}(h:RepKV K mg O H kvs kvv):RepKV K mg O' H' kvs kvv:=⟨h.1,h.2.go g⟩
theorem RepKV.fre(g:Fre O O'){kvs:List (Key×D)}{kvv:List (Key×V)}(h:RepKV K mg O H kvs kvv):RepKV K mg O' H kvs kvv:=⟨h.1,h.2.fre g⟩
noncomputable def plD(p:Pl):D:=.tup [.int p.1,.tup [.int p.2.1,.int p.2.2]]
noncomputable def plH(p:Pl):Int:=reduceHash (Builtin.Tuple.tupleHashOf [hashInt p.1,reduceHash (Builtin.Tuple.tupleHashOf [hashInt p.2.1,hashInt p.2.2])])
noncomputable def plE(x:Pl×Addr×Value):DictEntry:=⟨plH x.1,.ref x.2.1,x.2.2⟩
noncomputable abbrev PD(a:Addr)(xs:List (Pl×Addr×Value)):HO:=.ext fun h=>∃o es ep,h.get? a=some o∧o.ExactDict∧o.data=.dict es ep∧es.toList=xs.map plE
def PdOk(a:Addr)(xs:List (Pl×Addr×Value)):Prop:=(a==sysModules)=false∧(xs.map (·.1)).Nodup
noncomputable def RepPD(K:FrgT)(mg:BinT)(O:Ow)(H:Hp):List (Pl×D)→List (Pl×Addr×Value)→Prop
 |[],xs=>xs=[]
 |p::kvs,xs=>∃x r,xs=x::r∧p.1=x.1∧Rep K mg O H (plD p.1) (.ref x.2.1)∧(∃v,Rep K mg O H p.2 v∧RelV v x.2.2)∧RepPD K mg O H kvs r
theorem RepPD.all{O':Ow}{H':Hp}(f:∀d v,Rep K mg O H d v→Rep K mg O' H' d v):∀{kvs:List (Pl×D)}{xs:List (Pl×Addr×Value)},RepPD K mg O H kvs xs→RepPD K mg O' H' kvs xs
 |[],_,h=>h
 |_::_,_,h=>by
  obtain⟨x,r,e,e1,h1,⟨v,h2,h3⟩,h4⟩:=h
  exact⟨x,r,e,e1,f _ _ h1,⟨v,f _ _ h2,h3⟩,RepPD.all f h4⟩
theorem RepPD.go(g:Go O O' H H'){kvs:List (Pl×D)}{xs:List (Pl×Addr×Value)}(h:RepPD K mg O H kvs xs):RepPD K mg O' H' kvs xs:=h.all fun _ _ z=>Rep.go g z
theorem RepPD.fre(g:Fre O O'){kvs:List (Pl×D)}{xs:List (Pl×Addr×Value)}(h:RepPD K mg O H kvs xs):RepPD K mg O' H kvs xs:=h.all fun _ _ z=>Rep.fre g z
noncomputable def RepR(K:FrgT)(mg:BinT)(O:Ow)(H:Hp):R→V→Prop
 |.v d,v=>Rep K mg O H d v
 |.fr xs,v=>∃a ys,v=.ref a∧H a=some (.lst ys)∧O a=.tmp∧RepAll K mg O H xs ys
 |.vw xs,v=>∃a ys,v=.ref a∧LsV K O H a ys∧RepAll K mg O H xs ys
 |.mv xs,v=>∃a ys,v=.ref a∧H a=some (.lst ys)∧RepAll K mg O H xs ys
 |.dv kvs,v=>∃a kvv,v=.ref a∧Rd H a (.dK kvv)∧RepKV K mg O H kvs kvv
theorem RepR.go(g:Go O O' H H'):∀{r:R}{v:V},RepR K mg O H r v→RepR K mg O' H' r v
 |.v _,_,h=>Rep.go g h
 | .fr _,_,h=>by obtain⟨a,ys,q,l,o,r⟩:=h;exact⟨a,ys,q,g.same.at' _ _ l,(g.own a (by rw[l];intro z;cases z)).trans o,r.go g⟩
 | .vw _,_,h=>by obtain⟨a,ys,q,l,r⟩:=h;exact⟨a,ys,q,l.go g,r.go g⟩
 | .mv _,_,h=>by obtain⟨a,ys,q,l,r⟩:=h;exact⟨a,ys,q,g.same.at' _ _ l,r.go g⟩
 | .dv _,_,h=>by obtain⟨a,ys,q,l,r⟩:=h;exact⟨a,ys,q,Rd.same g.same l,r.go g⟩
def ClsIs(K:FrgT)(mg:BinT)(c:Str)(C:Addr):Prop:=mg c=some (.ref C)∧Cls K C
mutual
noncomputable def TreeR(K:FrgT)(mg:BinT)(O:Ow)(H:Hp)(w:Own):List Nat→Tr→V→Prop
 |_,.lf d,v=>Rep K mg O H d v
 |p,.ls ts,v=>∃a ys,v=.ref a∧O a=w.at p∧H a=some (.lst ys)∧TreeAll K mg O H w p 0 ts ys
 |p,.dc ks ts,v=>∃a ys,v=.ref a∧O a=w.at p∧H a=some (.dK (ks.zip ys))∧(ks.length=ys.length∧ks.Nodup)∧TreeAll K mg O H w p 0 ts ys
 |p,.ob c ns ts,v=>∃a C dx ys,v=.ref a∧O a=w.at p∧H a=some (.ins C dx (ns.zip ys))∧(ns.length=ys.length∧ns.Nodup∧ClsIs K mg c C)∧TreeAll K mg O H w p 0 ts ys
 |_,.any,_=>True
 |p,.tp ts,v=>∃a ys,v=.ref a∧O a=w.at p∧H a=some (.tup ys)∧TreeAll K mg O H w p 0 ts ys
noncomputable def TreeAll(K:FrgT)(mg:BinT)(O:Ow)(H:Hp)(w:Own):List Nat→Nat→List Tr→List V→Prop
 |_,_,[],ys=>ys=[]
 |p,n,t::ts,ys=>∃y r,ys=y::r∧TreeR K mg O H w (p++[n]) t y∧TreeAll K mg O H w p (n+1) ts r
end
mutual
theorem TreeR.all{O':Ow}{H':Hp}{w:Own}(f:∀d v,Rep K mg O H d v→Rep K mg O' H' d v)(g:∀(a:Addr)(u:HO)(p:List Nat),O a=w.at p→H a=some u→nT u→O' a=w.at p∧H' a=some u):∀(t:Tr){p:List Nat}{v:V},TreeR K mg O H w p t v→TreeR K mg O' H' w p t v
 |.lf _,_,_,h=>f _ _ h
 |.ls ts,_,_,h=>by
  obtain⟨a,ys,e,o,l,r⟩:=h
  obtain⟨o',l'⟩:=g _ _ _ o l trivial
  exact⟨a,ys,e,o',l',TreeAll.all f g ts r⟩
 |.dc _ ts,_,_,h=>by
  obtain⟨a,ys,e,o,l,q,r⟩:=h
  obtain⟨o',l'⟩:=g _ _ _ o l trivial
  exact⟨a,ys,e,o',l',q,TreeAll.all f g ts r⟩
 |.ob _ _ ts,_,_,h=>by
  obtain⟨a,C,dx,ys,e,o,l,q,r⟩:=h
  obtain⟨o',l'⟩:=g _ _ _ o l trivial
  exact⟨a,C,dx,ys,e,o',l',q,TreeAll.all f g ts r⟩
 |.any,_,_,_=>trivial
 |.tp ts,_,_,h=>by
  obtain⟨a,ys,e,o,l,r⟩:=h
  obtain⟨o',l'⟩:=g _ _ _ o l trivial
  exact⟨a,ys,e,o',l',TreeAll.all f g ts r⟩
theorem TreeAll.all{O':Ow}{H':Hp}{w:Own}(f:∀d v,Rep K mg O H d v→Rep K mg O' H' d v)(g:∀(a:Addr)(u:HO)(p:List Nat),O a=w.at p→H a=some u→nT u→O' a=w.at p∧H' a=some u):∀(ts:List Tr){p:List Nat}{n:Nat}{ys:List V},TreeAll K mg O H w p n ts ys→TreeAll K mg O' H' w p n ts ys
 |[],_,_,_,h=>h
 |t::ts,_,_,_,h=>by
  obtain⟨y,r,e,a,b⟩:=h
  exact⟨y,r,e,TreeR.all f g t a,TreeAll.all f g ts b⟩
end
theorem TreeR.go{w:Own}(g:Go O O' H H'){t:Tr}{p:List Nat}{v:V}(h:TreeR K mg O H w p t v):TreeR K mg O' H' w p t v:=
 h.all (fun _ _ z=>Rep.go g z) fun a u _ o l n=>⟨(g.own a (by rw[l];intro z;cases z)).trans o,g.same.at' _ _ l n⟩
noncomputable def SlotR(K:FrgT)(mg:BinT)(O:Ow)(H:Hp)(w:Own):Slot→Option V→Prop
 |.emp,_=>True
 |.val d,u=>∃v,u=some v∧Rep K mg O H d v
 |.ow _ xs,u=>∃a ys,u=some (.ref a)∧O a=w∧H a=some (.lst ys)∧RepAll K mg O H xs ys
 |.vw xs,u=>∃a ys,u=some (.ref a)∧LsV K O H a ys∧RepAll K mg O H xs ys
 |.dct kvs,u=>∃a kvv,u=some (.ref a)∧O a=w∧H a=some (.dK kvv)∧RepKV K mg O H kvs kvv
 |.vd kvs,u=>∃a kvv,u=some (.ref a)∧(Rd H a (.dK kvv)∧(O a=.free∨O a=.out))∧RepKV K mg O H kvs kvv
 |.pd kvs,u=>∃a xs,u=some (.ref a)∧O a=w∧H a=some (PD a xs)∧PdOk a xs∧RepPD K mg O H kvs xs
 |.vp kvs,u=>∃a xs,u=some (.ref a)∧(Rd H a (PD a xs)∧(O a=.free∨O a=.out))∧PdOk a xs∧RepPD K mg O H kvs xs
 |.tr m t,u=>∃v,u=some v∧TreeR K mg O H (m.ow w) [] t v
theorem SlotR.go{w:Own}(g:Go O O' H H'):∀{s:Slot}{u:Option V},SlotR K mg O H w s u→SlotR K mg O' H' w s u
 |.emp,_,_=>trivial
 | .val _,_,h=>by obtain⟨v,q,r⟩:=h;exact⟨v,q,r.go g⟩
 | .ow _ _,_,h=>by obtain⟨a,ys,q,o,l,r⟩:=h;exact⟨a,ys,q,(g.own a (by rw[l];intro z;cases z)).trans o,g.same.at' _ _ l,r.go g⟩
 |.vw _,_,h=>by
  obtain⟨a,ys,q,l,r⟩:=h
  exact⟨a,ys,q,l.go g,r.go g⟩
 | .dct _,_,h=>by obtain⟨a,ys,q,o,l,r⟩:=h;exact⟨a,ys,q,(g.own a (by rw[l];intro z;cases z)).trans o,g.same.at' _ _ l,r.go g⟩
 | .vd _,_,h=>by obtain⟨a,ys,q,l,r⟩:=h;exact⟨a,ys,q,⟨Rd.same g.same l.1,by rw[g.own a (Rd.some l.1)];exact l.2⟩,r.go g⟩
 | .pd _,_,h=>by obtain⟨a,ys,q,o,l,r⟩:=h;exact⟨a,ys,q,(g.own a (by rw[l];intro z;cases z)).trans o,g.same.at' _ _ l,r.1,r.2.go g⟩
 | .vp _,_,h=>by obtain⟨a,ys,q,l,r⟩:=h;exact⟨a,ys,q,⟨Rd.same g.same l.1,by rw[g.own a (Rd.some l.1)];exact l.2⟩,r.1,r.2.go g⟩
 | .tr _ _,_,h=>by obtain⟨v,q,r⟩:=h;exact⟨v,q,r.go g⟩
end
theorem TM.ne{m:TM}{w:Own}{o:Own}(ho:o≠.out)(ht:∀p,o≠w.at p):∀p,o≠(m.ow w).at p:=fun p=>by
 cases m with
 |view=>exact ho
 |own=>exact ht p
 |par=>exact ht p
structure Dom(O:Ow)(H:Hp):Prop where
 has:∀a,O a≠.free→H a≠none
 tabs:TabsOk H
structure S3(K:FrgT)(mg:BinT)(O:Ow)(σ:En)(S:Store)(σV:St)(H:Hp):Prop where
 dom:Dom O H
 len:σ.length=σV.length
 loc:∀i s,σ[i]? = some s→SlotR K mg O H (.loc i) s (σV[i]?.join)
 emp:S=[]
theorem S3.go{K:FrgT}{mg:BinT}{O O':Ow}{σ:En}{S:Store}{σV:St}{H H':Hp}(h:S3 K mg O σ S σV H)(g:Go O O' H H')(d:Dom O' H'):S3 K mg O' σ S σV H':=
 ⟨d,h.len,fun i s e=>(h.loc i s e).go g,h.emp⟩
noncomputable def updO(O:Ow)(a:Addr)(o:Own):Ow:=fun b=>if b=a then o else O b
omit [L2.TabP]in
theorem updO_same{O:Ow}{a:Addr}{o:Own}:updO O a o a=o:=if_pos rfl
omit [L2.TabP]in
theorem updO_ne{O:Ow}{a b:Addr}{o:Own}(h:b≠a):updO O a o b=O b:=if_neg h
section
variable{K:FrgT}{mg:BinT}{O:Ow}{σ:En}{S:Store}{σV:St}{H:Hp}{p:Addr}{u:HO}{o:Own}
theorem Go.new(hp:H p=none):Go O (updO O p o) H (upd H p u):=
 ⟨same_new hp u,fun b hb=>updO_ne (by rintro rfl;exact hb hp)⟩
theorem Go.new0(hp:H p=none):Go O O H (upd H p u):=⟨same_new hp u,fun _ _=>rfl⟩
theorem Dom.new(d:Dom O H)(hp:H p=none):Dom (updO O p o) (upd H p u):=⟨fun a ha=>by
 by_cases e:a=p
 ·subst e;rw[upd_same];intro z;cases z
 ·rw[upd_ne e];rw[updO_ne e]at ha;exact d.has a ha,d.tabs.new hp u⟩
theorem Dom.same{H':Hp}(d:Dom O H)(s:Same H H'):Dom O H':=⟨fun a ha=>s.some (d.has a ha),s.gd d.tabs⟩
theorem S3.new(h:S3 K mg O σ S σV H)(hp:H p=none):S3 K mg (updO O p o) σ S σV (upd H p u):=h.go (Go.new hp) (h.dom.new hp)
theorem S3.new0(h:S3 K mg O σ S σV H)(hp:H p=none):S3 K mg O σ S σV (upd H p u):=h.go (Go.new0 hp) (h.dom.same (same_new hp u))
end
noncomputable def NewR(H:Hp):R→V→Prop
 |.fr _,v=>∀a,v=.ref a→H a=none
 |_,_=>True
theorem NewR.back{H H1:Hp}(s:Same H H1):∀{r:R}{v:V},NewR H1 r v→NewR H r v
 |.v _,_,_=>trivial
 |.vw _,_,_=>trivial
 |.mv _,_,_=>trivial
 |.dv _,_,_=>trivial
 |.fr _,_,h=>fun a e=>s.free (h a e)
noncomputable def NewRs(H:Hp):List R→List V→Prop
 |r::rs,v::vs=>NewR H r v∧NewRs H rs vs
 |_,_=>True
theorem NewRs.back{H H1:Hp}(s:Same H H1):∀{rs:List R}{vs:List V},NewRs H1 rs vs→NewRs H rs vs
 |[],_,_=>trivial
 |_::_,[],_=>trivial
 |_::_,_::_,h=>⟨h.1.back s,NewRs.back s h.2⟩
def PoE(K:FrgT)(mg:BinT)(O:Ow)(σ:En)(S':Store)(σV:St)(H:Hp)(r:R)(Q:VK):Prop:=
 ∀O' v H',Go O O' H H'→S3 K mg O' σ S' σV H'→RepR K mg O' H' r v→NewR H r v→Q v H'
noncomputable def teOf(K:FrgT)(mg:BinT)(m:ME):TE:=fun σV H Q=>∃O σ S r S',S3 K mg O σ S σV H∧(m σ).run S=.ok r S'∧PoE K mg O σ S' σV H r Q
noncomputable def ttOf(K:FrgT)(mg:BinT)(m:En→M Bool):TT:=fun σV H Q=>∃O σ S b S',S3 K mg O σ S σV H∧(m σ).run S=.ok b S'∧∀O' H',Go O O' H H'→S3 K mg O' σ S' σV H'→Q b H'
abbrev CE(X:Cx)(e:Expr)(m:ME):Prop:=PE X e (teOf X.K X.mg m)
abbrev CT(X:Cx)(e:Expr)(m:En→M Bool):Prop:=PT X e (ttOf X.K X.mg m)
abbrev CW(X:Cx)(e:Expr)(m:En→M Bool):Prop:=PW X e (ttOf X.K X.mg m)
noncomputable def RepRs(K:FrgT)(mg:BinT)(O:Ow)(H:Hp):List R→List V→Prop
 |[],ys=>ys=[]
 |x::xs,ys=>∃y r,ys=y::r∧RepR K mg O H x y∧RepRs K mg O H xs r
noncomputable abbrev MA:=En→M (List R)
noncomputable def taOf(K:FrgT)(mg:BinT)(m:MA):TA:=fun σV H Q=>∃O σ S rs S',S3 K mg O σ S σV H∧(m σ).run S=.ok rs S'∧∀O' vs H',Go O O' H H'→S3 K mg O' σ S' σV H'→RepRs K mg O' H' rs vs→NewRs H rs vs→Q vs H'
abbrev CA(X:Cx)(es:List Expr)(m:MA):Prop:=PA X es (taOf X.K X.mg m)
theorem pe_imp{X:Cx}{e:Expr}{t t':TE}(h:PE X e t)(i:∀σ H Q,t' σ H Q→t σ H Q):PE X e t':=fun pins s σ H Q I q=>h pins s σ H Q I (i _ _ _ q)
theorem pt_imp{X:Cx}{e:Expr}{t t':TT}(h:PT X e t)(i:∀σ H Q,t' σ H Q→t σ H Q):PT X e t':=fun pins s σ H Q I q=>h pins s σ H Q I (i _ _ _ q)
theorem pw_imp{X:Cx}{e:Expr}{t t':TT}(h:PW X e t)(i:∀σ H Q,t' σ H Q→t σ H Q):PW X e t':=fun wh pins s σ H Q I q=>h wh pins s σ H Q I (i _ _ _ q)
theorem pa_imp{X:Cx}{es:List Expr}{t t':TA}(h:PA X es t)(i:∀σ H Q,t' σ H Q→t σ H Q):PA X es t':=fun pos pins s σ H Q I q=>h pos pins s σ H Q I (i _ _ _ q)
noncomputable def cVar(i:Nat):ME:=fun σ=>match σ[i]? with
 |some (.val d)=>pure (.v d)
 |some (.ow _ xs)=>pure (.mv xs)
 |some (.vw xs)=>pure (.vw xs)
 |some (.dct kvs)=>pure (.dv kvs)
 |some (.vd kvs)=>pure (.dv kvs)
 |_=>bad
noncomputable def cK(d:D):ME:=fun _=>pure (.v d)
section
variable{X:Cx}{a b c e:Expr}{ma mb mc m:ME}{ta tb:En→M Bool}{pos:Pos}
theorem ce_var(i:Nat){x:Str}{pos:Pos}(hN:X.N[i]? = some x:=by rfl)(hv:Vis X.env.scope x:=by first | exact Or.inl rfl | exact Or.inr (Or.inl rfl) | exact Or.inr (Or.inr rfl))(hd:(x==("__debug__":Str))=false:=by decide)
  (hcd:(x==("__classdict__":Str))=false:=by decide):CE X (.Name x pos) (cVar i):=pe_imp (pe_var hN hv hd hcd)<|by
 rintro σV H Q ⟨O,σ,S,r,S',st,h,q⟩
 unfold cVar at h
 cases e:σ[i]? with
 |none=>rw[e]at h;cases h
 |some s=>
  rw[e]at h
  have l:=st.loc i s e
  have get:∀{v:V},σV[i]?.join=some v→σV[i]? = some (some v):=fun{v} z=>by
   cases w:σV[i]? with
   |none=>rw[w]at z;cases z
   |some y=>rw[w]at z;exact congrArg some z
  cases s with
  |val d=>
   obtain⟨v,e1,e2⟩:=l
   cases h
   exact⟨v,get e1,q O v H (Go.refl _ _) st e2 trivial⟩
  |ow p xs=>
   obtain⟨a,ys,e1,e2,e3,e4⟩:=l
   cases h
   exact⟨_,get e1,q O _ H (Go.refl _ _) st ⟨a,ys,rfl,e3,e4⟩ trivial⟩
  |vw xs=>
   obtain⟨a,ys,e1,e2,e4⟩:=l
   cases h
   exact⟨_,get e1,q O _ H (Go.refl _ _) st ⟨a,ys,rfl,e2,e4⟩ trivial⟩
  |emp=>cases h
  |pd k=>cases h
  |vp k=>cases h
  |tr _ _=>cases h
  |dct k=>
   obtain⟨a,ys,e1,e2,e3,e4⟩:=l
   cases h
   exact⟨_,get e1,q O _ H (Go.refl _ _) st ⟨a,ys,rfl,.inl e3,e4⟩ trivial⟩
  |vd k=>
   obtain⟨a,ys,e1,e2,e4⟩:=l
   cases h
   exact⟨_,get e1,q O _ H (Go.refl _ _) st ⟨a,ys,rfl,e2.1,e4⟩ trivial⟩
theorem ce_k{d:D}{v:V}(h:PE X e (tC v))(r:∀O H,Rep X.K X.mg O H d v):CE X e (cK d):=pe_imp h<|by
 rintro σV H Q ⟨O,σ,S,r',S',st,h,q⟩
 cases h
 exact q O v H (Go.refl _ _) st (r O H) trivial
theorem ce_int{i j pos}:CE X (.Constant (.int i) j pos) (cK (.int i)):=ce_k pe_int fun _ _=>rfl
theorem ce_bl{b j pos}:CE X (.Constant (.bool b) j pos) (cK (.bl b)):=ce_k pe_bl fun _ _=>rfl
theorem ce_non{j pos}:CE X (.Constant .none j pos) (cK .non):=ce_k pe_non fun _ _=>rfl
theorem ce_str{x j pos}:CE X (.Constant (.str x) j pos) (cK (.str x)):=ce_k pe_str fun _ _=>rfl
noncomputable def c2(f:R→R→M R)(a b:ME):ME:=fun σ=>do
 let x ←a σ
 let y ←b σ
 f x y
def Bin(K:FrgT)(mg:BinT)(r:R2)(f:R→R→M R):Prop:=
 ∀O σ S σV H x y rx ry r' S' (Q:VK),S3 K mg O σ S σV H→RepR K mg O H rx x→RepR K mg O H ry y→(f rx ry).run S=.ok r' S'→PoE K mg O σ S' σV H r' Q→r x y H Q
theorem c2_read{K:FrgT}{mg:BinT}{r:R2}{f:R→R→M R}(hf:Bin K mg r f):∀σV H Q,teOf K mg (c2 f ma mb) σV H Q→tOp r (teOf K mg ma) (teOf K mg mb) σV H Q:=by
 rintro σV H Q ⟨O,σ,S,r',S',st,h,q⟩
 obtain⟨x,S1,h1,h⟩:=M.inv h
 obtain⟨y,S2,h2,h⟩:=M.inv h
 refine⟨O,σ,S,x,S1,st,h1,fun O1 vx H1 g1 st1 rx nx=>?_⟩
 refine⟨O1,σ,S1,y,S2,st1,h2,fun O2 vy H2 g2 st2 ry ny=>?_⟩
 exact hf O2 σ S2 σV H2 vx vy x y r' S' Q st2 (rx.go g2) ry h fun O' v H' g st' rr nn=>q O' v H' ((g1.trans g2).trans g) st' rr (nn.back (g1.trans g2).same)
theorem ce_op{op:Operator}{r:R2}{f:R→R→M R}(ho:OpR X (binaryOp op) r)(hf:Bin X.K X.mg r f)(ha:CE X a ma)(hb:CE X b mb):CE X (.BinOp a op b pos) (c2 f ma mb):=pe_imp (pe_op ho ha hb) (c2_read hf)
theorem ce_cmp{op:CmpOp}{r:R2}{f:R→R→M R}(ho:OpR X (compareOp op) r)(hf:Bin X.K X.mg r f)(ha:CE X a ma)(hb:CE X b mb)(hm:behindInMarks op b=false):CE X (.Compare a [op] [b] pos) (c2 f ma mb):=pe_imp (pe_cmpR ho ha hb hm) (c2_read hf)
theorem ce_ix{r:R2}{f:R→R→M R}(ho:IxR X r)(hf:Bin X.K X.mg r f)(ha:CE X a ma)(hb:CE X b mb)(hs:PlainIx b):CE X (.Subscript a b pos) (c2 f ma mb):=pe_imp (pe_ix ho ha hb hs) (c2_read hf)
noncomputable def R.tru:R→M Bool
 |.v (.bl b)=>pure b
 |_=>bad
noncomputable def cT(m:ME):En→M Bool:=fun σ=>do
 let x ←m σ
 x.tru
omit [L2.TabP]in
theorem tru_inv{r:R}{b:Bool}{S S':Store}(h:r.tru.run S=.ok b S'):r=.v (.bl b)∧S=S':=by
 cases r with
 |v d=>cases d<;>cases h<;>exact⟨rfl,rfl⟩
 |fr _=>cases h
 |vw _=>cases h
 |mv _=>cases h
 |dv _=>cases h
theorem test_read{K:FrgT}{mg:BinT}:∀σV H Q,ttOf K mg (cT m) σV H Q→tTest (teOf K mg m) σV H Q:=by
 rintro σV H Q ⟨O,σ,S,t,S',st,h,q⟩
 obtain⟨x,S1,h1,h⟩:=M.inv h
 obtain⟨rfl,rfl⟩:=tru_inv h
 exact⟨O,σ,S,_,_,st,h1,fun O' v H' g st' rr _=>⟨t,rr,q O' H' g st'⟩⟩
theorem tTest_imp{t t':TE}(i:∀σ H Q,t' σ H Q→t σ H Q):∀σ H Q,tTest t' σ H Q→tTest t σ H Q:=fun σ H Q q=>i _ _ _ q
theorem ct_cmp{op:CmpOp}{r:R2}{f:R→R→M R}(ho:OpR X (compareOp op) r)(hf:Bin X.K X.mg r f)(ha:CE X a ma)(hb:CE X b mb)(hm:behindInMarks op b=false):CT X (.Compare a [op] [b] pos) (cT (c2 f ma mb)):=
 pt_imp (pt_cmpR ho ha hb hm) fun σV H Q h=>tTest_imp (c2_read hf) σV H Q (test_read σV H Q h)
noncomputable def c3(f g:R→R→M R)(a b c:ME):ME:=fun σ=>do
 let x ←a σ
 let y ←b σ
 let z ←f x y
 let t ←z.tru
 if t=true then do
  let w ←c σ
  g y w
 else pure (.v (.bl false))
theorem c3_read{K:FrgT}{mg:BinT}{r r':R2}{f g:R→R→M R}(hf:Bin K mg r f)(hg:Bin K mg r' g):∀σV H Q,teOf K mg (c3 f g ma mb mc) σV H Q→tChain r r' (teOf K mg ma) (teOf K mg mb) (teOf K mg mc) σV H Q:=by
 rintro σV H Q ⟨O,σ,S,r',S',st,h,q⟩
 obtain⟨x,S1,h1,h⟩:=M.inv h
 obtain⟨y,S2,h2,h⟩:=M.inv h
 obtain⟨z,S3',h3,h⟩:=M.inv h
 obtain⟨t,S4,h4,h⟩:=M.inv h
 obtain⟨rfl,rfl⟩:=tru_inv h4
 refine⟨O,σ,S,x,S1,st,h1,fun O1 vx H1 g1 st1 rx nx=>?_⟩
 refine⟨O1,σ,S1,y,S2,st1,h2,fun O2 vy H2 g2 st2 ry ny=>?_⟩
 refine hf O2 σ S2 σV H2 vx vy x y _ _ _ st2 (rx.go g2) ry h3 fun O3 v3 H3 g3 st3 rr _=>⟨t,rr,?_⟩
 have g123:=(g1.trans g2).trans g3
 cases t with
 |false=>
  rw[if_neg Bool.false_ne_true]at h
  cases h
  exact iteF (q O3 _ H3 g123 st3 rfl trivial)
 |true=>
  rw[if_pos rfl]at h
  obtain⟨w,S5,h5,h⟩:=M.inv h
  refine iteT ⟨O3,σ,_,w,S5,st3,h5,fun O4 vw H4 g4 st4 rw nw=>?_⟩
  exact hg O4 σ S5 σV H4 vy vw y w _ S' Q st4 (ry.go (g3.trans g4)) rw h fun O' v H' g st' rr nn=>q O' v H' ((g123.trans g4).trans g) st' rr (nn.back (g123.trans g4).same)
theorem ce_chain{op op':CmpOp}{r r':R2}{f g:R→R→M R}(ho:OpR X (compareOp op) r)(hf:Bin X.K X.mg r f)(ho':OpR X (compareOp op') r')(hg:Bin X.K X.mg r' g)(ha:CE X a ma)(hb:CE X b mb)(hc:CE X c mc)
  (hm:lastMarks [op,op'] [b,c]=false:=by with_unfolding_all rfl):CE X (.Compare a [op,op'] [b,c] pos) (c3 f g ma mb mc):=pe_imp (pe_chain ho ho' ha hb hc hm) (c3_read hf hg)
theorem ct_chain{op op':CmpOp}{r r':R2}{f g:R→R→M R}(ho:OpR X (compareOp op) r)(hf:Bin X.K X.mg r f)(ho':OpR X (compareOp op') r')(hg:Bin X.K X.mg r' g)(ha:CE X a ma)(hb:CE X b mb)(hc:CE X c mc)
  (hm:lastMarks [op,op'] [b,c]=false:=by with_unfolding_all rfl):CT X (.Compare a [op,op'] [b,c] pos) (cT (c3 f g ma mb mc)):=
 pt_imp (pt_chain ho ho' ha hb hc hm) fun σV H Q h=>tTest_imp (c3_read hf hg) σV H Q (test_read σV H Q h)
noncomputable def cAnd(a b:ME):ME:=fun σ=>do
 let x ←a σ
 let t ←x.tru
 if t=true then b σ else pure (.v (.bl false))
noncomputable def cNot(a:ME):ME:=fun σ=>do
 let x ←a σ
 let t ←x.tru
 pure (.v (.bl (!t)))
noncomputable def tAndM(a b:En→M Bool):En→M Bool:=fun σ=>do
 let t ←a σ
 if t=true then b σ else pure false
noncomputable def tOrM(a b:En→M Bool):En→M Bool:=fun σ=>do
 let t ←a σ
 if t=true then pure true else b σ
noncomputable def tNotM(a:En→M Bool):En→M Bool:=fun σ=>do
 let t ←a σ
 pure (!t)
variable{rest:List Expr}
theorem ce_one{op}(h:CE X a ma):CE X (.BoolOp op [a] pos) ma:=pe_one h
theorem ce_and(ha:CE X a ma)(hb:CE X (.BoolOp .And (b::rest) pos) mb):CE X (.BoolOp .And (a::b::rest) pos) (cAnd ma mb):=pe_imp (pe_and ha hb)<|by
 rintro σV H Q ⟨O,σ,S,r,S',st,h,q⟩
 obtain⟨x,S1,h1,h⟩:=M.inv h
 obtain⟨t,S2,h2,h⟩:=M.inv h
 obtain⟨rfl,rfl⟩:=tru_inv h2
 refine⟨O,σ,S,_,_,st,h1,fun O1 vx H1 g1 st1 rx nx=>⟨t,rx,?_⟩⟩
 cases t with
 |false=>
  rw[if_neg Bool.false_ne_true]at h
  cases h
  exact iteF (q O1 _ H1 g1 st1 rfl trivial)
 |true=>
  rw[if_pos rfl]at h
  exact iteT ⟨O1,σ,_,r,S',st1,h,fun O' v H' g st' rr nn=>q O' v H' (g1.trans g) st' rr (nn.back g1.same)⟩
theorem ce_not(ha:CE X a ma):CE X (.UnaryOp .Not a pos) (cNot ma):=pe_imp (pe_not ha)<|by
 rintro σV H Q ⟨O,σ,S,r,S',st,h,q⟩
 obtain⟨x,S1,h1,h⟩:=M.inv h
 obtain⟨t,S2,h2,h⟩:=M.inv h
 obtain⟨rfl,rfl⟩:=tru_inv h2
 cases h
 exact⟨O,σ,S,_,_,st,h1,fun O1 vx H1 g1 st1 rx nx=>⟨t,rx,q O1 _ H1 g1 st1 rfl trivial⟩⟩
theorem ct_val(ha:CE X a ma)(he:∀whole,isTrue a X.env whole=(do let v ←whole;standAt a.pos;holding [v] (truthy v)):=by intro _;rfl):CT X a (cT ma):=pt_imp (pt_val ha he) fun σV H Q h=>test_read σV H Q h
theorem cw_and1(ha:CT X a ta):CW X (.BoolOp .And [a] pos) ta:=pw_and1 ha
theorem cw_or1(ha:CT X a ta):CW X (.BoolOp .Or [a] pos) ta:=pw_or1 ha
theorem cw_and(ha:CT X a ta)(hb:CW X (.BoolOp .And (b::rest) pos) tb):CW X (.BoolOp .And (a::b::rest) pos) (tAndM ta tb):=pw_imp (pw_and ha hb)<|by
 rintro σV H Q ⟨O,σ,S,r,S',st,h,q⟩
 obtain⟨t,S1,h1,h⟩:=M.inv h
 refine⟨O,σ,S,t,S1,st,h1,fun O1 H1 g1 st1=>?_⟩
 cases t with
 |false=>
  rw[if_neg Bool.false_ne_true]at h
  cases h
  exact iteF (q O1 H1 g1 st1)
 |true=>
  rw[if_pos rfl]at h
  exact iteT ⟨O1,σ,S1,r,S',st1,h,fun O' H' g st'=>q O' H' (g1.trans g) st'⟩
theorem cw_or(ha:CT X a ta)(hb:CW X (.BoolOp .Or (b::rest) pos) tb):CW X (.BoolOp .Or (a::b::rest) pos) (tOrM ta tb):=pw_imp (pw_or ha hb)<|by
 rintro σV H Q ⟨O,σ,S,r,S',st,h,q⟩
 obtain⟨t,S1,h1,h⟩:=M.inv h
 refine⟨O,σ,S,t,S1,st,h1,fun O1 H1 g1 st1=>?_⟩
 cases t with
 |true=>
  rw[if_pos rfl]at h
  cases h
  exact iteT (q O1 H1 g1 st1)
 |false=>
  rw[if_neg Bool.false_ne_true]at h
  exact iteF ⟨O1,σ,S1,r,S',st1,h,fun O' H' g st'=>q O' H' (g1.trans g) st'⟩
theorem CW.ct(h:CW X a ta):CT X a ta:=h.pt
theorem ct_not(ha:CT X a ta):CT X (.UnaryOp .Not a pos) (tNotM ta):=pt_imp (pt_not ha)<|by
 rintro σV H Q ⟨O,σ,S,r,S',st,h,q⟩
 obtain⟨t,S1,h1,h⟩:=M.inv h
 cases h
 exact⟨O,σ,S,t,_,st,h1,fun O1 H1 g1 st1=>q O1 H1 g1 st1⟩
end
noncomputable def oI0(g:Int→Int→Int):R→R→M R
 |.v (.int i),.v (.int j)=>pure (.v (.int (g i j)))
 |_,_=>bad
noncomputable def oI(C:Int→Int→Prop)[∀i j,Decidable (C i j)](g:Int→Int→Int):R→R→M R
 |.v (.int i),.v (.int j)=>if C i j then pure (.v (.int (g i j)))else bad
 |_,_=>bad
noncomputable def oB(g:Int→Int→Bool):R→R→M R
 |.v (.int i),.v (.int j)=>pure (.v (.bl (g i j)))
 |_,_=>bad
section
variable{K:FrgT}{mg:BinT}
theorem bin_I0{g:Int→Int→Int}:Bin K mg (rI0 fun i j=>.int (g i j)) (oI0 g):=fun O σ S σV H x y rx ry r' S' Q st hx hy h q=>by
 unfold oI0 at h
 split at h
 ·rename_i i j
  cases h
  exact⟨i,j,hx,hy,q O _ H (Go.refl _ _) st rfl trivial⟩
 ·cases h
theorem bin_I{C:Int→Int→Prop}{C':Int→Int→Prop}[∀i j,Decidable (C' i j)]{g:Int→Int→Int}(hC:∀i j,C' i j→C i j):Bin K mg (rI C fun i j=>.int (g i j)) (oI C' g):=fun O σ S σV H x y rx ry r' S' Q st hx hy h q=>by
 unfold oI at h
 split at h
 ·rename_i i j
  by_cases c:C' i j
  ·rw[if_pos c]at h
   cases h
   exact⟨i,j,hx,hy,hC i j c,q O _ H (Go.refl _ _) st rfl trivial⟩
  ·rw[if_neg c]at h;cases h
 ·cases h
theorem bin_B{g:Int→Int→Bool}:Bin K mg (rI0 fun i j=>.bl (g i j)) (oB g):=fun O σ S σV H x y rx ry r' S' Q st hx hy h q=>by
 unfold oB at h
 split at h
 ·rename_i i j
  cases h
  exact⟨i,j,hx,hy,q O _ H (Go.refl _ _) st rfl trivial⟩
 ·cases h
end
noncomputable abbrev oAdd:=oI0 (· + ·)
noncomputable abbrev oSub:=oI0 (· - ·)
noncomputable abbrev oMod:=oI (fun _ j=>0<j) (· % ·)
noncomputable abbrev oPow:=oI (fun i j=>0≤j∧j≤1000000∧i.natAbs<2 ^ 64) (fun i j=>i ^ j.toNat)
noncomputable abbrev oShl:=oI (fun i j=>0≤j∧j≤1000000∧i.natAbs<2 ^ 64) (fun i j=>i*2 ^ j.toNat)
noncomputable abbrev oShr:=oI (fun _ j=>0≤j) (fun i j=>i / 2 ^ j.toNat)
noncomputable abbrev oBand:=oI0 Builtin.bitAnd
noncomputable abbrev oBor:=oI0 Builtin.bitOr
noncomputable abbrev oLt:=oB fun i j=>decide (i<j)
noncomputable abbrev oLe:=oB fun i j=>decide (i≤j)
noncomputable abbrev oGe:=oB fun i j=>decide (j≤i)
section
variable{X:Cx}
theorem bAdd:Bin X.K X.mg (rI0 fun i j=>.int (i+j)) oAdd:=bin_I0
theorem bSub:Bin X.K X.mg (rI0 fun i j=>.int (i-j)) oSub:=bin_I0
theorem bMod:Bin X.K X.mg (rI (fun _ j=>0<j) fun i j=>.int (i % j)) oMod:=bin_I fun _ _ h=>h
theorem bPow:Bin X.K X.mg (rI CPow fun i j=>.int (i ^ j.toNat)) oPow:=bin_I fun _ _ h=>h
theorem bShl:Bin X.K X.mg (rI CPow fun i j=>.int (i*2 ^ j.toNat)) oShl:=bin_I fun _ _ h=>h
theorem bShr:Bin X.K X.mg (rI (fun _ j=>0≤j) fun i j=>.int (i / 2 ^ j.toNat)) oShr:=bin_I fun _ _ h=>h
theorem bBand:Bin X.K X.mg (rI0 fun i j=>.int (Builtin.bitAnd i j)) oBand:=bin_I0
theorem bBor:Bin X.K X.mg (rI0 fun i j=>.int (Builtin.bitOr i j)) oBor:=bin_I0
theorem bLt:Bin X.K X.mg (rI0 fun i j=>.bl (decide (i<j))) oLt:=bin_B
theorem bLe:Bin X.K X.mg (rI0 fun i j=>.bl (decide (i≤j))) oLe:=bin_B
theorem bGe:Bin X.K X.mg (rI0 fun i j=>.bl (decide (j≤i))) oGe:=bin_B
end
noncomputable def c1(f:R→M R)(a:ME):ME:=fun σ=>do
 let x ←a σ
 f x
noncomputable def oNeg:R→M R
 |.v (.int i)=>pure (.v (.int (-i)))
 |_=>bad
theorem ce_neg{X:Cx}{a:Expr}{ma:ME}{pos:Pos}(ha:CE X a ma):CE X (.UnaryOp .USub a pos) (c1 oNeg ma):=pe_imp (pe_un un_neg ha)<|by
 rintro σV H Q ⟨O,σ,S,r,S',st,h,q⟩
 obtain⟨x,S1,h1,h⟩:=M.inv h
 unfold oNeg at h
 split at h
 ·rename_i i
  cases h
  exact⟨O,σ,S,_,_,st,h1,fun O1 vx H1 g1 st1 rx nx=>⟨i,rx,q O1 _ H1 g1 st1 rfl trivial⟩⟩
 ·cases h
noncomputable def R.lis:R→Option (List D)
 |.v (.lst xs)=>some xs
 |.fr xs=>some xs
 |.vw xs=>some xs
 |.mv xs=>some xs
 |_=>none
noncomputable def R.tpl:R→Option (List D)
 |.v (.tup xs)=>some xs
 |_=>none
noncomputable def R.seq(r:R):Option (List D):=r.lis<|> r.tpl
theorem R.lis_rep{K:FrgT}{mg:BinT}{O:Ow}{H:Hp}{r:R}{v:V}{xs:List D}(h:RepR K mg O H r v)(e:r.lis=some xs):∃a ys,v=.ref a∧SqL K H a ys∧RepAll K mg O H xs ys:=by
 unfold R.lis at e
 split at e
 ·cases e;obtain⟨a,ys,q,l,r⟩:=h;exact⟨a,ys,q,l.sq,r⟩
 ·cases e;obtain⟨a,ys,q,l,_,r⟩:=h;exact⟨a,ys,q,SqL.of l,r⟩
 ·cases e;obtain⟨a,ys,q,l,r⟩:=h;exact⟨a,ys,q,l.sq,r⟩
 ·cases e;obtain⟨a,ys,q,l,r⟩:=h;exact⟨a,ys,q,SqL.of l,r⟩
 ·cases e
theorem R.tpl_rep{K:FrgT}{mg:BinT}{O:Ow}{H:Hp}{r:R}{v:V}{xs:List D}(h:RepR K mg O H r v)(e:r.tpl=some xs):∃a ys,v=.ref a∧SqT K H a ys∧RepAll K mg O H xs ys:=by
 unfold R.tpl at e
 split at e
 ·cases e;exact h
 ·cases e
theorem R.seq_rep{K:FrgT}{mg:BinT}{O:Ow}{H:Hp}{r:R}{v:V}{xs:List D}(h:RepR K mg O H r v)(e:r.seq=some xs):∃a ys,v=.ref a∧(SqL K H a ys∨SqT K H a ys)∧RepAll K mg O H xs ys:=by
 unfold R.seq at e
 cases e1:r.lis with
 |some zs=>rw[e1]at e;cases e;obtain⟨a,ys,q,l,r⟩:=R.lis_rep h e1;exact⟨a,ys,q,.inl l,r⟩
 |none=>rw[e1]at e;obtain⟨a,ys,q,l,r⟩:=R.tpl_rep h e;exact⟨a,ys,q,.inr l,r⟩
theorem RepAll.atI{K:FrgT}{mg:BinT}{O:Ow}{H:Hp}{ds:List D}{xs:List V}{i:Int}{d:D}(h:RepAll K mg O H ds xs)(e:atI ds i=some d):∃x,L2.atI xs i=some x∧Rep K mg O H d x:=by
 unfold L2.atI at e ⊢
 rw[h.len]
 cases q:ixN ds.length i with
 |none=>rw[q]at e;cases e
 |some j=>rw[q]at e;exact h.get e
noncomputable def oIx:R→R→M R
 |.v (.str z),.v (.int i)=>match atI z.cps.toList i with
  |some c=>if z.length≤sizeLine then pure (.v (.str ⟨#[c]⟩))else bad
  |none=>bad
 |x,.v (.int i)=>match x.seq with
  |some xs=>match atI xs i with
   |some d=>pure (.v d)
   |none=>bad
  |none=>bad
 |_,_=>bad
theorem bIx{K:FrgT}{mg:BinT}:Bin K mg (rIx K) oIx:=fun O σ S σV H x y rx ry r' S' Q st hx hy h q=>by
 unfold oIx at h
 split at h
 ·rename_i z i
  split at h
  ·rename_i c e2
   by_cases hz:z.length≤sizeLine
   ·rw[if_pos hz]at h
    cases h
    exact .inr (.inr ⟨z,i,c,hx,hy,hz,e2,q O _ H (Go.refl _ _) st rfl trivial⟩)
   ·rw[if_neg hz]at h;cases h
  ·cases h
 ·rename_i i _
  split at h
  ·rename_i xs e
   split at h
   ·rename_i d e2
    cases h
    obtain⟨a,ys,rfl,l,ra⟩:=R.seq_rep hx e
    obtain⟨z,e3,rz⟩:=RepAll.atI ra e2
    have hQ:=q O z H (Go.refl _ _) st rz trivial
    rcases l with l | l
    ·exact .inl ⟨a,ys,i,z,rfl,hy,l,e3,hQ⟩
    ·exact .inr (.inl ⟨a,ys,i,z,rfl,hy,l,e3,hQ⟩)
   ·cases h
  ·cases h
 ·cases h
noncomputable def cNil:MA:=fun _=>pure []
noncomputable def cCons(m:ME)(ms:MA):MA:=fun σ=>do
 let x ←m σ
 let xs ←ms σ
 pure (x::xs)
section
variable{X:Cx}{e:Expr}{es:List Expr}{m:ME}{ms:MA}{pos:Pos}
theorem ca_nil:CA X [] cNil:=pa_imp pa_nil<|by
 rintro σV H Q ⟨O,σ,S,r,S',st,h,q⟩
 cases h
 exact q O [] H (Go.refl _ _) st rfl trivial
theorem ca_cons(ha:CE X e m)(hr:CA X es ms)(hs:starEach (e::es) X.env=(false,eval e X.env)::starEach es X.env:=by rfl):CA X (e::es) (cCons m ms):=pa_imp (pa_cons ha hr hs)<|by
 rintro σV H Q ⟨O,σ,S,r,S',st,h,q⟩
 obtain⟨x,S1,h1,h⟩:=M.inv h
 obtain⟨xs,S2,h2,h⟩:=M.inv h
 cases h
 refine⟨O,σ,S,x,S1,st,h1,fun O1 vx H1 g1 st1 rx nx=>?_⟩
 refine⟨O1,σ,S1,xs,_,st1,h2,fun O2 vs H2 g2 st2 rs ns=>?_⟩
 exact q O2 (vx::vs) H2 (g1.trans g2) st2 ⟨vx,vs,rfl,rx.go g2,rs⟩ ⟨nx,ns.back g1.same⟩
end
noncomputable def R.dat:R→M D
 |.v d=>pure d
 |.fr xs=>pure (.lst xs)
 |_=>bad
noncomputable def dats:List R→M (List D)
 |[]=>pure []
 |r::rs=>do
  let d ←r.dat
  let ds ←dats rs
  pure (d::ds)
noncomputable def frz(H₀:Hp)(O:Ow):Ow:=fun b=>match H₀ b,O b with
 |none,.tmp=>.free
 |_,o=>o
theorem frz_old{H₀:Hp}{O:Ow}{b:Addr}(h:H₀ b≠none):frz H₀ O b=O b:=by
 unfold frz
 cases e:H₀ b with
 |none=>exact absurd e h
 |some o=>cases O b<;>rfl
theorem frz_tmp{H₀:Hp}{O:Ow}{b:Addr}(h:H₀ b=none)(t:O b=.tmp):frz H₀ O b=.free:=by unfold frz;rw[h,t]
theorem frz_not{H₀:Hp}{O:Ow}{b:Addr}(t:O b≠.tmp):frz H₀ O b=O b:=by
 unfold frz
 cases e:H₀ b<;>cases e2:O b<;>first | rfl | exact absurd e2 t
theorem frz_fre(H₀:Hp)(O:Ow):Fre O (frz H₀ O):=⟨fun a h=>by rw[frz_not (by rw[h];intro z;cases z),h]⟩
theorem SlotR.fre{K:FrgT}{mg:BinT}{O O':Ow}{H:Hp}{w:Own}(g:Fre O O')(ho:∀a,O a=.out→O' a=.out)(hw:∀a,O a=w→O' a=w)(ht:∀a p,O a=w.at p→O' a=w.at p):∀{s:Slot}{u:Option V},SlotR K mg O H w s u→SlotR K mg O' H w s u
 |.emp,_,_=>trivial
 | .val _,_,h=>by obtain⟨v,q,r⟩:=h;exact⟨v,q,r.fre g⟩
 | .ow _ _,_,h=>by obtain⟨a,ys,q,o,l,r⟩:=h;exact⟨a,ys,q,hw a o,l,r.fre g⟩
 |.vw _,_,h=>by
  obtain⟨a,ys,q,l,r⟩:=h
  refine⟨a,ys,q,l.imp (fun z=>⟨z.1,z.2.imp (g.fr a) (ho a)⟩) id,r.fre g⟩
 | .dct _,_,h=>by obtain⟨a,ys,q,o,l,r⟩:=h;exact⟨a,ys,q,hw a o,l,r.fre g⟩
 | .vd _,_,h=>by obtain⟨a,ys,q,l,r⟩:=h;exact⟨a,ys,q,⟨l.1,l.2.imp (g.fr a) (ho a)⟩,r.fre g⟩
 | .pd _,_,h=>by obtain⟨a,ys,q,o,l,r⟩:=h;exact⟨a,ys,q,hw a o,l,r.1,r.2.fre g⟩
 | .vp _,_,h=>by obtain⟨a,ys,q,l,r⟩:=h;exact⟨a,ys,q,⟨l.1,l.2.imp (g.fr a) (ho a)⟩,r.1,r.2.fre g⟩
 |.tr m _,_,h=>by
  obtain⟨v,q,r⟩:=h
  refine⟨v,q,r.all (fun _ _ z=>Rep.fre g z) fun a _ p o l _=>⟨?_,l⟩⟩
  cases m with
  |view=>exact ho a o
  |own=>exact ht a p o
  |par=>exact ht a p o
section
variable{K:FrgT}{mg:BinT}{O:Ow}{σ:En}{S:Store}{σV:St}{H H₀:Hp}
theorem S3.frz(h:S3 K mg O σ S σV H)(H₀:Hp):S3 K mg (frz H₀ O) σ S σV H:=
  ⟨⟨fun a ha=>h.dom.has a fun z=>ha (by rw[frz_not (by rw[z];intro w;cases w),z]),h.dom.tabs⟩,h.len,
   fun i s e=>(h.loc i s e).fre (frz_fre _ _) (fun a z=>by rw[frz_not (by rw[z];intro w;cases w),z]) (fun a z=>by rw[frz_not (by rw[z];intro w;cases w),z]) (fun a p z=>by rw[frz_not (by rw[z];intro w;cases w),z]),h.emp⟩
theorem Go.frz{O₀:Ow}(g:Go O₀ O H₀ H):Go O₀ (frz H₀ O) H₀ H:=⟨g.same,fun b hb=>(frz_old hb).trans (g.own b hb)⟩
theorem dat_rep{r:R}{v:V}{d:D}{S':Store}(hr:RepR K mg O H r v)(hn:NewR H₀ r v)(h:r.dat.run S=.ok d S'):Rep K mg (L3.frz H₀ O) H d v∧S=S':=by
 cases r with
 |v d'=>cases h;exact⟨Rep.fre (frz_fre _ _) hr,rfl⟩
 |fr xs=>
  cases h
  obtain⟨a,ys,rfl,l,t,ra⟩:=hr
  exact⟨⟨a,ys,rfl,⟨l,frz_tmp (hn a rfl) t⟩,RepAll.fre (frz_fre _ _) ra⟩,rfl⟩
 |vw xs=>cases h
 |mv xs=>cases h
 |dv _=>cases h
theorem dats_rep:∀{rs:List R}{vs:List V}{ds:List D}{S S':Store},RepRs K mg O H rs vs→NewRs H₀ rs vs→(dats rs).run S=.ok ds S'→RepAll K mg (L3.frz H₀ O) H ds vs∧S=S'
 | [],vs,ds,S,S',hr,_,h=>by cases h;exact⟨hr,rfl⟩
 |r::rs,vs,ds,S,S',hr,hn,h=>by
  obtain⟨d,S1,h1,h⟩:=M.inv h
  obtain⟨ds',S2,h2,h⟩:=M.inv h
  cases h
  obtain⟨v,vr,rfl,r1,r2⟩:=hr
  obtain⟨q1,rfl⟩:=dat_rep (H₀:=H₀) r1 hn.1 h1
  obtain⟨q2,rfl⟩:=dats_rep r2 hn.2 h2
  exact⟨⟨v,vr,rfl,q1,q2⟩,rfl⟩
end
noncomputable def cTup(ms:MA):ME:=fun σ=>do
 let rs ←ms σ
 let ds ←dats rs
 chk (ds.length≤1000)
 pure (.v (.tup ds))
noncomputable def cLst(ms:MA):ME:=fun σ=>do
 let rs ←ms σ
 let ds ←dats rs
 chk (ds.length≤1000)
 pure (.fr ds)
section
variable{X:Cx}{e:Expr}{es:List Expr}{m:ME}{ms:MA}{pos:Pos}
theorem ce_tup{x1}(h:CA X es ms):CE X (.Tuple es x1 pos) (cTup ms):=pe_imp (pe_tup h)<|by
 rintro σV H Q ⟨O,σ,S,r,S',st,h,q⟩
 obtain⟨rs,S1,h1,h⟩:=M.inv h
 obtain⟨ds,S2,h2,h⟩:=M.inv h
 obtain⟨_,S3',h3,h⟩:=M.inv h
 obtain⟨hl,rfl⟩:=chk_inv h3
 cases h
 refine⟨O,σ,S,rs,S1,st,h1,fun O1 vs H1 g1 st1 rr nn=>?_⟩
 obtain⟨ra,rfl⟩:=dats_rep (H₀:=H) rr nn h2
 refine⟨Nat.le_of_lt (small1000 (by rw[ra.len];exact hl)),fun p hp=>?_⟩
 exact q (frz H O1) _ _ (g1.frz.trans (Go.new0 hp)) ((st1.frz H).new0 hp) ⟨p,vs,rfl,SqT.of upd_same,ra.go (Go.new0 hp)⟩ trivial
theorem ce_lst(h:CA X es ms):CE X (.List es pos) (cLst ms):=pe_imp (pe_lst h)<|by
 rintro σV H Q ⟨O,σ,S,r,S',st,h,q⟩
 obtain⟨rs,S1,h1,h⟩:=M.inv h
 obtain⟨ds,S2,h2,h⟩:=M.inv h
 obtain⟨_,S3',h3,h⟩:=M.inv h
 obtain⟨hl,rfl⟩:=chk_inv h3
 cases h
 refine⟨O,σ,S,rs,S1,st,h1,fun O1 vs H1 g1 st1 rr nn=>?_⟩
 obtain⟨ra,rfl⟩:=dats_rep (H₀:=H) rr nn h2
 refine⟨Nat.le_of_lt (small1000 (by rw[ra.len];exact hl)),fun p hp=>?_⟩
 refine q (updO (frz H O1) p .tmp) _ _ (g1.frz.trans (Go.new hp)) ((st1.frz H).new hp) ⟨p,vs,rfl,upd_same,updO_same,ra.go (Go.new hp)⟩ fun a ea=>?_
 cases ea
 exact g1.same.free hp
end
noncomputable def cB(f:List R→M R)(ms:MA):ME:=fun σ=>do
 let rs ←ms σ
 f rs
def BinC(K:FrgT)(mg:BinT)(r:List V→Hp→VK→Prop)(f:List R→M R):Prop:=
 ∀O σ S σV H xs rs r' S' (Q:VK),S3 K mg O σ S σV H→RepRs K mg O H rs xs→(f rs).run S=.ok r' S'→PoE K mg O σ S' σV H r' Q→r xs H Q
section
variable{X:Cx}{e:Expr}{es:List Expr}{ms:MA}{pos p:Pos}{x:Str}{id T:String}{r:List V→Hp→VK→Prop}{f:List R→M R}
theorem cB_read{K:FrgT}{mg:BinT}(hf:BinC K mg r f):∀σV H Q,teOf K mg (cB f ms) σV H Q→tCB r (taOf K mg ms) σV H Q:=by
 rintro σV H Q ⟨O,σ,S,r',S',st,h,q⟩
 obtain⟨rs,S1,h1,h⟩:=M.inv h
 refine⟨O,σ,S,rs,S1,st,h1,fun O1 vs H1 g1 st1 rr nn=>?_⟩
 exact hf O1 σ S1 σV H1 vs rs r' S' Q st1 rr h fun O' v H' g st' rr' nn'=>q O' v H' (g1.trans g) st' rr' (nn'.back g1.same)
theorem ce_callB(hc:CallR X (.builtin id) r)(hf:BinC X.K X.mg r f)(hg:Gl X x)(hm:X.mg x=none)(hv:bootBuiltins x=some (.builtin id))(ha:CA X (e::es) ms)(hn:x≠"__name__":=by decide)(hdb:(x==("__debug__":Str))=false:=by decide)
  (he:starEach (e::es) X.env=(false,eval e X.env)::starEach es X.env:=by rfl) (hpl:(backTo pos (starEach es X.env)).any (·.1)=false:=by rfl):CE X (.Call (.Name x p) (e::es) [] pos) (cB f ms):=
 pe_imp (pe_callB hc hg hm hv ha hn hdb he hpl) (cB_read hf)
theorem ce_callTy(hc:CallR X (.type T) r)(hf:BinC X.K X.mg r f)(hg:Gl X x)(hm:X.mg x=none)(hv:bootBuiltins x=some (.type T))(ha:CA X (e::es) ms)(hn:x≠"__name__":=by decide)(hdb:(x==("__debug__":Str))=false:=by decide)
  (he:starEach (e::es) X.env=(false,eval e X.env)::starEach es X.env:=by rfl) (hpl:(backTo pos (starEach es X.env)).any (·.1)=false:=by rfl):CE X (.Call (.Name x p) (e::es) [] pos) (cB f ms):=
 pe_imp (pe_callTy hc hg hm hv ha hn hdb he hpl) (cB_read hf)
end
noncomputable def fLen:List R→M R
 |[x]=>match x.seq with
  |some xs=>pure (.v (.int (xs.length:Nat)))
  |none=>bad
 |_=>bad
noncomputable def fLenS:List R→M R
 |[.v (.str z)]=>if z.length≤sizeLine then pure (.v (.int (z.length:Nat)))else bad
 |_=>bad
noncomputable def R.kind:R→Option String
 |.v .non=>some "NoneType"
 |.v (.bl _)=>some "bool"
 |.v (.int _)=>some "int"
 |.v (.str _)=>some "str"
 |.v (.tup _)=>some "tuple"
 |.v (.lst _)=>some "list"
 |.fr _=>some "list"
 |.vw _=>some "list"
 |.mv _=>some "list"
 |_=>none
noncomputable def fIsi:List R→M R
 |[x,.v (.ty n)]=>match x.kind with
  |some t=>if n∈["int","bool","tuple","list","str"]then pure (.v (.bl (isiB t n)))else bad
  |none=>bad
 |_=>bad
noncomputable def f2I(g:Int→Int→Int):List R→M R
 |[.v (.int i),.v (.int j)]=>pure (.v (.int (g i j)))
 |_=>bad
noncomputable abbrev fMax2:=f2I fun i j=>if j > i then j else i
noncomputable def fAbs:List R→M R
 |[.v (.int i)]=>pure (.v (.int (if i<0 then -i else i)))
 |_=>bad
noncomputable def bls:List D→Option (List Bool)
 |[]=>some []
 |.bl b::r=>(bls r).map (b::·)
 |_=>none
noncomputable def fAny:List R→M R
 |[x]=>match x.lis.bind bls with
  |some bs=>pure (.v (.bl (bs.any id)))
  |none=>bad
 |_=>bad
noncomputable def fAll:List R→M R
 |[x]=>match x.lis.bind bls with
  |some bs=>pure (.v (.bl (bs.all id)))
  |none=>bad
 |_=>bad
noncomputable def fTuple:List R→M R
 |[x]=>match x.seq with
  |some xs=>pure (.v (.tup xs))
  |none=>bad
 |_=>bad
section
variable{K:FrgT}{mg:BinT}
theorem reps1{O:Ow}{H:Hp}{r:R}{vs:List V}(h:RepRs K mg O H [r] vs):∃v,vs=[v]∧RepR K mg O H r v:=by
 obtain⟨v,r',rfl,a,b⟩:=h;cases b;exact⟨v,rfl,a⟩
theorem reps2{O:Ow}{H:Hp}{r s:R}{vs:List V}(h:RepRs K mg O H [r,s] vs):∃v u,vs=[v,u]∧RepR K mg O H r v∧RepR K mg O H s u:=by
 obtain⟨v,r',rfl,a,b⟩:=h
 obtain⟨u,r'',rfl,c,d⟩:=b
 cases d;exact⟨v,u,rfl,a,c⟩
theorem kLen:BinC K mg (fun xs H Q=>∃p ys,xs=[.ref p]∧(SqL K H p ys∨SqT K H p ys)∧Q (.int ys.length) H) fLen:=fun O σ S σV H vs rs r' S' Q st hr h q=>by
 unfold fLen at h
 split at h
 ·rename_i x
  obtain⟨v,rfl,hx⟩:=reps1 hr
  split at h
  ·rename_i xs e
   cases h
   obtain⟨a,ys,rfl,l,ra⟩:=R.seq_rep hx e
   exact⟨a,ys,rfl,l,by rw[ra.len];exact q O _ H (Go.refl _ _) st rfl trivial⟩
  ·cases h
 ·cases h
theorem kLenS:BinC K mg (fun xs H Q=>∃z,xs=[.str z]∧z.length≤sizeLine∧Q (.int z.length) H) fLenS:=fun O σ S σV H vs rs r' S' Q st hr h q=>by
 unfold fLenS at h
 split at h
 ·rename_i z
  obtain⟨v,rfl,hx⟩:=reps1 hr
  cases(show v=.str z from hx)
  by_cases hz:z.length≤sizeLine
  ·rw[if_pos hz]at h
   cases h
   exact⟨z,rfl,hz,q O _ H (Go.refl _ _) st rfl trivial⟩
  ·rw[if_neg hz]at h;cases h
 ·cases h
theorem R.kind_rep{O:Ow}{H:Hp}{r:R}{v:V}{t:String}(h:RepR K mg O H r v)(e:r.kind=some t):TyW K H v t:=by
 unfold R.kind at e
 split at e
 ·cases e;cases h;exact .non
 ·cases e;cases h;exact .bl _
 ·cases e;cases h;exact .int _
 ·cases e;cases h;exact .str _
 ·cases e;obtain⟨a,ys,rfl,l,_⟩:=h;exact .tup l
 ·cases e;obtain⟨a,ys,rfl,l,_⟩:=h;exact .lst l.sq
 ·cases e;obtain⟨a,ys,rfl,l,_⟩:=h;exact .lst (SqL.of l)
 ·cases e;obtain⟨a,ys,rfl,l,_⟩:=h;exact .lst l.sq
 ·cases e;obtain⟨a,ys,rfl,l,_⟩:=h;exact .lst (SqL.of l)
 ·cases e
theorem kIsi:BinC K mg (rIsi K) fIsi:=fun O σ S σV H vs rs r' S' Q st hr h q=>by
 unfold fIsi at h
 split at h
 ·rename_i x n
  obtain⟨v,u,rfl,hx,hy⟩:=reps2 hr
  cases(show u=.ty n from hy)
  split at h
  ·rename_i t e
   by_cases hn:n∈["int","bool","tuple","list","str"]
   ·rw[if_pos hn]at h
    cases h
    exact⟨v,n,t,rfl,R.kind_rep hx e,hn,q O _ H (Go.refl _ _) st rfl trivial⟩
   ·rw[if_neg hn]at h;cases h
  ·cases h
 ·cases h
theorem k2I{g:Int→Int→Int}:BinC K mg (fun xs H Q=>∃i j,xs=[.int i,.int j]∧Q (.int (g i j)) H) (f2I g):=fun O σ S σV H vs rs r' S' Q st hr h q=>by
 unfold f2I at h
 split at h
 ·rename_i i j
  obtain⟨v,u,rfl,hx,hy⟩:=reps2 hr
  cases(show v=.int i from hx)
  cases(show u=.int j from hy)
  cases h
  exact⟨i,j,rfl,q O _ H (Go.refl _ _) st rfl trivial⟩
 ·cases h
theorem kAbs:BinC K mg (fun xs H Q=>∃i,xs=[.int i]∧Q (.int (if i<0 then -i else i)) H) fAbs:=fun O σ S σV H vs rs r' S' Q st hr h q=>by
 unfold fAbs at h
 split at h
 ·rename_i i
  obtain⟨v,rfl,hx⟩:=reps1 hr
  cases(show v=.int i from hx)
  cases h
  exact⟨i,rfl,q O _ H (Go.refl _ _) st rfl trivial⟩
 ·cases h
theorem bls_rep{O:Ow}{H:Hp}:∀{ds:List D}{ys:List V}{bs:List Bool},RepAll K mg O H ds ys→bls ds=some bs→ys=bs.map V.bl
 | [],ys,bs,h,e=>by cases e;exact h
 |d::ds,ys,bs,h,e=>by
  cases d with
  |bl b=>
   have e:(bls ds).map (b::·)=some bs:=e
   obtain⟨cs,e1,rfl⟩:=Option.map_eq_some_iff.mp e
   obtain⟨y,r,rfl,h1,h2⟩:=h
   rw[bls_rep h2 e1,show y=.bl b from h1];rfl
  | _=>exact absurd (show(none:Option (List Bool))=some bs from e) (by intro z;cases z)
theorem kAny:BinC K mg (fun xs H Q=>∃(l:Addr)(bs:List Bool),xs=[.ref l]∧SqL K H l (bs.map V.bl)∧Q (.bl (bs.any id)) H) fAny:=fun O σ S σV H vs rs r' S' Q st hr h q=>by
 unfold fAny at h
 split at h
 ·rename_i x
  obtain⟨v,rfl,hx⟩:=reps1 hr
  split at h
  ·rename_i xs e
   cases h
   obtain⟨zs,e1,e2⟩:=Option.bind_eq_some_iff.mp e
   obtain⟨a,ys,rfl,l,ra⟩:=R.lis_rep hx e1
   rw[bls_rep ra e2]at l
   exact⟨a,xs,rfl,l,q O _ H (Go.refl _ _) st rfl trivial⟩
  ·cases h
 ·cases h
theorem kAll:BinC K mg (fun xs H Q=>∃(l:Addr)(bs:List Bool),xs=[.ref l]∧SqL K H l (bs.map V.bl)∧Q (.bl (bs.all id)) H) fAll:=fun O σ S σV H vs rs r' S' Q st hr h q=>by
 unfold fAll at h
 split at h
 ·rename_i x
  obtain⟨v,rfl,hx⟩:=reps1 hr
  split at h
  ·rename_i xs e
   cases h
   obtain⟨zs,e1,e2⟩:=Option.bind_eq_some_iff.mp e
   obtain⟨a,ys,rfl,l,ra⟩:=R.lis_rep hx e1
   rw[bls_rep ra e2]at l
   exact⟨a,xs,rfl,l,q O _ H (Go.refl _ _) st rfl trivial⟩
  ·cases h
 ·cases h
theorem kTuple:BinC K mg (fun xs H Q=>∃p ys,xs=[.ref p]∧((SqL K H p ys∧∀l,H l=none→Q (.ref l) (upd H l (.tup ys)))∨(SqT K H p ys∧Q (.ref p) H))) fTuple:=fun O σ S σV H vs rs r' S' Q st hr h q=>by
 unfold fTuple at h
 split at h
 ·rename_i x
  obtain⟨v,rfl,hx⟩:=reps1 hr
  split at h
  ·rename_i xs e
   cases h
   obtain⟨a,ys,rfl,l,ra⟩:=R.seq_rep hx e
   refine⟨a,ys,rfl,?_⟩
   rcases l with l | l
   ·exact .inl ⟨l,fun p hp=>q O _ _ (Go.new0 hp) (st.new0 hp) ⟨p,ys,rfl,SqT.of upd_same,ra.go (Go.new0 hp)⟩ trivial⟩
   ·exact .inr ⟨l,q O _ _ (Go.refl _ _) st ⟨a,ys,rfl,l,ra⟩ trivial⟩
  ·cases h
 ·cases h
end
noncomputable def cutD{α:Type}(xs:List α)(lo hi:Option Int):List α:=(xs.drop (HT.sIx xs.length 0 lo)).take (HT.sIx xs.length xs.length hi-HT.sIx xs.length 0 lo)
theorem RepAll.cut{K:FrgT}{mg:BinT}{O:Ow}{H:Hp}{ds:List D}{xs:List V}(h:RepAll K mg O H ds xs)(lo hi:Option Int):RepAll K mg O H (cutD ds lo hi) (cutV xs lo hi):=by
 unfold cutD cutV
 rw[h.len]
 exact(h.drop _).take _
noncomputable abbrev MO:=En→M (Option Int)
noncomputable def toOf(K:FrgT)(mg:BinT)(m:MO):TO:=fun σV H Q=>∃O σ S b S',S3 K mg O σ S σV H∧(m σ).run S=.ok b S'∧∀O' H',Go O O' H H'→S3 K mg O' σ S' σV H'→Q b H'
abbrev CO(X:Cx)(e:Option Expr)(m:MO):Prop:=PO X e (toOf X.K X.mg m)
noncomputable def cNoPart:MO:=fun _=>pure none
noncomputable def cPart(m:ME):MO:=fun σ=>do
 let r ←m σ
 match r with
 |.v (.int i)=>pure (some i)
 |_=>bad
noncomputable def oSl(x:R)(lo hi:Option Int):M R:=
 match x with
 |.v (.tup xs)=>if HT.sIx xs.length 0 lo=0∧HT.sIx xs.length xs.length hi=xs.length then bad else pure (.v (.tup (cutD xs lo hi)))
 |_=>match x.lis with
  |some xs=>pure (.fr (cutD xs lo hi))
  |none=>bad
noncomputable def cSl(a:ME)(lo hi:MO):ME:=fun σ=>do
 let x ←a σ
 let l ←lo σ
 let h ←hi σ
 oSl x l h
section
variable{X:Cx}{e:Expr}{m:ME}{lo hi:Option Expr}{ml mh:MO}{pos p2:Pos}
theorem co_none:CO X none cNoPart:=by
 rintro pins s σV H Q I ⟨O,σ,S,r,S',st,h,q⟩
 cases h
 exact po_none pins s σV H Q I (q O H (Go.refl _ _) st)
theorem co_some(he:CE X e m):CO X (some e) (cPart m):=by
 rintro pins s σV H Q I ⟨O,σ,S,r,S',st,h,q⟩
 obtain⟨x,S1,h1,h⟩:=M.inv h
 split at h
 ·rename_i i
  cases h
  exact po_some he pins s σV H Q I ⟨O,σ,S,_,_,st,h1,fun O1 v H1 g1 st1 rr _=>⟨i,rr,q O1 H1 g1 st1⟩⟩
 ·cases h
theorem ce_slice(he:CE X e m)(hl:CO X lo ml)(hu:CO X hi mh):CE X (.Subscript e (.Slice lo hi none p2) pos) (cSl m ml mh):=pe_imp (pe_slice (sl_list.or sl_tup) he hl hu)<|by
 rintro σV H Q ⟨O,σ,S,r,S',st,h,q⟩
 obtain⟨x,S1,h1,ha⟩:=M.inv h
 clear h
 obtain⟨l,S2,h2,hb⟩:=M.inv ha
 clear ha
 obtain⟨u,S3',h3,h⟩:=M.inv hb
 clear hb
 refine⟨O,σ,S,x,S1,st,h1,fun O1 vx H1 g1 st1 rx nx=>?_⟩
 refine⟨O1,σ,S1,l,S2,st1,h2,fun O2 H2 g2 st2=>?_⟩
 refine⟨O2,σ,S2,u,S3',st2,h3,fun O3 H3 g3 st3=>?_⟩
 have g:=(g1.trans g2).trans g3
 have rx3:=rx.go (g2.trans g3)
 unfold oSl at h
 split at h
 ·rename_i xs
  by_cases c:HT.sIx xs.length 0 l=0∧HT.sIx xs.length xs.length u=xs.length
  ·rw[if_pos c]at h;cases h
  ·rw[if_neg c]at h
   cases h
   obtain⟨a,ys,rfl,l1,ra⟩:=rx3
   exact .inr ⟨a,ys,rfl,l1,by rw[ra.len];exact c,fun p hp=>q O3 _ _ (g.trans (Go.new0 hp)) (st3.new0 hp) ⟨p,_,rfl,SqT.of upd_same,(ra.cut l u).go (Go.new0 hp)⟩ trivial⟩
 ·split at h
  ·rename_i xs e1
   cases h
   obtain⟨a,ys,rfl,l1,ra⟩:=R.lis_rep rx3 e1
   refine .inl ⟨a,ys,rfl,l1,fun p hp=>q (updO O3 p .tmp) _ _ (g.trans (Go.new hp)) (st3.new hp) ⟨p,_,rfl,upd_same,updO_same,(ra.cut l u).go (Go.new hp)⟩ fun b eb=>?_⟩
   cases eb
   exact g.same.free hp
  ·cases h
end
noncomputable def R.own:R→Option (List D)
 |.v (.lst xs)=>some xs
 |.fr xs=>some xs
 |.mv xs=>some xs
 |_=>none
noncomputable def oCatL(x y:R):M R:=match x.own,y.own with
 |some xs,some ys=>if xs.length+ys.length≤sizeLine then pure (.fr (xs++ys))else bad
 |_,_=>bad
noncomputable def oCatS:R→R→M R
 |.v (.str x),.v (.str y)=>if x.length+y.length≤sizeLine then pure (.v (.str (x++y)))else bad
 |_,_=>bad
theorem R.own_rep{K:FrgT}{mg:BinT}{O:Ow}{H:Hp}{r:R}{v:V}{xs:List D}(h:RepR K mg O H r v)(e:r.own=some xs):∃a ys,v=.ref a∧H a=some (.lst ys)∧RepAll K mg O H xs ys:=by
 unfold R.own at e
 split at e
 ·cases e;obtain⟨a,ys,q,l,r⟩:=h;exact⟨a,ys,q,l.1,r⟩
 ·cases e;obtain⟨a,ys,q,l,_,r⟩:=h;exact⟨a,ys,q,l,r⟩
 ·cases e;obtain⟨a,ys,q,l,r⟩:=h;exact⟨a,ys,q,l,r⟩
 ·cases e
section
variable{K:FrgT}{mg:BinT}
theorem bCatL:Bin K mg rCat oCatL:=fun O σ S σV H x y rx ry r' S' Q st hx hy h q=>by
 unfold oCatL at h
 cases e1:rx.own with
 |none=>rw[e1]at h;cases h
 |some xs=>
  cases e2:ry.own with
  |none=>rw[e1,e2]at h;cases h
  |some ys=>
   rw[e1,e2]at h
   dsimp only at h
   by_cases hl:xs.length+ys.length≤sizeLine
   ·rw[if_pos hl]at h
    cases h
    obtain⟨a,us,rfl,l1,r1⟩:=R.own_rep hx e1
    obtain⟨b,ws,rfl,l2,r2⟩:=R.own_rep hy e2
    refine⟨a,b,us,ws,rfl,rfl,l1,l2,by rw[r1.len,r2.len];exact hl,fun p hp=>q (updO O p .tmp) _ _ (Go.new hp) (st.new hp) ⟨p,_,rfl,upd_same,updO_same,(r1.append r2).go (Go.new hp)⟩ fun b eb=>?_⟩
    cases eb
    exact hp
   ·rw[if_neg hl]at h;cases h
theorem bCatS:Bin K mg (fun x y H Q=>∃i j,x=.str i∧y=.str j∧i.length+j.length≤sizeLine∧Q (.str (i++j)) H) oCatS:=fun O σ S σV H x y rx ry r' S' Q st hx hy h q=>by
 unfold oCatS at h
 split at h
 ·rename_i i j
  by_cases hl:i.length+j.length≤sizeLine
  ·rw[if_pos hl]at h
   cases h
   exact⟨i,j,hx,hy,hl,q O _ H (Go.refl _ _) st rfl trivial⟩
  ·rw[if_neg hl]at h;cases h
 ·cases h
end
noncomputable def D.py:D→PyData
 |.non=>.none
 |.bl b=>.bool b
 |.int i=>.int i
 |.str x=>.str x
 |.tup xs=>.tuple (pys xs)
 |.lst xs=>.list (pys xs)
 |.dic _ _=>.none
 |.fn _=>.none
 |.ty _=>.none
where pys:List D→List PyData
 |[]=>[]
 |x::xs=>x.py::pys xs
mutual
noncomputable def D.gd:D→Nat→Bool
 |.non,_=>true
 |.bl _,_=>true
 |.int _,_=>true
 |.str x,_=>PyData.strOk x
 |.tup xs,n=>match n with
  |0=>false
  |k+1=>gdAll xs k
 |.lst xs,n=>match n with
  |0=>false
  |k+1=>gdAll xs k
 |.dic _ _,_=>false
 |.fn _,_=>false
 |.ty _,_=>false
noncomputable def gdAll:List D→Nat→Bool
 |[],_=>true
 |x::xs,n=>x.gd n&&gdAll xs n
end
mutual
noncomputable def peq:D→D→Bool
 |.non,b=>match b with | .non=>true | _=>false
 |.bl a,b=>match b with | .bl c=>a==c | .int j=>(if a then 1 else 0)==j | _=>false
 |.int i,b=>match b with | .bl c=>i==(if c then 1 else 0) | .int j=>i==j | _=>false
 |.str x,b=>match b with | .str y=>x==y | _=>false
 |.tup xs,b=>match b with | .tup ys=>peqAll xs ys | _=>false
 |.lst xs,b=>match b with | .lst ys=>peqAll xs ys | _=>false
 |.dic _ _,_=>false
 |.fn _,_=>false
 |.ty _,_=>false
noncomputable def peqAll:List D→List D→Bool
 |[],ys=>match ys with | []=>true | _=>false
 |x::xs,ys=>match ys with | []=>false | y::r=>peq x y&&peqAll xs r
end
mutual
theorem eqv_py:∀(a b:D)(n m:Nat),a.gd n=true→b.gd m=true→PyData.eqv a.py b.py=peq a b
 | .non,b,n,m,ha,hb=>by cases b<;>first | rfl | (simp[D.gd]at hb)
 | .bl _,b,n,m,ha,hb=>by cases b<;>first | rfl | (simp[D.gd]at hb)
 | .int _,b,n,m,ha,hb=>by cases b<;>first | rfl | (simp[D.gd]at hb)
 | .str _,b,n,m,ha,hb=>by cases b<;>first | rfl | (simp[D.gd]at hb)
 |.tup xs,b,n,m,ha,hb=>by
  cases b with
  |tup ys=>
   cases n with
   |zero=>simp[D.gd]at ha
   |succ k=>
    cases m with
    |zero=>simp[D.gd]at hb
    |succ j=>exact eqv_pys xs ys k j ha hb
  |dic _ _=>simp[D.gd]at hb
  |fn _=>simp[D.gd]at hb
  |ty _=>simp[D.gd]at hb
  |_=>rfl
 |.lst xs,b,n,m,ha,hb=>by
  cases b with
  |lst ys=>
   cases n with
   |zero=>simp[D.gd]at ha
   |succ k=>
    cases m with
    |zero=>simp[D.gd]at hb
    |succ j=>exact eqv_pys xs ys k j ha hb
  |dic _ _=>simp[D.gd]at hb
  |fn _=>simp[D.gd]at hb
  |ty _=>simp[D.gd]at hb
  |_=>rfl
 | .dic _ _,b,n,m,ha,hb=>by simp[D.gd]at ha
 | .fn _,b,n,m,ha,hb=>by simp[D.gd]at ha
 | .ty _,b,n,m,ha,hb=>by simp[D.gd]at ha
theorem eqv_pys:∀(xs ys:List D)(n m:Nat),gdAll xs n=true→gdAll ys m=true→PyData.eqvAll (D.py.pys xs) (D.py.pys ys)=peqAll xs ys
 | [],ys,n,m,ha,hb=>by cases ys<;>rfl
 |x::xs,ys,n,m,ha,hb=>by
  cases ys with
  |nil=>rfl
  |cons y r=>
   rw[gdAll,Bool.and_eq_true]at ha hb
   show(PyData.eqv x.py y.py&&PyData.eqvAll (D.py.pys xs) (D.py.pys r))=(peq x y&&peqAll xs r)
   rw[eqv_py x y n m ha.1 hb.1,eqv_pys xs r n m ha.2 hb.2]
end
mutual
theorem gd_lay:∀(a:D)(n:Nat),a.gd n=true→a.py.canLay0=true∧a.py.depth≤n
 |.non,n,h=>⟨rfl,Nat.zero_le _⟩
 |.bl _,n,h=>⟨rfl,Nat.zero_le _⟩
 |.int _,n,h=>⟨rfl,Nat.zero_le _⟩
 |.str _,n,h=>⟨h,Nat.zero_le _⟩
 |.tup xs,n,h=>by
  cases n with
  |zero=>simp[D.gd]at h
  |succ k=>obtain⟨q1,q2⟩:=gd_lays xs k h;exact⟨q1,Nat.succ_le_succ q2⟩
 |.lst xs,n,h=>by
  cases n with
  |zero=>simp[D.gd]at h
  |succ k=>obtain⟨q1,q2⟩:=gd_lays xs k h;exact⟨q1,Nat.succ_le_succ q2⟩
 | .dic _ _,n,h=>by simp[D.gd]at h
 | .fn _,n,h=>by simp[D.gd]at h
 | .ty _,n,h=>by simp[D.gd]at h
theorem gd_lays:∀(xs:List D)(n:Nat),gdAll xs n=true→PyData.canLayAll0 (D.py.pys xs)=true∧PyData.depthAll (D.py.pys xs)≤n
 |[],n,h=>⟨rfl,Nat.zero_le _⟩
 |x::xs,n,h=>by
  rw[gdAll,Bool.and_eq_true]at h
  obtain⟨a1,a2⟩:=gd_lay x n h.1
  obtain⟨b1,b2⟩:=gd_lays xs n h.2
  exact⟨by show(x.py.canLay0&&PyData.canLayAll0 (D.py.pys xs))=true;rw[a1,b1];rfl,by show max x.py.depth (PyData.depthAll (D.py.pys xs))≤n;omega⟩
end
theorem gd_shaped{a:D}(h:a.gd 64=true):SeqAt.shaped a.py=true:=by
 obtain⟨h1,h2⟩:=gd_lay a 64 h
 show(a.py.canLay0&&decide (a.py.depth≤64))=true
 rw[h1,decide_eq_true h2];rfl
mutual
theorem Rep.py{K:FrgT}{mg:BinT}{O:Ow}{H:Hp}:∀{d:D}{v:V}{n:Nat},d.gd n=true→Rep K mg O H d v→L2.Rep K H d.py v
 |.non,_,_,_,h=>h
 |.bl _,_,_,_,h=>h
 |.int _,_,_,_,h=>h
 |.str _,_,_,_,h=>h
 |.tup _,_,n,g,h=>by
  cases n with
  |zero=>simp[D.gd]at g
  |succ k=>obtain⟨a,ys,q,l,r⟩:=h;exact⟨a,ys,q,l,RepAll.py (n:=k) g r⟩
 |.lst _,_,n,g,h=>by
  cases n with
  |zero=>simp[D.gd]at g
  |succ k=>obtain⟨a,ys,q,l,r⟩:=h;exact⟨a,ys,q,l.sq,RepAll.py (n:=k) g r⟩
 | .dic _ _,_,_,g,h=>by simp[D.gd]at g
 | .fn _,_,_,g,h=>by simp[D.gd]at g
 | .ty _,_,_,g,h=>by simp[D.gd]at g
theorem RepAll.py{K:FrgT}{mg:BinT}{O:Ow}{H:Hp}:∀{ds:List D}{ys:List V}{n:Nat},gdAll ds n=true→RepAll K mg O H ds ys→L2.RepAll K H (D.py.pys ds) ys
 |[],_,_,_,h=>h
 |_::_,_,n,g,h=>by
  rw[gdAll,Bool.and_eq_true]at g
  obtain⟨x,r,q,a,b⟩:=h
  exact⟨x,r,q,Rep.py g.1 a,RepAll.py g.2 b⟩
end
noncomputable def R.arg:R→D
 |.v d=>d
 |.fr xs=>.lst xs
 |.vw xs=>.lst xs
 |.mv xs=>.lst xs
 |.dv kvs=>.dic (kvs.map (·.1)) (kvs.map (·.2))
theorem R.arg_py{K:FrgT}{mg:BinT}{O:Ow}{H:Hp}{r:R}{v:V}{n:Nat}(g:r.arg.gd n=true)(h:RepR K mg O H r v):L2.Rep K H r.arg.py v:=by
 have lis:∀xs,r.lis=some xs→(D.lst xs).gd n=true→L2.Rep K H (D.lst xs).py v:=fun xs e g=>by
  obtain⟨a,ys,q,l,ra⟩:=R.lis_rep h e
  cases n with
  |zero=>simp[D.gd]at g
  |succ k=>exact⟨a,ys,q,l,RepAll.py (n:=k) g ra⟩
 cases r with
 |v d=>exact Rep.py g h
 |fr xs=>exact lis xs rfl g
 |vw xs=>exact lis xs rfl g
 |mv xs=>exact lis xs rfl g
 |dv kvs=>simp[R.arg,D.gd]at g
noncomputable def oEq(x y:R):M R:=if x.arg.gd 64=true∧y.arg.gd 64=true then pure (.v (.bl (peq x.arg y.arg)))else bad
noncomputable def oNe(x y:R):M R:=if x.arg.gd 64=true∧y.arg.gd 64=true then pure (.v (.bl (!peq x.arg y.arg)))else bad
section
variable{K:FrgT}{mg:BinT}
theorem bEq:Bin K mg (rEqD K false) oEq:=fun O σ S σV H x y rx ry r' S' Q st hx hy h q=>by
 unfold oEq at h
 by_cases c:rx.arg.gd 64=true∧ry.arg.gd 64=true
 ·rw[if_pos c]at h
  cases h
  refine⟨_,_,R.arg_py c.1 hx,R.arg_py c.2 hy,gd_shaped c.1,gd_shaped c.2,?_⟩
  rw[if_neg Bool.false_ne_true,eqv_py _ _ _ _ c.1 c.2]
  exact q O _ H (Go.refl _ _) st rfl trivial
 ·rw[if_neg c]at h;cases h
theorem bNe:Bin K mg (rEqD K true) oNe:=fun O σ S σV H x y rx ry r' S' Q st hx hy h q=>by
 unfold oNe at h
 by_cases c:rx.arg.gd 64=true∧ry.arg.gd 64=true
 ·rw[if_pos c]at h
  cases h
  refine⟨_,_,R.arg_py c.1 hx,R.arg_py c.2 hy,gd_shaped c.1,gd_shaped c.2,?_⟩
  rw[if_pos rfl,eqv_py _ _ _ _ c.1 c.2]
  exact q O _ H (Go.refl _ _) st rfl trivial
 ·rw[if_neg c]at h;cases h
end
noncomputable def R.isN:R→Bool
 |.v .non=>true
 |_=>false
noncomputable def oIsN(x:R):R→M R
 |.v .non=>pure (.v (.bl x.isN))
 |_=>bad
noncomputable def oNotN(x:R):R→M R
 |.v .non=>pure (.v (.bl (!x.isN)))
 |_=>bad
section
variable{K:FrgT}{mg:BinT}
theorem isN_rep{O:Ow}{H:Hp}{r:R}{v:V}(h:RepR K mg O H r v):decide (v=.non)=r.isN:=by
 have no:∀{a:Addr},v=.ref a→decide (v=.non)=false:=fun{a} e=>by rw[e];exact decide_eq_false (by intro z;cases z)
 cases r with
 |v d=>
  cases d with
  |non=>exact decide_eq_true h
  |bl _=>rw[show v=_ from h];rfl
  |int _=>rw[show v=_ from h];rfl
  |str _=>rw[show v=_ from h];rfl
  |ty _=>rw[show v=_ from h];rfl
  |tup _=>obtain⟨a,_,e,_⟩:=h;exact no e
  |lst _=>obtain⟨a,_,e,_⟩:=h;exact no e
  |dic _ _=>exact False.elim h
  |fn _=>obtain⟨a,e,_⟩:=h;exact no e
 |fr _=>obtain⟨a,_,e,_⟩:=h;exact no e
 |vw _=>obtain⟨a,_,e,_⟩:=h;exact no e
 |mv _=>obtain⟨a,_,e,_⟩:=h;exact no e
 |dv _=>obtain⟨a,_,e,_⟩:=h;exact no e
theorem bIsN:Bin K mg (fun x y H Q=>y=.non∧Q (.bl (decide (x=.non))) H) oIsN:=fun O σ S σV H x y rx ry r' S' Q st hx hy h q=>by
 unfold oIsN at h
 split at h
 ·cases h;exact⟨hy,by rw[isN_rep hx];exact q O _ H (Go.refl _ _) st rfl trivial⟩
 ·cases h
theorem bNotN:Bin K mg (fun x y H Q=>y=.non∧Q (.bl (!decide (x=.non))) H) oNotN:=fun O σ S σV H x y rx ry r' S' Q st hx hy h q=>by
 unfold oNotN at h
 split at h
 ·cases h;exact⟨hy,by rw[isN_rep hx];exact q O _ H (Go.refl _ _) st rfl trivial⟩
 ·cases h
end
noncomputable def D.flat:D→Bool
 |.non=>true
 |.bl _=>true
 |.int _=>true
 |.str _=>true
 |_=>false
noncomputable def inD(x:D)(xs:List D):Bool:=xs.any fun y=>peq y x
noncomputable def oIn(neg:Bool)(x y:R):M R:=match x,y.seq with
 |.v d,some xs=>if d.flat=true∧xs.all D.flat=true then pure (.v (.bl (if neg then !inD d xs else inD d xs)))else bad
 |_,_=>bad
section
variable{K:FrgT}{mg:BinT}
theorem flat_rep{O:Ow}{H:Hp}{d:D}{v:V}(h:Rep K mg O H d v)(f:d.flat=true):flatV v=true:=by
 cases d with
 |non=>rw[show v=_ from h];rfl
 |bl _=>rw[show v=_ from h];rfl
 |int _=>rw[show v=_ from h];rfl
 |str _=>rw[show v=_ from h];rfl
 |_=>exact absurd (show false=true from f) Bool.false_ne_true
theorem eqV_rep{O:Ow}{H:Hp}{d e:D}{v u:V}(h:Rep K mg O H d v)(h':Rep K mg O H e u)(f:d.flat=true)(f':e.flat=true):eqV v u=peq d e:=by
 cases d with
 |non=>
  rw[show v=_ from h]
  cases e with
  |non=>rw[show u=_ from h'];rfl
  |bl _=>rw[show u=_ from h'];rfl
  |int _=>rw[show u=_ from h'];rfl
  |str _=>rw[show u=_ from h'];rfl
  |_=>exact absurd (show false=true from f') Bool.false_ne_true
 |bl _=>
  rw[show v=_ from h]
  cases e with
  |non=>rw[show u=_ from h'];rfl
  |bl _=>rw[show u=_ from h'];rfl
  |int _=>rw[show u=_ from h'];rfl
  |str _=>rw[show u=_ from h'];rfl
  |_=>exact absurd (show false=true from f') Bool.false_ne_true
 |int _=>
  rw[show v=_ from h]
  cases e with
  |non=>rw[show u=_ from h'];rfl
  |bl _=>rw[show u=_ from h'];rfl
  |int _=>rw[show u=_ from h'];rfl
  |str _=>rw[show u=_ from h'];rfl
  |_=>exact absurd (show false=true from f') Bool.false_ne_true
 |str _=>
  rw[show v=_ from h]
  cases e with
  |non=>rw[show u=_ from h'];rfl
  |bl _=>rw[show u=_ from h'];rfl
  |int _=>rw[show u=_ from h'];rfl
  |str _=>rw[show u=_ from h'];rfl
  |_=>exact absurd (show false=true from f') Bool.false_ne_true
 |_=>exact absurd (show false=true from f) Bool.false_ne_true
theorem inV_rep{O:Ow}{H:Hp}{d:D}{v:V}(h:Rep K mg O H d v)(f:d.flat=true):∀{ds:List D}{ys:List V},RepAll K mg O H ds ys→ds.all D.flat=true→ys.all flatV=true∧inV v ys=inD d ds
 | [],ys,r,_=>by cases r;exact⟨rfl,rfl⟩
 |e::ds,ys,r,g=>by
  obtain⟨y,t,rfl,r1,r2⟩:=r
  rw[List.all_cons,Bool.and_eq_true]at g
  obtain⟨q1,q2⟩:=inV_rep h f r2 g.2
  refine⟨by rw[List.all_cons,flat_rep r1 g.1,q1];rfl,?_⟩
  show(y::t).any (fun z=>eqV z v)=(e::ds).any fun z=>peq z d
  rw[List.any_cons,List.any_cons,eqV_rep r1 h g.1 f]
  exact congrArg _ q2
theorem bIn(neg:Bool):Bin K mg (rIn K neg) (oIn neg):=fun O σ S σV H x y rx ry r' S' Q st hx hy h q=>by
 unfold oIn at h
 split at h
 ·rename_i d xs e
  by_cases c:d.flat=true∧xs.all D.flat=true
  ·rw[if_pos c]at h
   cases h
   obtain⟨a,ys,rfl,l,ra⟩:=R.seq_rep hy e
   obtain⟨f1,f2⟩:=inV_rep hx c.1 ra c.2
   exact⟨a,ys,rfl,l,flat_rep hx c.1,f1,by rw[f2];exact q O _ H (Go.refl _ _) st rfl trivial⟩
  ·rw[if_neg c]at h;cases h
 ·cases h
end
inductive Fl where
 |nx (σ:En) | rt (r:R) | bk (σ:En) | ct (σ:En)
noncomputable abbrev MS:=En→M Fl
def Fix(o:HO):Prop:=(∃xs,o=.tup xs)∨∃ob u,o=.frz ob u
structure Gs(O O':Ow)(H H':Hp):Prop where
 cells:∀b o,H b=some o→(O b=.free∨O b=.out∨Fix o)→(h:nT o:=by exact trivial)→H' b=some o
 own:∀b,H b≠none→(O b=.free∨O b=.out)→O' b=O b
 has:∀b,H b≠none→H' b≠none
 tb:∀b ps,H b=some (.tbl ps)→∃ps',H' b=some (.tbl ps')
 gd:TabsOk H→TabsOk H'
theorem Go.gs{O O':Ow}{H H':Hp}(g:Go O O' H H'):Gs O O' H H':=⟨fun b o e _ n=>g.same.at' b o e n,fun b h _=>g.own b h,fun _ h=>g.same.some h,g.same.tb,g.same.gd⟩
theorem Gs.refl(O:Ow)(H:Hp):Gs O O H H:=(Go.refl O H).gs
theorem Gs.trans{O O1 O2:Ow}{H H1 H2:Hp}(a:Gs O O1 H H1)(b:Gs O1 O2 H1 H2):Gs O O2 H H2:=by
 have some':∀{b:Addr}{o:HO},H b=some o→H b≠none:=fun e z=>by rw[e]at z;cases z
 refine⟨fun c o e h n=>?_,fun c h f=>?_,fun c h=>b.has c (a.has c h),fun c ps h=>let⟨p1,e1⟩:=a.tb c ps h;b.tb c p1 e1,fun g=>b.gd (a.gd g)⟩
 ·have e1:=a.cells c o e h n
  rcases h with h | h | h
  ·exact b.cells c o e1 (.inl ((a.own c (some' e) (.inl h)).trans h)) n
  ·exact b.cells c o e1 (.inr (.inl ((a.own c (some' e) (.inr h)).trans h))) n
  ·exact b.cells c o e1 (.inr (.inr h)) n
 ·have e1:=a.own c h f
  rw[b.own c (a.has c h) (by rw[e1];exact f),e1]
def Kp(σ σ':En)(σV σV':St):Prop:=(∀(i:Nat)(xs:List D),σ'[i]? = some (Slot.vw xs)→σ[i]? = some (Slot.vw xs)∧σV'[i]? = σV[i]?)∧
 (∀(i:Nat)(ys:List D),σ'[i]? = some (Slot.ow true ys)→(∃xs,σ[i]? = some (Slot.ow true xs))∧σV'[i]? = σV[i]?)∧
 ∀(i:Nat)(m:TM)(t:Tr),σ'[i]? = some (Slot.tr m t)→m≠.own→(∃t0,σ[i]? = some (Slot.tr m t0)∧(m=.view→t0=t))∧σV'[i]? = σV[i]?
theorem Kp.refl(σ:En)(σV:St):Kp σ σ σV σV:=⟨fun _ _ h=>⟨h,rfl⟩,fun _ _ h=>⟨⟨_,h⟩,rfl⟩,fun _ _ _ h _=>⟨⟨_,h,fun _=>rfl⟩,rfl⟩⟩
theorem Kp.trans{σ σ1 σ2:En}{v v1 v2:St}(a:Kp σ σ1 v v1)(b:Kp σ1 σ2 v1 v2):Kp σ σ2 v v2:=⟨fun i xs h=>⟨(a.1 i xs (b.1 i xs h).1).1,(b.1 i xs h).2.trans (a.1 i xs (b.1 i xs h).1).2⟩,fun i ys h=>by
 obtain⟨⟨xs,e⟩,q⟩:=b.2.1 i ys h
 obtain⟨z,q'⟩:=a.2.1 i xs e
 exact⟨z,q.trans q'⟩,fun i m t h hm=>by
 obtain⟨⟨t1,e,f⟩,q⟩:=b.2.2 i m t h hm
 obtain⟨⟨t0,e',f'⟩,q'⟩:=a.2.2 i m t1 e hm
 exact⟨⟨t0,e',fun z=>(f' z).trans (f z)⟩,q.trans q'⟩⟩
theorem Kp.put{σ:En}{σV:St}{i:Nat}{s s0:Slot}(h0:σ[i]? = some s0)(hv:∀xs,s≠.vw xs)(ho:∀xs,s=.ow true xs→∃ys,s0=.ow true ys)(ht:∀m t,s=.tr m t→m≠.own→m≠.view∧∃t0,s0=.tr m t0):Kp σ (σ.set i s) σV σV:=by
 have hlt:i<σ.length:=(List.getElem?_eq_some_iff.mp h0).1
 have key:∀(j:Nat)(t:Slot),(σ.set i s)[j]? = some t→(i=j∧t=s)∨(i≠j∧σ[j]? = some t):=fun j t h=>by
  by_cases hj:i=j
  ·subst hj
   rw[List.getElem?_set_self hlt]at h
   exact .inl ⟨rfl,(Option.some.inj h).symm⟩
  ·rw[List.getElem?_set_ne hj]at h
   exact .inr ⟨hj,h⟩
 refine⟨fun j xs h=>?_,fun j ys h=>?_,fun j m t h hm=>?_⟩
 ·rcases key j _ h with⟨_,e⟩ | ⟨_,e⟩
  ·exact absurd e.symm (hv xs)
  ·exact⟨e,rfl⟩
 ·rcases key j _ h with⟨rfl,e⟩ | ⟨_,e⟩
  ·obtain⟨zs,e'⟩:=ho ys e.symm
   exact⟨⟨zs,e'▸h0⟩,rfl⟩
  ·exact⟨⟨_,e⟩,rfl⟩
 ·rcases key j _ h with⟨rfl,e⟩ | ⟨_,e⟩
  ·obtain⟨nv,t0,e'⟩:=ht m t e.symm hm
   exact⟨⟨t0,e'▸h0,fun z=>absurd z nv⟩,rfl⟩
  ·exact⟨⟨_,e,fun _=>rfl⟩,rfl⟩
noncomputable def RetR(K:FrgT)(mg:BinT)(O:Ow)(H:Hp):R→V→Prop
 |.v d,v=>Rep K mg O H d v
 |.fr xs,v=>∃a ys,v=.ref a∧H a=some (.lst ys)∧(O a=.tmp∨∃i,O a=.loc i)∧RepAll K mg O H xs ys
 |_,_=>False
def PoN(K:FrgT)(mg:BinT)(O:Ow)(σ:En)(S':Store)(σV:St)(H:Hp)(σ':En)(N:St→Hp→Prop):Prop:=
 ∀O' σV' H',Gs O O' H H'→S3 K mg O' σ' S' σV' H'→Kp σ σ' σV σV'→N σV' H'
def PoS(K:FrgT)(mg:BinT)(O:Ow)(σ:En)(S':Store)(σV:St)(H:Hp)(fl:Fl)(Dn:Ends):Prop:=match fl with
 |.nx σ'=>PoN K mg O σ S' σV H σ' Dn.nx
 |.bk σ'=>PoN K mg O σ S' σV H σ' Dn.bk
 |.ct σ'=>PoN K mg O σ S' σV H σ' Dn.ct
 |.rt r=>∀O' v H',Gs O O' H H'→Dom O' H'→S'=[]→RetR K mg O' H' r v→Dn.rt v H'
theorem PoN.gs{K:FrgT}{mg:BinT}{O O1:Ow}{σ σ1 σ':En}{S':Store}{σV σV1:St}{H H1:Hp}{N:St→Hp→Prop}(h:PoN K mg O σ S' σV H σ' N)(g:Gs O O1 H H1)(k:Kp σ σ1 σV σV1):PoN K mg O1 σ1 S' σV1 H1 σ' N:=
 fun O' σV' H' g' st k'=>h O' σV' H' (g.trans g') st (k.trans k')
theorem PoS.gs{K:FrgT}{mg:BinT}{O O1:Ow}{σ σ1:En}{S':Store}{σV σV1:St}{H H1:Hp}{fl:Fl}{Dn:Ends}(h:PoS K mg O σ S' σV H fl Dn)(g:Gs O O1 H H1)(k:Kp σ σ1 σV σV1):PoS K mg O1 σ1 S' σV1 H1 fl Dn:=by
 cases fl with
 |nx σ'=>exact PoN.gs h g k
 |bk σ'=>exact PoN.gs h g k
 |ct σ'=>exact PoN.gs h g k
 |rt r=>exact fun O' v H' g' d e r=>h O' v H' (g.trans g') d e r
noncomputable def tsOf(K:FrgT)(mg:BinT)(m:MS):TS:=fun Dn σV H=>∃O σ S fl S',S3 K mg O σ S σV H∧(m σ).run S=.ok fl S'∧PoS K mg O σ S' σV H fl Dn
abbrev CS(X:Cx)(st:Stmt)(m:MS):Prop:=PS X st (tsOf X.K X.mg m)
abbrev CSs(X:Cx)(sts:List Stmt)(m:MS):Prop:=PSs X sts (tsOf X.K X.mg m)
theorem ps_imp{X:Cx}{s:Stmt}{t t':TS}(h:PS X s t)(i:∀D σ H,t' D σ H→t D σ H):PS X s t':=fun pins s σ H D I q=>h pins s σ H D I (i _ _ _ q)
theorem pss_imp{X:Cx}{s:List Stmt}{t t':TS}(h:PSs X s t)(i:∀D σ H,t' D σ H→t D σ H):PSs X s t':=fun pins s σ H D I q=>h pins s σ H D I (i _ _ _ q)
noncomputable def cPass:MS:=fun σ=>pure (.nx σ)
noncomputable def cSeq(a b:MS):MS:=fun σ=>do
 let fl ←a σ
 match fl with
 |.nx σ'=>b σ'
 |fl=>pure fl
noncomputable def cRet(m:ME):MS:=fun σ=>do
 let r ←m σ
 match r with
 |.v d=>pure (.rt (.v d))
 |.fr xs=>pure (.rt (.fr xs))
 |_=>bad
noncomputable def cRetO(i:Nat):MS:=fun σ=>match σ[i]? with
 |some (.ow false xs)=>pure (.rt (.fr xs))
 |_=>bad
noncomputable def cIfS(t:En→M Bool)(a b:MS):MS:=fun σ=>do
 let t ←t σ
 if t=true then a σ else b σ
noncomputable def cSet(i:Nat)(m:ME):MS:=fun σ=>do
 let r ←m σ
 let d ←r.dat
 pure (.nx (σ.set i (.val d)))
noncomputable def cOwn(i:Nat)(m:ME):MS:=fun σ=>do
 let r ←m σ
 match r with
 |.fr xs=>pure (.nx (σ.set i (.ow false xs)))
 |_=>bad
section
variable{X:Cx}{st:Stmt}{rest:List Stmt}{pos:Pos}{a b:MS}{e:Expr}{m:ME}
theorem cs_pass:CS X (.Pass pos) cPass:=ps_imp ps_pass fun D σV H ⟨O,σ,S,fl,S',st,h,q⟩=>by cases h;exact q O σV H (Gs.refl _ _) st (Kp.refl _ _)
theorem css_nil:CSs X [] cPass:=pss_imp pss_nil fun D σV H ⟨O,σ,S,fl,S',st,h,q⟩=>by cases h;exact q O σV H (Gs.refl _ _) st (Kp.refl _ _)
theorem css_one(h:CS X st a):CSs X [st] a:=pss_one h
theorem css_cons(h1:CS X st a)(h2:CSs X rest b):CSs X (st::rest) (cSeq a b):=pss_imp (pss_cons h1 h2)<|by
 rintro D σV H ⟨O,σ,S,fl,S',st,h,q⟩
 obtain⟨f1,S1,h1,h⟩:=M.inv h
 refine⟨O,σ,S,f1,S1,st,h1,?_⟩
 cases f1 with
 |nx σ1=>exact fun O1 σV1 H1 g1 st1 k1=>⟨O1,σ1,S1,fl,S',st1,h,q.gs g1 k1⟩
 |rt r=>cases h;exact q
 |bk σ1=>cases h;exact q
 |ct σ1=>cases h;exact q
theorem ret_of{K:FrgT}{mg:BinT}{O:Ow}{H:Hp}{r:R}{v:V}(h:RepR K mg O H r v)(hr:(∃d,r=.v d)∨∃xs,r=.fr xs):RetR K mg O H r v:=by
 rcases hr with⟨d,rfl⟩ | ⟨xs,rfl⟩
 ·exact h
 ·obtain⟨a,ys,q,l,t,ra⟩:=h;exact⟨a,ys,q,l,.inl t,ra⟩
theorem cs_ret(he:CE X e m):CS X (.Return (some e) pos) (cRet m):=ps_imp (ps_ret he)<|by
 rintro D σV H ⟨O,σ,S,fl,S',st,h,q⟩
 obtain⟨r,S1,h1,h⟩:=M.inv h
 refine⟨O,σ,S,r,S1,st,h1,fun O1 v H1 g1 st1 rr nn=>?_⟩
 cases r with
 |v d=>cases h;exact q O1 v H1 g1.gs st1.dom st1.emp rr
 |fr xs=>cases h;exact q O1 v H1 g1.gs st1.dom st1.emp (ret_of rr (.inr ⟨_,rfl⟩))
 |vw xs=>cases h
 |mv xs=>cases h
 |dv _=>cases h
theorem cs_retO(i:Nat){x:Str}{p:Pos}(hN:X.N[i]? = some x:=by rfl)(hv:Vis X.env.scope x:=by first | exact Or.inl rfl | exact Or.inr (Or.inl rfl) | exact Or.inr (Or.inr rfl))(hd:(x==("__debug__":Str))=false:=by decide)
  (hcd:(x==("__classdict__":Str))=false:=by decide):CS X (.Return (some (.Name x p)) pos) (cRetO i):=ps_imp (ps_ret (pe_var hN hv hd hcd))<|by
 rintro D σV H ⟨O,σ,S,fl,S',st,h,q⟩
 unfold cRetO at h
 cases e:σ[i]? with
 |none=>rw[e]at h;cases h
 |some s=>
  rw[e]at h
  have l:=st.loc i s e
  cases s with
  |ow p xs=>
   obtain⟨a,ys,e1,e2,e3,e4⟩:=l
   cases p with
   |true=>cases h
   |false=>
   cases h
   refine⟨.ref a,?_,q O _ H (Gs.refl _ _) st.dom st.emp ⟨a,ys,rfl,e3,.inr ⟨i,e2⟩,e4⟩⟩
   cases w:σV[i]? with
   |none=>rw[w]at e1;cases e1
   |some y=>rw[w]at e1;exact congrArg some e1
  |val d=>cases h
  |vw d=>cases h
  |emp=>cases h
  |dct d=>cases h
  |vd d=>cases h
  |pd d=>cases h
  |vp d=>cases h
  |tr _ _=>cases h
theorem cs_if{c:Expr}{A B:List Stmt}{t:En→M Bool}(hc:CT X c t)(ha:CSs X A a)(hb:CSs X B b):CS X (.If c A B pos) (cIfS t a b):=ps_imp (ps_if hc ha hb)<|by
 rintro D σV H ⟨O,σ,S,fl,S',st,h,q⟩
 obtain⟨t,S1,h1,h⟩:=M.inv h
 refine⟨O,σ,S,t,S1,st,h1,fun O1 H1 g1 st1=>?_⟩
 cases t with
 |false=>
  rw[if_neg Bool.false_ne_true]at h
  exact iteF ⟨O1,σ,S1,fl,S',st1,h,q.gs g1.gs (Kp.refl _ _)⟩
 |true=>
  rw[if_pos rfl]at h
  exact iteT ⟨O1,σ,S1,fl,S',st1,h,q.gs g1.gs (Kp.refl _ _)⟩
theorem S3.set{K:FrgT}{mg:BinT}{O:Ow}{σ:En}{S:Store}{σV:St}{H:Hp}{i:Nat}{s:Slot}{v:V}(st:S3 K mg O σ S σV H)(h:SlotR K mg O H (.loc i) s (some v)):S3 K mg O (σ.set i s) S (σV.set i (some v)) H:=by
 refine⟨st.dom,by rw[List.length_set,List.length_set];exact st.len,fun j t e=>?_,st.emp⟩
 by_cases hj:i=j
 ·subst hj
  have hl:i<σ.length:=by
   have:=(List.getElem?_eq_some_iff.mp e).1
   rwa[List.length_set]at this
  rw[List.getElem?_set_self hl]at e
  cases e
  rw[List.getElem?_set_self (by rw[←st.len];exact hl)]
  exact h
 ·rw[List.getElem?_set_ne hj]at e
  rw[List.getElem?_set_ne hj]
  exact st.loc j t e
theorem Kp.set{σ:En}{σV:St}{i:Nat}{s:Slot}{v:Option V}(hs:∀xs,s≠.vw xs)(ht:∀xs,s≠.ow true xs:=by intro xs z;cases z)(hu:∀m t,s=.tr m t→m=.own:=by intro m t z;cases z):Kp σ (σ.set i s) σV (σV.set i v):=by
 have key:∀(j:Nat)(t:Slot),(σ.set i s)[j]? = some t→t≠s→σ[j]? = some t∧(σV.set i v)[j]? = σV[j]?:=fun j t h hne=>by
  by_cases hj:i=j
  ·subst hj
   have hl:i<σ.length:=by
    have:=(List.getElem?_eq_some_iff.mp h).1
    rwa[List.length_set]at this
   rw[List.getElem?_set_self hl]at h
   exact absurd (Option.some.inj h).symm hne
  ·rw[List.getElem?_set_ne hj]at h ⊢
   exact⟨h,rfl⟩
 refine⟨fun j xs h=>key j _ h (fun z=>hs xs z.symm),fun j ys h=>?_,fun j m t h hm=>?_⟩
 ·obtain⟨a,b⟩:=key j _ h (fun z=>ht ys z.symm)
  exact⟨⟨ys,a⟩,b⟩
 ·obtain⟨a,b⟩:=key j _ h (fun z=>hm (hu m t z.symm))
  exact⟨⟨t,a,fun _=>rfl⟩,b⟩
theorem S3.own{K:FrgT}{mg:BinT}{O:Ow}{σ:En}{S:Store}{σV:St}{H:Hp}{i:Nat}{a:Addr}{xs:List D}{ys:List V}(st:S3 K mg O σ S σV H)(ht:O a=.tmp)(hl:H a=some (.lst ys))(hr:RepAll K mg O H xs ys) :
  S3 K mg (updO O a (.loc i)) (σ.set i (.ow false xs)) S (σV.set i (some (.ref a))) H:=by
 have ne:∀{b:Addr}{w:Own},O b=w→w≠.tmp→updO O a (.loc i) b=w:=fun{b w} h hw=>by
  rw[updO_ne];exact h
  rintro rfl;exact hw (h.symm.trans ht)
 have fre:Fre O (updO O a (.loc i)):=⟨fun b h=>ne h (by intro z;cases z)⟩
 have st1:S3 K mg (updO O a (.loc i)) σ S σV H:=by
  refine⟨⟨fun b hb=>?_,st.dom.tabs⟩,st.len,fun j s e=>(st.loc j s e).fre fre (fun b h=>ne h (by intro z;cases z)) (fun b h=>ne h (by intro z;cases z)) (fun b p h=>ne h (by intro z;cases z)),st.emp⟩
  by_cases e:b=a
  ·rw[e,hl];intro z;cases z
  ·rw[updO_ne e]at hb;exact st.dom.has b hb
 exact st1.set ⟨a,ys,rfl,updO_same,hl,hr.fre fre⟩
theorem Gs.tmp{O:Ow}{H:Hp}{a:Addr}{w:Own}(ht:O a=.tmp):Gs O (updO O a w) H H:=by
 refine⟨fun b o e _ _=>e,fun b h f=>?_,fun _ h=>h,fun _ ps h=>⟨ps,h⟩,id⟩
 rw[updO_ne]
 rintro rfl
 rw[ht]at f
 rcases f with z | z<;>cases z
theorem set_read{K:FrgT}{mg:BinT}{i:Nat}{te:TE}(hi:∀σ H Q,teOf K mg m σ H Q→te σ H Q):∀D σV H,tsOf K mg (cSet i m) D σV H→tAsg te (gName i) D σV H:=by
 rintro D σV H ⟨O,σ,S,fl,S',st,h,q⟩
 obtain⟨r,S1,h1,h⟩:=M.inv h
 obtain⟨d,S2,h2,h⟩:=M.inv h
 cases h
 refine hi σV H _ ⟨O,σ,S,r,S1,st,h1,fun O1 v H1 g1 st1 rr nn=>?_⟩
 obtain⟨rd,rfl⟩:=dat_rep (H₀:=H) rr nn h2
 exact q (frz H O1) _ H1 g1.frz.gs ((st1.frz H).set ⟨v,rfl,rd⟩) (Kp.set fun xs z=>by cases z)
theorem own_read{K:FrgT}{mg:BinT}{i:Nat}{te:TE}(hi:∀σ H Q,teOf K mg m σ H Q→te σ H Q):∀D σV H,tsOf K mg (cOwn i m) D σV H→tAsg te (gName i) D σV H:=by
 rintro D σV H ⟨O,σ,S,fl,S',st,h,q⟩
 obtain⟨r,S1,h1,h⟩:=M.inv h
 split at h
 ·rename_i xs
  cases h
  refine hi σV H _ ⟨O,σ,S,_,_,st,h1,fun O1 v H1 g1 st1 rr nn=>?_⟩
  obtain⟨a,ys,rfl,l,t,ra⟩:=rr
  exact q _ _ H1 (g1.gs.trans (Gs.tmp t)) (st1.own t l ra) (Kp.set fun xs z=>by cases z)
 ·cases h
variable{i:Nat}{x:Str}{pos':Pos}
theorem cs_set(hN:X.N.Nodup)(hi:X.N[i]? = some x)(hx:Loc X.env.scope x)(he:CE X e m)(hs:swapsWith e (some (.Name x pos')) pos.line X.env=pure false:=by rfl)(hf:X.fn x=true∨X.env.scope.names.lookup x=some .local:=by first | exact .inl rfl | exact .inr rfl | assumption) :
  CS X (.Assign [.Name x pos'] e pos) (cSet i m):=ps_imp (ps_set hN hi hx he hs hf) (set_read fun _ _ _ h=>h)
theorem cs_own(hN:X.N.Nodup)(hi:X.N[i]? = some x)(hx:Loc X.env.scope x)(he:CE X e m)(hs:swapsWith e (some (.Name x pos')) pos.line X.env=pure false:=by rfl)(hf:X.fn x=true∨X.env.scope.names.lookup x=some .local:=by first | exact .inl rfl | exact .inr rfl | assumption) :
  CS X (.Assign [.Name x pos'] e pos) (cOwn i m):=ps_imp (ps_set hN hi hx he hs hf) (own_read fun _ _ _ h=>h)
end
noncomputable def cMut(i:Nat)(f:List D→List R→M (R×List D))(ms:MA):En→M (R×En):=fun σ=>do
 let rs ←ms σ
 match σ[i]? with
 |some (.ow p xs)=>do
  let(r,ys) ←f xs rs
  pure (r,σ.set i (.ow p ys))
 |_=>bad
noncomputable def cMutS(i:Nat)(f:List D→List R→M (R×List D))(ms:MA):MS:=fun σ=>do
 let(_,σ') ←cMut i f ms σ
 pure (.nx σ')
noncomputable def uAppend(xs:List D):List R→M (R×List D)
 |[r]=>do
  let d ←r.dat
  chk (xs.length<sizeLine)
  pure (.v .non,xs++[d])
 |_=>bad
noncomputable def uExtend(xs:List D):List R→M (R×List D)
 |[r]=>match r.own with
  |some ys=>do
   chk (xs.length+ys.length≤sizeLine)
   pure (.v .non,xs++ys)
  |none=>bad
 |_=>bad
section
variable{K:FrgT}{mg:BinT}{O:Ow}{H:Hp}{l:Addr}{zs ws:List V}
mutual
theorem Rep.updL(ho:O l≠.free)(hl:H l=some (.lst zs)):∀{d:D}{v:V},Rep K mg O H d v→Rep K mg O (upd H l (.lst ws)) d v
 |.non,_,h=>h
 |.bl _,_,h=>h
 |.int _,_,h=>h
 |.str _,_,h=>h
 |.tup _,_,h=>by
  obtain⟨a,ys,q,t,r⟩:=h
  refine⟨a,ys,q,?_,RepAll.updL ho hl r⟩
  rcases t with(t | ⟨o,t⟩) | t
  ·exact .inl (.inl (by rw[upd_ne (ne_of t hl (by intro z;cases z))];exact t))
  ·exact .inl (.inr ⟨o,by rw[upd_ne (ne_of t hl (by intro z;cases z))];exact t⟩)
  ·exact .inr t
 |.lst _,_,h=>by
  obtain⟨a,ys,q,t,r⟩:=h
  exact⟨a,ys,q,⟨by rw[upd_ne (by rintro rfl;exact ho t.2)];exact t.1,t.2⟩,RepAll.updL ho hl r⟩
 |.dic _ _,_,h=>h
 |.fn _,_,h=>h
 |.ty _,_,h=>h
theorem RepAll.updL(ho:O l≠.free)(hl:H l=some (.lst zs)):∀{ds:List D}{ys:List V},RepAll K mg O H ds ys→RepAll K mg O (upd H l (.lst ws)) ds ys
 |[],_,h=>h
 | _::_,_,h=>by obtain⟨x,r,q,a,b⟩:=h;exact⟨x,r,q,Rep.updL ho hl a,RepAll.updL ho hl b⟩
end
theorem LsV.updL{a:Addr}{ys:List V}(ho:O l≠.free)(ho':O l≠.out)(h:LsV K O H a ys):LsV K O (upd H l (.lst ws)) a ys:=by
 rcases h with⟨h,f⟩ | h
 ·have ne:a≠l:=by rintro rfl;exact f.elim ho ho'
  refine .inl ⟨?_,f⟩
  rcases h with h | ⟨o,h⟩
  ·exact .inl (by rw[upd_ne ne];exact h)
  ·exact .inr ⟨o,by rw[upd_ne ne];exact h⟩
 ·exact .inr h
theorem SlotR.updL{w:Own}(ho:O l≠.free)(ho':O l≠.out)(hw:O l≠w)(ht:∀p,O l≠w.at p)(hl:H l=some (.lst zs)):∀{s:Slot}{u:Option V},SlotR K mg O H w s u→SlotR K mg O (upd H l (.lst ws)) w s u
 |.emp,_,_=>trivial
 | .val _,_,h=>by obtain⟨v,q,r⟩:=h;exact⟨v,q,r.updL ho hl⟩
 | .ow _ _,_,h=>by obtain⟨a,ys,q,o,t,r⟩:=h;exact⟨a,ys,q,o,by rw[upd_ne (by rintro rfl;exact hw o)];exact t,r.updL ho hl⟩
 | .vw _,_,h=>by obtain⟨a,ys,q,t,r⟩:=h;exact⟨a,ys,q,t.updL ho ho',r.updL ho hl⟩
 | .dct _,_,h=>by obtain⟨a,ys,q,o,t,r⟩:=h;exact⟨a,ys,q,o,by rw[upd_ne (by rintro rfl;rw[hl]at t;cases t)];exact t,r.1,r.2.updL ho hl⟩
 |.vd _,_,h=>by
  obtain⟨a,ys,q,t,r⟩:=h
  refine⟨a,ys,q,⟨?_,t.2⟩,r.1,r.2.updL ho hl⟩
  rcases t.1 with t | ⟨o,t⟩
  ·exact .inl (by rw[upd_ne (by rintro rfl;rw[hl]at t;cases t)];exact t)
  ·exact .inr ⟨o,by rw[upd_ne (by rintro rfl;rw[hl]at t;cases t)];exact t⟩
 | .pd _,_,h=>by obtain⟨a,ys,q,o,t,r⟩:=h;exact⟨a,ys,q,o,by rw[upd_ne (by rintro rfl;rw[hl]at t;cases t)];exact t,r.1,r.2.all fun _ _ z=>Rep.updL ho hl z⟩
 |.vp _,_,h=>by
  obtain⟨a,ys,q,t,r⟩:=h
  refine⟨a,ys,q,⟨?_,t.2⟩,r.1,r.2.all fun _ _ z=>Rep.updL ho hl z⟩
  rcases t.1 with t | ⟨o,t⟩
  ·exact .inl (by rw[upd_ne (by rintro rfl;rw[hl]at t;cases t)];exact t)
  ·exact .inr ⟨o,by rw[upd_ne (by rintro rfl;rw[hl]at t;cases t)];exact t⟩
 | .tr _ _,_,h=>by obtain⟨v,q,r⟩:=h;exact⟨v,q,r.all (fun _ _ z=>Rep.updL ho hl z) fun a _ p o t _=>⟨o,by rw[upd_ne (by rintro rfl;exact TM.ne ho' ht p o)];exact t⟩⟩
theorem Dom.updL(d:Dom O H)(hl:H l=some (.lst zs)):Dom O (upd H l (.lst ws)):=⟨fun a ha=>by
 by_cases e:a=l
 ·rw[e,upd_same];intro z;cases z
 ·rw[upd_ne e];exact d.has a ha,d.tabs.lst hl _⟩
theorem Gs.updL(ho:O l≠.free)(ho':O l≠.out)(hl:H l=some (.lst zs)):Gs O O H (upd H l (.lst ws)):=by
 refine⟨fun b o e h _=>?_,fun _ _ _=>rfl,fun b h=>?_,fun b ps e=>⟨ps,by rw[upd_ne (by rintro rfl;rw[hl]at e;cases e)];exact e⟩,fun g=>g.lst hl _⟩
 ·rw[upd_ne]
  ·exact e
  ·rintro rfl
   rcases h with h | h | ⟨xs,h⟩ | ⟨_,_,h⟩
   ·exact ho h
   ·exact ho' h
   ·subst h;rw[e]at hl;cases hl
   ·subst h;rw[e]at hl;cases hl
 ·by_cases e:b=l
  ·rw[e,upd_same];intro z;cases z
  ·rw[upd_ne e];exact h
theorem S3.updL{σ:En}{S:Store}{σV:St}{i:Nat}{p:Bool}{xs ys:List D}(st:S3 K mg O σ S σV H)(hi:σ[i]? = some (.ow p xs))(hv:σV[i]?.join=some (.ref l))(ho:O l=.loc i)(hl:H l=some (.lst zs))(hr:RepAll K mg O H ys ws) :
  S3 K mg O (σ.set i (.ow p ys)) S σV (upd H l (.lst ws)):=by
 have ne:∀w:Own,w≠.loc i→O l≠w:=fun w hw z=>hw (z.symm.trans ho)
 refine⟨st.dom.updL hl,by rw[List.length_set];exact st.len,fun j t e=>?_,st.emp⟩
 by_cases hj:i=j
 ·subst hj
  have hlt:i<σ.length:=(List.getElem?_eq_some_iff.mp hi).1
  rw[List.getElem?_set_self hlt]at e
  cases e
  exact⟨l,ws,hv,ho,upd_same,hr.updL (ne _ (by intro z;cases z)) hl⟩
 ·rw[List.getElem?_set_ne hj]at e
  exact(st.loc j t e).updL (ne _ (by intro z;cases z)) (ne _ (by intro z;cases z)) (ne _ (by intro z;cases z;exact hj rfl)) (fun p=>ne _ (by intro z;cases z)) hl
end
def BinM(K:FrgT)(mg:BinT)(r:V→List V→Hp→VK→Prop)(f:List D→List R→M (R×List D)):Prop:=
 ∀O H H₀ l xs zs rs vs S S' r' ys (Q:VK),H l=some (.lst zs)→RepAll K mg O H xs zs→RepRs K mg O H rs vs→NewRs H₀ rs vs→(f xs rs).run S=.ok (r',ys) S'→
  (∀v ws,S=S'→RepAll K mg (frz H₀ O) H ys ws→(∃d,r'=.v d∧Rep K mg (frz H₀ O) H d v)→Q v (upd H l (.lst ws)))→r (.ref l) vs H Q
section
variable{K:FrgT}{mg:BinT}
theorem mAppend:BinM K mg rAppend uAppend:=fun O H H₀ l xs zs rs vs S S' r' ys Q hl hx hr hn h q=>by
 unfold uAppend at h
 split at h
 ·rename_i r
  obtain⟨v,rfl,rv⟩:=reps1 hr
  obtain⟨d,S1,h1,h⟩:=M.inv h
  obtain⟨_,S2,h2,h⟩:=M.inv h
  obtain⟨c,rfl⟩:=chk_inv h2
  obtain⟨rd,rfl⟩:=dat_rep (H₀:=H₀) rv hn.1 h1
  cases h
  exact⟨l,zs,v,rfl,rfl,hl,by rw[hx.len];exact c,q .non _ rfl ((hx.fre (frz_fre _ _)).append (.one rd)) ⟨.non,rfl,rfl⟩⟩
 ·cases h
theorem mExtend:BinM K mg rExtend uExtend:=fun O H H₀ l xs zs rs vs S S' r' ys Q hl hx hr hn h q=>by
 unfold uExtend at h
 split at h
 ·rename_i r
  obtain⟨v,rfl,rv⟩:=reps1 hr
  split at h
  ·rename_i us e
   obtain⟨_,S2,h2,h⟩:=M.inv h
   obtain⟨c,rfl⟩:=chk_inv h2
   cases h
   obtain⟨b,ws,rfl,l2,r2⟩:=R.own_rep rv e
   exact⟨l,b,zs,ws,rfl,rfl,hl,l2,by rw[hx.len,r2.len];exact c,q .non _ rfl ((hx.append r2).fre (frz_fre _ _)) ⟨.non,rfl,rfl⟩⟩
  ·cases h
 ·cases h
variable{f:List D→List R→M (R×List D)}{r:V→List V→Hp→VK→Prop}{ms:MA}{i j:Nat}
theorem mut_read(hf:BinM K mg r f){O:Ow}{σ σ':En}{S S':Store}{σV:St}{H:Hp}{r':R}{Q:VK}(st:S3 K mg O σ S σV H)(h:(cMut i f ms σ).run S=.ok (r',σ') S')
  (q:∀O' v H',Gs O O' H H'→S3 K mg O' σ' S' σV H'→Kp σ σ' σV σV→(∃d,r'=.v d∧Rep K mg O' H' d v)→Q v H') :
  ∃v,σV[i]? = some (some v)∧tyV K "list" v H∧taOf K mg ms σV H fun vs H2=>r v vs H2 Q:=by
 obtain⟨rs,S1,h1,h⟩:=M.inv h
 cases e:σ[i]? with
 |none=>rw[e]at h;cases h
 |some s=>
  rw[e]at h
  cases s with
  |emp=>cases h
  |val _=>cases h
  |vw _=>cases h
  |dct _=>cases h
  |vd _=>cases h
  |pd _=>cases h
  |vp _=>cases h
  |tr _ _=>cases h
  |ow p xs=>
   obtain⟨⟨r2,ys⟩,S2,h2,h⟩:=M.inv h
   cases h
   obtain⟨a,zs,e1,e2,e3,e4⟩:=st.loc i _ e
   have ev:σV[i]? = some (some (.ref a)):=by
    cases w:σV[i]? with
    |none=>rw[w]at e1;cases e1
    |some y=>rw[w]at e1;exact congrArg some e1
   refine⟨.ref a,ev,.inl ⟨rfl,_,SqL.of e3⟩,O,σ,S,rs,S1,st,h1,fun O1 vs H1 g1 st1 rr nn=>?_⟩
   have e3':=g1.same.at' _ _ e3
   have hn:H a≠none:=by rw[e3];intro z;cases z
   have e2':O1 a=.loc i:=(g1.own a hn).trans e2
   refine hf O1 H1 H a xs zs rs vs S1 _ _ ys Q e3' (e4.go g1) rr nn h2 fun v ws es ra ⟨d,ed,rd⟩=>?_
   subst es
   have o2:frz H O1 a=.loc i:=by rw[frz_old hn];exact e2'
   have no:∀w:Own,w≠.loc i→frz H O1 a≠w:=fun w hw z=>hw (z.symm.trans o2)
   refine q (frz H O1) v _ (g1.frz.gs.trans (Gs.updL (no _ (by intro z;cases z)) (no _ (by intro z;cases z)) e3')) ((st1.frz H).updL e (by rw[ev];rfl) o2 e3' ra) ?_ ⟨d,ed,rd.updL (no _ (by intro z;cases z)) e3'⟩
   have hlt:i<σ.length:=(List.getElem?_eq_some_iff.mp e).1
   exact Kp.put e (fun xs z=>by cases z) (fun _ z=>by cases z;exact⟨xs,rfl⟩) (fun _ _ z=>by cases z)
end
section
variable{X:Cx}{x:Str}{i j:Nat}{p apos cpos pos pos':Pos}{e:Expr}{es:List Expr}{ms:MA}{name y:Str}{id:String}{f:List D→List R→M (R×List D)}{r:V→List V→Hp→VK→Prop}
theorem cs_mut(slot:PySem.Slot "list" name id)(hty:typeOf (.builtin id)=pure (.type "method_descriptor"))(hm:MtM X id r)(hf:BinM X.K X.mg r f)(ha:CA X (e::es) ms)(hN:X.N[i]? = some x)(hv:Vis X.env.scope x)
  (hd:(x==("__debug__":Str))=false:=by decide) (hcd:(x==("__classdict__":Str))=false:=by decide)
  (hbase:attributeBase (.Name x p) name X.env (eval (.Name x p) X.env)=eval (.Name x p) X.env:=by rfl)
  (hfew:((backTo cpos (starEach (e::es) X.env)).all (fun x=>!x.1)&&(backToKw cpos (keywordEach [] X.env)).all (fun x=>x.1.isSome)
&&decide ((e::es).length+([]:List Keyword).length+(if([]:List Keyword).isEmpty then 0 else 1)<30))=true:=by rfl)
  (hline:(apos.endLine==cpos.line)=true:=by rfl) (hs:starEach (e::es) X.env=(false,eval e X.env)::starEach es X.env:=by rfl) (hplain:(backTo cpos (starEach es X.env)).any (·.1)=false:=by rfl)
  (hsw:swapsWith (.Call (.Attribute (.Name x p) name apos) (e::es) [] cpos) none pos.line X.env=pure false:=by rfl) :
  CS X (.Expr (.Call (.Attribute (.Name x p) name apos) (e::es) [] cpos) pos) (cMutS i f ms):=
 ps_imp (ps_expr (pe_bm PySem.F.plainAttrs_list slot hty hm (pe_var hN hv hd hcd) ha hbase hfew hline hs hplain) hsw) fun D σV H ⟨O,σ,S,fl,S',st,h,q⟩=>by
  obtain⟨⟨r2,σ2⟩,S1,h1,h⟩:=M.inv h
  cases h
  exact mut_read hf st h1 fun O' v H' g st' k _=>q O' σV H' g st' k
end
def ItS(J:It)(O:Ow)(H:Hp)(ys:List V):Prop:=∀O2 H2,Gs O O2 H H2→∀i,(i<ys.length→J.go i H2∧∀x H',J.yld i H2 x H'→H'=H2∧ys[i]? = some x)∧(ys.length≤i→J.stop i H2)
noncomputable abbrev MI:=En→M (List D)
noncomputable def tcOf(K:FrgT)(mg:BinT)(m:MI):TI:=fun σV H R=>∃O σ S xs S',S3 K mg O σ S σV H∧(m σ).run S=.ok xs S'∧∀O' H' J ys,Go O O' H H'→S3 K mg O' σ S' σV H'→ItOk J H' ys→RepAll K mg O' H' xs ys→R J H'
noncomputable def tfOf(K:FrgT)(mg:BinT)(m:MI):TI:=fun σV H R=>∃O σ S xs S',S3 K mg O σ S σV H∧(m σ).run S=.ok xs S'∧∀O' H' J ys,Go O O' H H'→S3 K mg O' σ S' σV H'→ItS J O' H' ys→RepAll K mg O' H' xs ys→R J H'
abbrev CIc(X:Cx)(tg iter:Expr)(m:MI):Prop:=PI X tg iter (tcOf X.K X.mg m)
abbrev CIf(X:Cx)(tg iter:Expr)(m:MI):Prop:=PI X tg iter (tfOf X.K X.mg m)
theorem pi_imp{X:Cx}{tg e:Expr}{t t':TI}(h:PI X tg e t)(i:∀σ H Q,t' σ H Q→t σ H Q):PI X tg e t':=fun pins s σ H Q I q=>h pins s σ H Q I (i _ _ _ q)
theorem Gs.sqT{K:FrgT}{O O':Ow}{H H':Hp}(g:Gs O O' H H'){a:Addr}{ys:List V}(h:SqT K H a ys):SqT K H' a ys:=by
 rcases h with(h | ⟨o,h⟩) | h
 ·exact .inl (.inl (g.cells _ _ h (.inr (.inr (.inl ⟨_,rfl⟩)))))
 ·exact .inl (.inr ⟨o,g.cells _ _ h (.inr (.inr (.inr ⟨_,_,rfl⟩)))⟩)
 ·exact .inr h
theorem Gs.lsV{K:FrgT}{O O':Ow}{H H':Hp}(g:Gs O O' H H'){a:Addr}{ys:List V}(h:LsV K O H a ys):LsV K O' H' a ys:=by
 rcases h with⟨h,f⟩ | h
 ·refine .inl ⟨?_,by rw[g.own a (Rd.some h) f];exact f⟩
  rcases h with h | ⟨o,h⟩
  ·exact .inl (g.cells _ _ h (f.elim .inl fun z=>.inr (.inl z)))
  ·exact .inr ⟨o,g.cells _ _ h (f.elim .inl fun z=>.inr (.inl z))⟩
 ·exact .inr h
noncomputable def iT(m:ME):MI:=fun σ=>do
 let r ←m σ
 match r with
 |.v (.tup xs)=>pure xs
 |_=>bad
noncomputable def iL(m:ME):MI:=fun σ=>do
 let r ←m σ
 match r with
 |.v (.lst xs)=>pure xs
 |.fr xs=>pure xs
 |.vw xs=>pure xs
 |_=>bad
noncomputable def iLc(m:ME):MI:=fun σ=>do
 let r ←m σ
 match r.lis with
 |some xs=>pure xs
 |none=>bad
noncomputable def rngD(lo:Int)(n:Nat):List D:=(List.range n).map fun i=>D.int (lo+(i:Nat))
noncomputable def iR1(m:MA):MI:=fun σ=>do
 let rs ←m σ
 match rs with
 |[.v (.int j)]=>if -(2 ^ 62)≤j∧j<2 ^ 62 then pure (rngD 0 j.toNat)else bad
 |_=>bad
theorem rngD_rep{K:FrgT}{mg:BinT}{O:Ow}{H:Hp}(lo:Int)(n:Nat):RepAll K mg O H (rngD lo n) (rngV lo n):=by
 unfold rngD rngV
 induction(List.range n)with
 |nil=>rfl
 |cons a r ih=>exact⟨.int (lo+a),_,rfl,rfl,ih⟩
theorem itr_s{O:Ow}{H:Hp}(lo:Int)(n:Nat):ItS (Itr lo n) O H (rngV lo n):=fun O2 H2 _ i=>itr_ok (H:=H2) lo n H2 (Same.refl _) i
section
variable{X:Cx}{tg l:Expr}{m:ME}{e a b:Expr}{ms:MA}{pos p:Pos}
theorem rng1_read{K:FrgT}{mg:BinT}:(∀σV H R,tfOf K mg (iR1 ms) σV H R→iRng1 (taOf K mg ms) σV H R)∧(∀σV H R,tcOf K mg (iR1 ms) σV H R→iRng1 (taOf K mg ms) σV H R):=by
 constructor<;>
 ·rintro σV H R ⟨O,σ,S,xs,S',st,h,q⟩
  obtain⟨rs,S1,h1,h⟩:=M.inv h
  split at h
  ·rename_i j
   by_cases c:-(2 ^ 62)≤j∧j<2 ^ 62
   ·rw[if_pos c]at h
    cases h
    refine⟨O,σ,S,_,_,st,h1,fun O1 vs H1 g1 st1 rr nn=>?_⟩
    obtain⟨v,rfl,rv⟩:=reps1 rr
    cases(show v=.int j from rv)
    exact⟨j,rfl,c.1,c.2,q O1 H1 (Itr 0 j.toNat) (rngV 0 j.toNat) g1 st1 (by first | exact itr_s _ _ | exact itr_ok _ _) (rngD_rep _ _)⟩
   ·rw[if_neg c]at h;cases h
  ·cases h
theorem cf_range1(hg:Gl X "range")(hm:X.mg "range"=none)(ha:CA X [a] ms)(hs:starEach [a] X.env=[(false,eval a X.env)]:=by rfl):CIf X tg (.Call (.Name "range" p) [a] [] pos) (iR1 ms):=pi_imp (pi_range1 hg hm ha hs) rng1_read.1
theorem cc_range1(hg:Gl X "range")(hm:X.mg "range"=none)(ha:CA X [a] ms)(hs:starEach [a] X.env=[(false,eval a X.env)]:=by rfl):CIc X tg (.Call (.Name "range" p) [a] [] pos) (iR1 ms):=pi_imp (pi_range1 hg hm ha hs) rng1_read.2
theorem cc_list(hl:CE X l m):CIc X tg l (iLc m):=pi_imp (pi_list hl)<|by
 rintro σV H RR ⟨O,σ,S,xs,S',st,h,q⟩
 obtain⟨r,S1,h1,h⟩:=M.inv h
 cases e:r.lis with
 |none=>rw[e]at h;cases h
 |some zs=>
  rw[e]at h
  cases h
  refine⟨O,σ,S,r,_,st,h1,fun O1 v H1 g1 st1 rr nn=>?_⟩
  obtain⟨a,ys,rfl,ls,ra⟩:=R.lis_rep rr e
  exact⟨a,rfl,⟨ys,ls⟩,q O1 H1 (Itl X.K a) ys g1 st1 (itl_ok ls) ra⟩
theorem itl_s{K:FrgT}{O:Ow}{H:Hp}{a:Addr}{xs:List V}(h:LsV K O H a xs):ItS (Itl K a) O H xs:=fun O2 H2 g i=>itl_ok (g.lsV h).sq H2 (Same.refl _) i
theorem cf_list(hl:CE X l m):CIf X tg l (iL m):=pi_imp (pi_list hl)<|by
 rintro σV H R ⟨O,σ,S,xs,S',st,h,q⟩
 obtain⟨r,S1,h1,h⟩:=M.inv h
 refine⟨O,σ,S,r,S1,st,h1,fun O1 v H1 g1 st1 rr nn=>?_⟩
 split at h
 ·cases h
  obtain⟨a,ys,rfl,ls,ra⟩:=rr
  exact⟨a,rfl,⟨ys,ls.sq⟩,q O1 H1 (Itl X.K a) ys g1 st1 (itl_s (.inl ⟨.inl ls.1,.inl ls.2⟩)) ra⟩
 ·cases h
  obtain⟨a,ys,rfl,ls,t,ra⟩:=rr
  exact⟨a,rfl,⟨ys,SqL.of ls⟩,q (frz H O1) H1 (Itl X.K a) ys g1.frz (st1.frz H) (itl_s (.inl ⟨.inl ls,.inl (frz_tmp (nn a rfl) t)⟩)) (ra.fre (frz_fre _ _))⟩
 ·cases h
  obtain⟨a,ys,rfl,ls,ra⟩:=rr
  exact⟨a,rfl,⟨ys,ls.sq⟩,q O1 H1 (Itl X.K a) ys g1 st1 (itl_s ls) ra⟩
 ·cases h
theorem cc_tup(hl:CE X l m):CIc X tg l (iT m):=pi_imp (pi_tup hl)<|by
 rintro σV H R ⟨O,σ,S,xs,S',st,h,q⟩
 obtain⟨r,S1,h1,h⟩:=M.inv h
 split at h
 ·rename_i zs
  cases h
  refine⟨O,σ,S,_,_,st,h1,fun O1 v H1 g1 st1 rr nn=>?_⟩
  obtain⟨a,ys,rfl,ls,ra⟩:=rr
  exact⟨a,rfl,⟨ys,ls⟩,q O1 H1 (Itt X.K a) ys g1 st1 (itt_ok ls) ra⟩
 ·cases h
theorem itt_s{K:FrgT}{O:Ow}{H:Hp}{a:Addr}{xs:List V}(h:SqT K H a xs):ItS (Itt K a) O H xs:=fun O2 H2 g i=>itt_ok (g.sqT h) H2 (Same.refl _) i
theorem cf_tup(hl:CE X l m):CIf X tg l (iT m):=pi_imp (pi_tup hl)<|by
 rintro σV H R ⟨O,σ,S,xs,S',st,h,q⟩
 obtain⟨r,S1,h1,h⟩:=M.inv h
 split at h
 ·rename_i zs
  cases h
  refine⟨O,σ,S,_,_,st,h1,fun O1 v H1 g1 st1 rr nn=>?_⟩
  obtain⟨a,ys,rfl,ls,ra⟩:=rr
  exact⟨a,rfl,⟨ys,ls⟩,q O1 H1 (Itt X.K a) ys g1 st1 (itt_s ls) ra⟩
 ·cases h
end
noncomputable def fLoop(b:D→MS):List D→MS
 |[]=>fun σ=>pure (.nx σ)
 |d::ds=>fun σ=>do
  let fl ←b d σ
  match fl with
  |.nx σ'=>fLoop b ds σ'
  |.ct σ'=>fLoop b ds σ'
  |.bk σ'=>pure (.nx σ')
  |.rt r=>pure (.rt r)
noncomputable def cFor(i:Nat)(it:MI)(b:MS):MS:=fun σ=>do
 let ds ←it σ
 fLoop (fun d σ=>b (σ.set i (.val d))) ds σ
theorem S3.val{K:FrgT}{mg:BinT}{O:Ow}{σ:En}{S:Store}{σV:St}{H:Hp}{i:Nat}{d:D}{v:V}(st:S3 K mg O σ S σV H)(h:Rep K mg O H d v):S3 K mg O (σ.set i (.val d)) S (σV.set i (some v)) H:=st.set ⟨v,rfl,h⟩
theorem RepAll.gs{K:FrgT}{mg:BinT}{O O':Ow}{H H':Hp}(g:Gs O O' H H'):∀{ds:List D}{ys:List V},RepAll K mg O H ds ys→RepAll K mg O' H' ds ys:=by
 have rep:∀(d:D)(v:V),Rep K mg O H d v→Rep K mg O' H' d v:=by
  intro d
  induction d using D.rec (motive_2:=fun ds=>∀ys,RepAll K mg O H ds ys→RepAll K mg O' H' ds ys)with
  |non=>exact fun v h=>h
  |bl _=>exact fun v h=>h
  |int _=>exact fun v h=>h
  |str _=>exact fun v h=>h
  |fn _=>exact fun v h=>h
  |ty _=>exact fun v h=>h
  |dic l _ _=>exact fun v h=>h
  |tup xs ih=>exact fun v ⟨a,ys,q,l,r⟩=>⟨a,ys,q,g.sqT l,ih ys r⟩
  | lst xs ih=>exact fun v ⟨a,ys,q,l,r⟩=>⟨a,ys,q,⟨g.cells _ _ l.1 (.inl l.2),by rw[g.own a (by rw[l.1];intro z;cases z) (.inl l.2)];exact l.2⟩,ih ys r⟩
  |nil=>assumption
  |cons x xs ih1 ih2=>
   rename_i zs hz
   obtain⟨y,r,q,a,b⟩:=hz
   exact⟨y,r,q,ih1 y a,ih2 r b⟩
 intro ds
 induction ds with
 |nil=>exact fun h=>h
 |cons x xs ih=>rintro ys ⟨y,r,q,a,b⟩;exact⟨y,r,q,rep x y a,ih b⟩
section
variable{X:Cx}{tg iter:Expr}{it:MI}{i:Nat}{b:MS}{body:List Stmt}{pos tpos:Pos}{x:Str}{c:Expr}{t:En→M Bool}
theorem RepAll.get'{K:FrgT}{mg:BinT}{O:Ow}{H:Hp}{ds:List D}{ys:List V}{k:Nat}{d:D}{ds':List D}(h:RepAll K mg O H ds ys)(e:ds.drop k=d::ds'):∃y,ys[k]? = some y∧Rep K mg O H d y∧ds.drop (k+1)=ds':=by
 have e1:ds[k]? = some d:=by
  have:=congrArg (·[0]?) e
  simpa using this
 obtain⟨y,q,r⟩:=h.get e1
 refine⟨y,q,r,?_⟩
 have:=congrArg (List.drop 1) e
 simpa[List.drop_drop]using this
theorem forG_read{K:FrgT}{mg:BinT}{G:TG}{B:L3.D→MS}(hG:∀O σ S σV H d y f S2 Q,S3 K mg O σ S σV H→Rep K mg O H d y→(B d σ).run S=.ok f S2→(∀σn σVn,S3 K mg O σn S σVn H→Kp σ σn σV σVn→(b σn).run S=.ok f S2→Q σVn H)→G y σV H Q) :
  ∀D σV H,tsOf K mg (fun σ=>do
   let ds ←it σ
   fLoop B ds σ) D σV H→tFor (tfOf K mg it) G (tsOf K mg b) D σV H:=by
 rintro D σV H ⟨O,σ,S,fl,S',st,h,q⟩
 obtain⟨ds,S1,h1,h⟩:=M.inv h
 refine⟨O,σ,S,ds,S1,st,h1,fun O1 H1 J ys g1 st1 its ra=>?_⟩
 refine⟨fun k m σV' H'=>m=ys.length-k∧k≤ys.length∧∃O' σ' S'',S3 K mg O' σ' S'' σV' H'∧Gs O1 O' H1 H'∧Kp σ σ' σV σV'∧(fLoop B (ds.drop k) σ').run S''=.ok fl S',
  ⟨_,rfl,Nat.zero_le _,O1,σ,S1,st1,Gs.refl _ _,Kp.refl _ _,h⟩,?_⟩
 rintro k m σV' H' ⟨rfl,hk,O',σ',S'',st',g',kp,h⟩
 cases e:ds.drop k with
 |nil=>
  have hl:ys.length≤k:=by
   have:=congrArg List.length e
   rw[List.length_drop,List.length_nil]at this
   rw[ra.len];omega
  rw[e]at h
  cases h
  exact .inl ⟨(its O' H' g' k).2 hl,q O' σV' H' (g1.gs.trans g') st' kp⟩
 |cons d ds'=>
  obtain⟨y,ey,ry,e'⟩:=(RepAll.gs g' ra).get' e
  have hlt:k<ys.length:=(List.getElem?_eq_some_iff.mp ey).1
  obtain⟨go,yl⟩:=(its O' H' g' k).1 hlt
  rw[e]at h
  obtain⟨f1,S2,h2,h⟩:=M.inv h
  refine .inr ⟨go,fun σV2 H2=>∃O2 σ2 S2,S3 K mg O2 σ2 S2 σV2 H2∧Gs O1 O2 H1 H2∧Kp σ σ2 σV σV2∧(fLoop B (ds.drop (k+1)) σ2).run S2=.ok fl S',?_,fun x H2 yy=>?_⟩
  ·rintro σV2 H2 ⟨O2,σ2,S2,a1,a2,a3,a4⟩
   exact⟨_,by omega,rfl,hlt,O2,σ2,S2,a1,a2,a3,a4⟩
  ·obtain⟨rfl,ex⟩:=yl x H2 yy
   rw[ey]at ex
   cases ex
   refine hG _ _ _ _ _ _ _ _ _ _ st' ry h2 fun σn σVn stn ks hb=>?_
   refine⟨O',σn,S'',f1,S2,stn,hb,?_⟩
   cases f1 with
   | nx σ2=>exact fun O2 σV2 H2 g2 st2 k2=>⟨O2,σ2,S2,st2,g'.trans g2,kp.trans (ks.trans k2),by rw[e'];exact h⟩
   | ct σ2=>exact fun O2 σV2 H2 g2 st2 k2=>⟨O2,σ2,S2,st2,g'.trans g2,kp.trans (ks.trans k2),by rw[e'];exact h⟩
   |bk σ2=>cases h;exact fun O2 σV2 H2 g2 st2 k2=>q O2 σV2 H2 (g1.gs.trans (g'.trans g2)) st2 (kp.trans (ks.trans k2))
   |rt r=>cases h;exact fun O2 v H2 g2 d2 e2 r2=>q O2 v H2 (g1.gs.trans (g'.trans g2)) d2 e2 r2
theorem for_read{K:FrgT}{mg:BinT}:∀D σV H,tsOf K mg (cFor i it b) D σV H→tFor (tfOf K mg it) (gName i) (tsOf K mg b) D σV H:=
 forG_read (B:=fun d σ=>b (σ.set i (.val d))) fun _ _ _ _ _ _ _ _ _ _ st ry h k=>k _ _ (st.val ry) (Kp.set fun xs z=>by cases z) h
theorem cs_for(hp:PassesOwn (model X.prog X.w) X.A X.env X.xe)(hc:X.calm=true)(hi:CIf X (.Name x tpos) iter it)(hN:X.N.Nodup)(hx:X.N[i]? = some x)(hl:Loc X.env.scope x)(hb:CSs X body b)
  (hs:∀x,foldedSetIterable iter X.env x=pure x:=by intro _;rfl) (hf:X.fn x=true∨X.env.scope.names.lookup x=some .local:=by first | exact .inl rfl | exact .inr rfl | assumption):CS X (.For (.Name x tpos) iter body [] pos) (cFor i it b):=
 ps_imp (ps_for hp hc hi (pg_name hN hx hl hf) hb hs) for_read
end
noncomputable def kLoop(t:En→M Bool)(el:ME)(σ:En):List D→M (List D)
 |[]=>pure []
 |d::ds=>do
  let b ←t (σ.set 0 (.val d))
  if b=true then do
   let r ←el (σ.set 0 (.val d))
   let x ←r.dat
   let xs ←kLoop t el σ ds
   pure (x::xs)
  else kLoop t el σ ds
noncomputable def cpSlot:Option Slot→Slot
 |some (.val d)=>.val d
 |some (.ow _ xs)=>.vw xs
 |some (.vw xs)=>.vw xs
 |some (.dct kvs)=>.vd kvs
 |some (.vd kvs)=>.vd kvs
 |some (.pd kvs)=>.vp kvs
 |some (.vp kvs)=>.vp kvs
 |_=>.emp
noncomputable def cpEn(n:Nat)(cap:List Nat)(σ:En):En:=List.replicate n .emp++cap.map fun k=>cpSlot σ[k]?
noncomputable def cComp(n:Nat)(cap:List Nat)(it:MI)(t:En→M Bool)(el:ME):ME:=fun σ=>do
 let ds ←it σ
 chk (ds.length<sizeLine)
 let xs ←kLoop t el (cpEn n cap σ) ds
 pure (.fr xs)
noncomputable def tYes:En→M Bool:=fun _=>pure true
abbrev CFs(X:Cx)(ifs:List Expr)(t:En→M Bool):Prop:=PIfs X ifs (ttOf X.K X.mg t)
theorem cfs_nil{X:Cx}:CFs X [] tYes:=by
 rintro pins s σ H Q I ⟨O,σ',S,b,S',st,h,q⟩
 cases h
 exact pf_nil pins s σ H Q I (q O H (Go.refl _ _) st)
theorem cfs_one{X:Cx}{c:Expr}{t:En→M Bool}(h:CT X c t):CFs X [c] t:=pf_one h
noncomputable def Own.blk:Own→Own
 |.loc _=>.out
 |.tr _ _=>.out
 |.tmp=>.out
 |o=>o
noncomputable def blk(O:Ow):Ow:=fun b=>(O b).blk
theorem blk_free{O:Ow}{b:Addr}:blk O b=.free↔O b=.free:=by unfold blk;cases O b<;>simp[Own.blk]
theorem blk_cases(O:Ow)(b:Addr):blk O b=.free∨blk O b=.out:=by unfold blk;cases O b<;>simp[Own.blk]
theorem blk_fre(O:Ow):Fre O (blk O):=⟨fun _ h=>blk_free.mpr h⟩
theorem LsV.blk{K:FrgT}{O:Ow}{H:Hp}{a:Addr}{ys:List V}(h:LsV K O H a ys):LsV K (blk O) H a ys:=by
 rcases h with⟨h,f⟩ | h
 ·refine .inl ⟨h,?_⟩
  rcases f with f | f
  ·exact .inl (blk_free.mpr f)
  ·exact .inr (by unfold L3.blk;rw[f];rfl)
 ·exact .inr h
theorem S3.blk{K:FrgT}{mg:BinT}{O:Ow}{σ:En}{S:Store}{σV:St}{H:Hp}(st:S3 K mg O σ S σV H)(n:Nat)(cap:List Nat):S3 K mg (blk O) (cpEn n cap σ) S (cpSt n cap σV) H:=by
 refine⟨⟨fun a ha=>st.dom.has a fun z=>ha (blk_free.mpr z),st.dom.tabs⟩,?_,fun i s e=>?_,st.emp⟩
 ·unfold cpEn cpSt
  rw[List.length_append,List.length_append,List.length_replicate,List.length_replicate,List.length_map,List.length_map]
 ·unfold cpEn at e
  unfold cpSt
  by_cases hi:i<n
  ·rw[List.getElem?_append_left (by simpa using hi),List.getElem?_replicate,if_pos hi]at e
   cases e
   exact trivial
  ·rw[List.getElem?_append_right (by simpa using hi),List.length_replicate,List.getElem?_map]at e
   rw[List.getElem?_append_right (by simpa using hi),List.length_replicate,List.getElem?_map]
   cases ec:cap[i-n]? with
   |none=>rw[ec]at e;cases e
   |some k=>
    rw[ec]at e
    have e':cpSlot σ[k]? = s:=Option.some.inj e
    show SlotR K mg _ H _ s (some (σV[k]?.join)).join
    cases es:σ[k]? with
    |none=>rw[es]at e';subst e';exact trivial
    |some s0=>
     rw[es]at e'
     have l:=st.loc k s0 es
     cases s0 with
     |emp=>subst e';exact trivial
     | dct _=>subst e';obtain⟨a,ys,q,o,l,r⟩:=l;exact⟨a,ys,q,⟨.inl l,.inr (by unfold L3.blk;rw[o];rfl)⟩,r.fre (blk_fre O)⟩
     | pd _=>subst e';obtain⟨a,ys,q,o,l,r⟩:=l;exact⟨a,ys,q,⟨.inl l,.inr (by unfold L3.blk;rw[o];rfl)⟩,r.1,r.2.fre (blk_fre O)⟩
     | vp _=>subst e';obtain⟨a,ys,q,l,r⟩:=l;exact⟨a,ys,q,⟨l.1,l.2.elim (fun f=>.inl (blk_free.mpr f)) fun f=>.inr (by unfold L3.blk;rw[f];rfl)⟩,r.1,r.2.fre (blk_fre O)⟩
     |tr _ _=>subst e';exact trivial
     | vd _=>subst e';obtain⟨a,ys,q,l,r⟩:=l;exact⟨a,ys,q,⟨l.1,l.2.elim (fun f=>.inl (blk_free.mpr f)) fun f=>.inr (by unfold L3.blk;rw[f];rfl)⟩,r.fre (blk_fre O)⟩
     |val d=>subst e';obtain⟨v,q,r⟩:=l;exact⟨v,q,r.fre (blk_fre O)⟩
     |vw xs=>subst e';obtain⟨a,ys,q,l,r⟩:=l;exact⟨a,ys,q,l.blk,r.fre (blk_fre O)⟩
     | ow p xs=>subst e';obtain⟨a,ys,q,o,l,r⟩:=l;exact⟨a,ys,q,.inl ⟨.inl l,.inr (by unfold L3.blk;rw[o];rfl)⟩,r.fre (blk_fre O)⟩
theorem S3.updT{K:FrgT}{mg:BinT}{O:Ow}{H:Hp}{l:Addr}{zs ws:List V}{σ:En}{S:Store}{σV:St}(st:S3 K mg O σ S σV H)(ho:O l=.tmp)(hl:H l=some (.lst zs)):S3 K mg O σ S σV (upd H l (.lst ws)):=by
 have ne:∀w:Own,w≠.tmp→O l≠w:=fun w hw z=>hw (z.symm.trans ho)
 exact⟨st.dom.updL hl,st.len,fun j t e=>(st.loc j t e).updL (ne _ (by intro z;cases z)) (ne _ (by intro z;cases z)) (ne _ (by intro z;cases z)) (fun p=>ne _ (by intro z;cases z)) hl,st.emp⟩
section
variable{K:FrgT}{mg:BinT}{n:Nat}{cap:List Nat}{it:MI}{t:En→M Bool}{el:ME}
inductive CompI(K:FrgT)(mg:BinT)(n:Nat)(cap:List Nat)(t:En→M Bool)(el:ME)(O1:Ow)(σ:En)(S':Store)(σV:St)(H1:Hp)(A:Addr)(ds xs:List L3.D)(k:Nat)(zs:List V)(H':Hp):Prop
 |mk (O':Ow) (S'':Store) (acc xs':List L3.D) (st':S3 K mg O' (cpEn n cap σ) S'' (cpSt n cap σV) H') (s':Same H1 H') (own':∀b,H1 b≠none→O' b=blk O1 b) (tD:O' A=.tmp) (hH:H' A=some (.lst zs)) (hz:zs.length≤k)
   (rz:RepAll K mg O' H' acc zs) (h:(kLoop t el (cpEn n cap σ) (ds.drop k)).run S''=.ok xs' S') (ex:acc++xs'=xs)
theorem comp_read(hn:0<n):∀σV H Q,teOf K mg (cComp n cap it t el) σV H Q→tComp n cap (tcOf K mg it) (gName 0) (ttOf K mg t) (teOf K mg el) σV H Q:=by
 rintro σV H Q ⟨O,σ,S,r,S',st,h,q⟩
 obtain⟨ds,S1,h1,h⟩:=M.inv h
 obtain⟨_,S2,h2,h⟩:=M.inv h
 obtain⟨hlen,rfl⟩:=chk_inv h2
 obtain⟨xs,S3',h3,h⟩:=M.inv h
 cases h
 refine⟨O,σ,S,ds,S1,st,h1,fun O1 H1 J ys g1 st1 its ra=>fun D hD=>?_⟩
 have stb:S3 K mg (updO (blk O1) D .tmp) (cpEn n cap σ) S1 (cpSt n cap σV) (upd H1 D (.lst [])):=(st1.blk n cap).new hD
 refine⟨fun k m zs H'=>m=ys.length-k∧k≤ys.length∧CompI K mg n cap t el O1 σ S' σV H1 D ds xs k zs H',
  ⟨_,rfl,Nat.zero_le _,_,S1,[],xs,stb,same_new hD _,fun b hb=>updO_ne (by rintro rfl;exact hb hD),updO_same,upd_same,Nat.le_refl _,rfl,h3,rfl⟩,?_⟩
 rintro k m zs H' ⟨rfl,hk,O',S'',acc,xs',st',s',own',tD,hH,hz,rz,h,ex⟩
 cases e:ds.drop k with
 |nil=>
  have hl:ys.length≤k:=by
   have:=congrArg List.length e
   rw[List.length_drop,List.length_nil]at this
   rw[ra.len];omega
  rw[e]at h
  cases h
  rw[List.append_nil]at ex
  subst ex
  refine .inl ⟨(its H' s' k).2 hl,?_⟩
  let Of:Ow:=fun b=>match H1 b with | none=>O' b | some _=>O1 b
  have ofOld:∀b,H1 b≠none→Of b=O1 b:=fun b hb=>by
   show(match H1 b with | none=>O' b | some _=>O1 b)=O1 b
   cases e:H1 b with
   |none=>exact absurd e hb
   |some _=>rfl
  have ofNew:∀b,H1 b=none→Of b=O' b:=fun b hb=>by
   show(match H1 b with | none=>O' b | some _=>O1 b)=O' b
   rw[hb]
  have fre:Fre O' Of:=⟨fun b hb=>by
    by_cases hb1:H1 b=none
    ·rw[ofNew b hb1];exact hb
    ·rw[ofOld b hb1];exact blk_free.mp ((own' b hb1).symm.trans hb)⟩
  have go:Go O1 Of H1 H':=⟨s',ofOld⟩
  have dom:Dom Of H':=⟨fun b hb=>by
   by_cases hb1:H1 b=none
   ·rw[ofNew b hb1]at hb;exact st'.dom.has b hb
   ·exact s'.some hb1,st'.dom.tabs⟩
  have eS:S1=S':=st1.emp.trans st'.emp.symm
  subst eS
  refine q Of (.ref D) H' (g1.trans go) (st1.go go dom) ⟨D,zs,rfl,hH,(ofNew D hD).trans tD,rz.fre fre⟩ fun a ea=>?_
  cases ea
  exact g1.same.free hD
 |cons d ds'=>
  have raK:RepAll K mg O' H' ds ys:=(ra.fre (blk_fre O1)).go ⟨s',own'⟩
  obtain⟨y,ey,ry,e'⟩:=raK.get' e
  have hlt:k<ys.length:=(List.getElem?_eq_some_iff.mp ey).1
  obtain⟨go,yl⟩:=(its H' s' k).1 hlt
  rw[e]at h
  obtain⟨b,S2,h2,h⟩:=M.inv h
  refine .inr ⟨go,fun x H2 yy=>?_⟩
  obtain⟨eH,exx⟩:=yl x H2 yy
  have eH':=eH.symm
  subst eH'
  rw[ey]at exx
  cases exx
  have h0:(cpSt n cap σV)[0]? = some none:=by
   cases n with
   |zero=>exact absurd hn (Nat.lt_irrefl _)
   |succ j=>rfl
  refine⟨(Fgt.refl _).set h0,O',_,S'',b,S2,st'.val ry,h2,fun O2 H3 g2 st2=>?_⟩
  cases b with
  |false=>
   rw[if_neg Bool.false_ne_true]at h
   refine iteF ⟨ys.length-(k+1),by omega,rfl,hlt,O2,S2,acc,xs',?_,s'.trans g2.same,fun b hb=>(g2.own b (s'.some hb)).trans (own' b hb),(g2.own D (by rw[hH];intro z;cases z)).trans tD,g2.same.at' _ _ hH,by omega,rz.go g2,by rw[e'];exact h,ex⟩
   have eS:S''=S2:=st'.emp.trans st2.emp.symm
   exact eS▸st'.go g2 st2.dom
  |true=>
   rw[if_pos rfl]at h
   obtain⟨r,S4,h4,h⟩:=M.inv h
   obtain⟨x,S5,h5,h⟩:=M.inv h
   obtain⟨xs2,S6,h6,h⟩:=M.inv h
   cases h
   refine iteT ⟨O2,_,S2,r,S4,st2,h4,fun O3 v H4 g3 st3 rr nn=>?_⟩
   obtain⟨rx,rfl⟩:=dat_rep (H₀:=H3) rr nn h5
   have G:Go O' (frz H3 O3) H' H4:=g2.trans g3.frz
   have hD4:H4 D=some (.lst zs):=G.same.at' _ _ hH
   have tD4:frz H3 O3 D=.tmp:=(G.own D (by rw[hH];intro z;cases z)).trans tD
   have eS:S''=S4:=st'.emp.trans st3.emp.symm
   refine⟨hD4,by rw[ra.len]at hlt;omega,ys.length-(k+1),by omega,rfl,hlt,frz H3 O3,S4,acc++[x],xs2,?_,upd_over hD (s'.trans G.same) hD4 _,fun b hb=>(G.own b (s'.some hb)).trans (own' b hb),tD4,upd_same,
    by rw[List.length_append,List.length_singleton];omega,((rz.go G).append (.one rx)).updL (by rw[tD4];intro z;cases z) hD4,by rw[e'];exact h6,by rw[List.append_assoc];exact ex⟩
   exact eS▸(st'.go G (st3.frz H3).dom).updT tD4 hD4
end
section
variable{X:Cx}{scope esc:Scope}{EN N:List Str}{n:Nat}{cap:List Nat}{elt iter:Expr}{ifs:List Expr}{pos tpos:Pos}{x:Str}{it:MI}{t:En→M Bool}{el:ME}
theorem ce_comp(S:CpScope esc scope EN N n cap)(hn:0<n)(hi:CIc X (.Name x tpos) iter it)(hx:N[0]? = some x)(hlx:∀C fp s H,Loc (cxComp X scope N C fp s H).env.scope x∧(cxComp X scope N C fp s H).env.scope.names.lookup x=some .local)
  (ht:∀C fp s H,CFs (cxComp X scope N C fp s H) ifs t) (hel:∀C fp s H,CE (cxComp X scope N C fp s H) elt el)
  (he:X.env.scope=esc:=by rfl) (hN:X.N=EN:=by rfl) (hc:X.calm=true:=by rfl) (hs:∀x,foldedSetIterable iter X.env x=pure x:=by intro _;rfl):CE X (.ListComp elt [⟨.Name x tpos,iter,ifs,0⟩] scope pos) (cComp n cap it t el):=
 pe_imp (pe_comp (wi:=tcOf X.K X.mg it) (g:=gName 0) (tt:=ttOf X.K X.mg t) (te:=teOf X.K X.mg el) S hi (fun C fp s H=>pg_name S.nd hx (hlx C fp s H).1 (.inr (hlx C fp s H).2)) ht hel he hN hc hs) (comp_read hn)
end
noncomputable abbrev MF:=List D→M R
noncomputable def ArgR(K:FrgT)(mg:BinT)(O:Ow)(H:Hp):D→V→Prop
 |.lst xs,v=>∃a ys,v=.ref a∧SqL K H a ys∧RepAll K mg O H xs ys
 |.dic ks vs,v=>∃a kvv,v=.ref a∧Rd H a (.dK kvv)∧RepKV K mg O H (ks.zip vs) kvv
 |d,v=>Rep K mg O H d v
noncomputable def ArgAll(K:FrgT)(mg:BinT)(O:Ow)(H:Hp):List D→List V→Prop
 |[],ys=>ys=[]
 |x::xs,ys=>∃y r,ys=y::r∧ArgR K mg O H x y∧ArgAll K mg O H xs r
theorem zip_un{α β:Type}:∀l:List (α×β),(l.map (·.1)).zip (l.map (·.2))=l
 |[]=>rfl
 | x::l=>by rw[List.map_cons,List.map_cons,List.zip_cons_cons,zip_un l]
noncomputable def slotOf:D→Slot
 |.lst xs=>.vw xs
 |.dic ks vs=>.vd (ks.zip vs)
 |d=>.val d
theorem arg_of{K:FrgT}{mg:BinT}{O:Ow}{H:Hp}{r:R}{v:V}(h:RepR K mg O H r v):ArgR K mg O H r.arg v:=by
 match r,h with
 |.v (.lst xs),h=>obtain⟨a,ys,q,l,r⟩:=h;exact⟨a,ys,q,l.sq,r⟩
 |.fr xs,h=>obtain⟨a,ys,q,l,_,r⟩:=h;exact⟨a,ys,q,SqL.of l,r⟩
 |.vw xs,h=>obtain⟨a,ys,q,l,r⟩:=h;exact⟨a,ys,q,l.sq,r⟩
 |.mv xs,h=>obtain⟨a,ys,q,l,r⟩:=h;exact⟨a,ys,q,SqL.of l,r⟩
 |.v .non,h=>exact h
 |.v (.bl _),h=>exact h
 |.v (.int _),h=>exact h
 |.v (.str _),h=>exact h
 |.v (.tup _),h=>exact h
 |.v (.dic _ _),h=>exact False.elim h
 | .dv kvs,h=>obtain⟨a,kvv,q,l,r⟩:=h;exact⟨a,kvv,q,l,by rw[zip_un];exact r⟩
 |.v (.fn _),h=>exact h
 |.v (.ty _),h=>exact h
theorem args_of{K:FrgT}{mg:BinT}{O:Ow}{H:Hp}:∀{rs:List R}{vs:List V},RepRs K mg O H rs vs→ArgAll K mg O H (rs.map R.arg) vs
 |[],_,h=>h
 | _::_,_,h=>by obtain⟨y,r,q,a,b⟩:=h;exact⟨y,r,q,arg_of a,args_of b⟩
theorem ArgAll.len{K:FrgT}{mg:BinT}{O:Ow}{H:Hp}:∀{ds:List D}{vs:List V},ArgAll K mg O H ds vs→vs.length=ds.length
 | [],_,h=>by cases h;rfl
 | _::_,_,h=>by obtain⟨x,r,rfl,_,b⟩:=h;rw[List.length_cons,List.length_cons,ArgAll.len b]
theorem ArgAll.get{K:FrgT}{mg:BinT}{O:Ow}{H:Hp}:∀{ds:List D}{xs:List V}{i:Nat}{d:D},ArgAll K mg O H ds xs→ds[i]? = some d→∃x,xs[i]? = some x∧ArgR K mg O H d x
 | [],_,_,_,_,e=>by simp at e
 | _::_,_,0,d,h,e=>by obtain⟨x,r,rfl,a,_⟩:=h;cases(show some _=some d from e);exact⟨x,rfl,a⟩
 |_::ds,_,i+1,d,h,e=>by
  obtain⟨x,r,rfl,_,b⟩:=h
  obtain⟨y,e1,e2⟩:=ArgAll.get (i:=i) b (by simpa using e)
  exact⟨y,by simpa using e1,e2⟩
noncomputable def spF(K:FrgT)(mg:BinT)(mf:MF):Sp:=fun vs H Q _=>∃O ds r S',Dom O H∧ArgAll K mg O H ds vs∧(mf ds).run []=.ok r S'∧∀O' v H',Go O O' H H'→Dom O' H'→S'=[]→RepR K mg O' H' r v→NewR H r v→Q v H'
noncomputable def cCall(mf:MF)(ms:MA):ME:=fun σ=>do
 let rs ←ms σ
 mf (rs.map R.arg)
section
variable{X:Cx}{x:Str}{ps:List Str}{k:Nat}{mf:MF}{p pos:Pos}{e:Expr}{es:List Expr}{ms:MA}
theorem call_read{K:FrgT}{mg:BinT}:∀σV H Q,teOf K mg (cCall mf ms) σV H Q→tFn (spF K mg mf) (taOf K mg ms) σV H Q:=by
 rintro σV H Q ⟨O,σ,S,r,S',st,h,q⟩
 obtain⟨rs,S1,h1,h⟩:=M.inv h
 refine⟨O,σ,S,rs,S1,st,h1,fun O1 vs H1 g1 st1 rr nn=>?_⟩
 have eS:=st1.emp
 subst eS
 refine⟨O1,_,r,S',st1.dom,args_of rr,h,fun O' v H' g d e r' n'=>q O' v H' (g1.trans g) ?_ r' (n'.back g1.same)⟩
 subst e
 exact st1.go g d
theorem ce_call(h:Has X.prog X.w X.K X.mg X.base x ps k (spF X.K X.mg mf))(hr:Room k X.A)(hg:Gl X x)(ha:CA X (e::es) ms)(hdb:(x==("__debug__":Str))=false:=by decide)
  (he:starEach (e::es) X.env=(false,eval e X.env)::starEach es X.env:=by rfl) (hpl:(backTo pos (starEach es X.env)).any (·.1)=false:=by rfl):CE X (.Call (.Name x p) (e::es) [] pos) (cCall mf ms):=
 pe_imp (pe_fn h hr hg ha hdb he hpl) call_read
theorem ce_call0(h:Has X.prog X.w X.K X.mg X.base x ps k (spF X.K X.mg mf))(hr:Room k X.A)(hg:Gl X x)(hdb:(x==("__debug__":Str))=false:=by decide):CE X (.Call (.Name x p) [] [] pos) (cCall mf cNil):=
 pe_imp (pe_fn0 h hr hg hdb) fun σV H Q h=>by
  obtain⟨O,σ,S,rs,S1,st,h1,q⟩:=call_read σV H Q h
  cases h1
  exact q O [] H (Go.refl _ _) st rfl trivial
end
noncomputable def fnOf(n N:Nat)(b:MS):MF:=fun ds=>if ds.length=n then do
  let fl ←b (ds.map slotOf++List.replicate (N-n) .emp)
  match fl with
  |.rt (.v d)=>pure (.v d)
  |.rt (.fr xs)=>pure (.fr xs)
  |.nx _=>pure (.v .non)
  |_=>bad
 else bad
theorem slot_arg{K:FrgT}{mg:BinT}{O:Ow}{H:Hp}{w:Own}{d:D}{v:V}(h:ArgR K mg O H d v):SlotR K mg (blk O) H w (slotOf d) (some v):=by
 have val:Rep K mg O H d v→SlotR K mg (blk O) H w (.val d) (some v):=fun h=>⟨v,rfl,h.fre (blk_fre O)⟩
 match d,h,val with
 |.lst xs,h,_=>
  obtain⟨a,ys,rfl,l,r⟩:=h
  exact⟨a,ys,rfl,l.imp (fun z=>⟨z,blk_cases O a⟩) id,r.fre (blk_fre O)⟩
 |.non,h,val=>exact val h
 |.bl _,h,val=>exact val h
 |.int _,h,val=>exact val h
 |.str _,h,val=>exact val h
 |.tup _,h,val=>exact val h
 |.dic ks vs,h,_=>obtain⟨a,kvv,rfl,l,r⟩:=h;exact⟨a,kvv,rfl,⟨l,blk_cases O a⟩,r.fre (blk_fre O)⟩
 |.fn _,h,val=>exact val h
 |.ty _,h,val=>exact val h
omit [L2.TabP]in
theorem fnOf_len{n N:Nat}{b:MS}{ds:List D}{S S':Store}{r:R}(h:(fnOf n N b ds).run S=.ok r S'):ds.length=n:=by
 unfold fnOf at h
 by_cases c:ds.length=n
 ·exact c
 ·rw[if_neg c]at h;cases h
theorem body_read{K:FrgT}{mg:BinT}{ps N:List Str}{mb:MS}{vs:List V}{H:Hp}{Q:VK}{E:XK}(hsp:spF K mg (fnOf ps.length N.length mb) vs H Q E):tsOf K mg mb { nx:=fun _ H'=>Q .non H',rt:=Q } (L2.start N vs) H:=by
 obtain⟨O,ds,r,S',dm,ar,h,q⟩:=hsp
 have hl:=fnOf_len h
 have hlv:=ar.len
 unfold fnOf at h
 rw[if_pos hl]at h
 obtain⟨fl,S1,h1,h⟩:=M.inv h
 have st0:S3 K mg (blk O) (ds.map slotOf++List.replicate (N.length-ps.length) .emp) [] (L2.start N vs) H:=by
  refine⟨⟨fun a ha=>dm.has a fun z=>ha (blk_free.mpr z),dm.tabs⟩,?_,fun i s e=>?_,rfl⟩
  ·unfold L2.start
   rw[List.length_append,List.length_append,List.length_map,List.length_map,List.length_replicate,List.length_replicate,hlv,hl]
  ·by_cases hi:i<ds.length
   ·rw[List.getElem?_append_left (by rw[List.length_map];exact hi),List.getElem?_map]at e
    cases ed:ds[i]? with
    |none=>rw[ed]at e;cases e
    |some d=>
     rw[ed]at e
     cases e
     obtain⟨v,ev,rv⟩:=ar.get ed
     unfold L2.start
     rw[List.getElem?_append_left (by rw[List.length_map,hlv];exact hi),List.getElem?_map,ev]
     exact slot_arg rv
   ·rw[List.getElem?_append_right (by rw[List.length_map];omega),List.getElem?_replicate]at e
    split at e
    ·cases e;exact trivial
    ·cases e
 have old:∀b,H b≠none→blk O b=.free∨blk O b=.out:=fun b _=>blk_cases O b
 have back:∀{O':Ow}{H':Hp},Gs (blk O) O' H H'→Dom O' H'→∃O2:Ow,Go O O2 H H'∧Dom O2 H'∧Fre O' O2∧∀b,(O' b=.tmp∨∃i,O' b=.loc i)→H b=none∧O2 b=.tmp:=fun{O' H'} g d=>by
  refine⟨fun b=>match H b with | some _=>O b | none=>(match O' b with | .loc _=>.tmp | o=>o),⟨⟨fun b o e n=>g.cells b o e ((old b (by rw[e];intro z;cases z)).elim .inl fun z=>.inr (.inl z)) n,g.tb,g.gd⟩,fun b hb=>?_⟩,⟨fun b hb=>?_,d.tabs⟩,⟨fun b hb=>?_⟩,fun b hb=>?_⟩
  ·cases e:H b with
   |none=>exact absurd e hb
   |some o=>rfl
  ·cases e:H b with
   | some o=>exact g.has b (by rw[e];intro z;cases z)
   |none=>
    rw[e]at hb
    refine d.has b fun z=>hb ?_
    dsimp only
    rw[z]
  ·cases e:H b with
   |some o=>
    dsimp only
    have:=(g.own b (by rw[e];intro z;cases z) (blk_cases O b)).symm.trans hb
    exact blk_free.mp this
   |none=>
    dsimp only
    rw[hb]
  ·have hn:H b=none:=by
    cases e:H b with
    |none=>rfl
    |some o=>
     exfalso
     have q1:=g.own b (by rw[e];intro z;cases z) (blk_cases O b)
     rcases blk_cases O b with z | z<;>rw[z]at q1<;>rcases hb with w | ⟨i,w⟩<;>rw[q1]at w<;>cases w
   refine⟨hn,?_⟩
   dsimp only
   rw[hn]
   rcases hb with w | ⟨i,w⟩<;>rw[w]
 refine⟨blk O,_,[],fl,S1,st0,h1,?_⟩
 cases fl with
 |nx σ'=>
  cases h
  intro O' σV' H' g st' _
  obtain⟨O2,g2,d2,f2,_⟩:=back g st'.dom
  exact q O2 .non H' g2 d2 st'.emp rfl trivial
 |bk σ'=>cases h
 |ct σ'=>cases h
 |rt r'=>
  intro O' v H' g d eS rr
  obtain⟨O2,g2,d2,f2,t2⟩:=back g d
  cases r' with
  |v dd=>cases h;exact q O2 v H' g2 d2 eS (Rep.fre f2 rr) trivial
  |fr xs=>
   cases h
   obtain⟨a,ys,rfl,l,t,ra⟩:=rr
   obtain⟨hn,ht⟩:=t2 a t
   exact q O2 _ H' g2 d2 eS ⟨a,ys,rfl,l,ht,ra.fre f2⟩ fun b eb=>by cases eb;exact hn
  |vw xs=>exact False.elim rr
  |mv xs=>exact False.elim rr
  |dv _=>exact False.elim rr
theorem fn_sim{P:Program}{w:World}{K:FrgT}{mg:BinT}{base:Heap}{x qual:Str}{st:Stmt}{ps N:List Str}{k:Nat}{mb:MS}{f:Addr}{fd:FuncData}{n nl:Nat}(F:Fun K x qual st f fd)(Sc:FnScope N ps (defScope st))(hn:ps.length=n)(hl:N.length=nl)
  (hb:∀(cdv:Value)(A:Around)(outer:List Env)(s:Shared)(H:Hp)(E:XK),Room k (A.deeper (PyProof.Rows.envOfC qual (defScope st) s.heap.objs.size f cdv))→
   CSs (cxOf CX0 P w K mg base N qual (defScope st) f cdv A outer s H E).nox (defBody st) mb):FnOk P w K mg base CX0 (k+1) f fd ps (spF K mg (fnOf n nl mb)):=by
 subst hn hl
 exact F.ok Sc (fun vs H Q E ⟨O,ds,r,S',dm,ar,h,q⟩=>ar.len.trans (fnOf_len h)) fun cdv A outer s H vs Q E hr hsp=>⟨_,hb cdv A outer s H E hr,body_read hsp⟩
theorem has_of{P:Program}{w:World}{K:FrgT}{mg:BinT}{base:Heap}{x:Str}{st:Stmt}{ps N:List Str}{k:Nat}{mb:MS}{n nl:Nat}(Df:Df K mg x st ps)(Sc:FnScope N ps (defScope st))(hn:ps.length=n)(hl:N.length=nl)
  (hb:∀(f:Addr)(cdv:Value)(A:Around)(outer:List Env)(s:Shared)(H:Hp)(E:XK),Room k (A.deeper (PyProof.Rows.envOfC x (defScope st) s.heap.objs.size f cdv))→
   CSs (cxOf CX0 P w K mg base N x (defScope st) f cdv A outer s H E).nox (defBody st) mb):Has P w K mg base x ps (k+1) (spF K mg (fnOf n nl mb)):=by
 obtain⟨f,fd,F,b,m⟩:=Df.ex
 exact⟨f,fd,fn_sim F Sc hn hl (fun cdv=>hb f cdv),b,F.kp,m⟩
theorem law_of{P:Program}{w:World}{K:FrgT}{mg:BinT}{base:Heap}{f:Addr}{fd:FuncData}{k:Nat}{mf:MF}(F:FnOk P w K mg base CX0 k f fd ["script"] (spF K mg mf))
  (h:∀ns:List Int,ns.length≤63→∃S',(mf [.lst (ns.map D.int)]).run []=.ok (.v (.bl true)) S') :
  FnOk P w K mg base CX0 k f fd ["script"] (fun vs H Q _=>∃(a:Addr)(ns:List Int),vs=[.ref a]∧SqL K H a (ns.map V.int)∧ns.length≤63∧TabsOk H∧∀H',Q (.bl true) H'):=by
 refine F.imp fun vs H Q E ⟨a,ns,e,hS,hn,tb,q⟩=>?_
 subst e
 obtain⟨S',h'⟩:=h ns hn
 refine⟨fun _=>.free,[.lst (ns.map D.int)],_,S',⟨fun a ha=>absurd rfl ha,tb⟩,⟨_,_,rfl,⟨a,_,rfl,hS,repAll_ints ns⟩,rfl⟩,h',fun O' v H' _ _ _ rr _=>?_⟩
 cases(show v=.bl true from rr)
 exact q H'
omit [L2.TabP]in
theorem df_mk{K:FrgT}{h:Heap}{mg:BinT}{x:Str}{st:Stmt}{f:Addr}{ps:List Str}{od an:Option Addr}{sl:Array (Option Value)}{oc kV dc pm cd ct:Value}(X:K.In h)(G:h.Ns mainGlobals mg)
  (a:W.nsIn K mainGlobals x=some (some (.ref f))) (l:K.lookup f=some ⟨oc,od,.func (W.fnOf x x (defArgs st) (defBody st) (defScope st) .none kV dc pm an cd ct),sl⟩) (c:W.codeIn K cd x=true) (k:W.keepIn K (.ref f)=true)
  (hb:∀(kV doc pm:Value)(an:Option Addr)(cdv ct:Value)(us:List Value),us.length=ps.length→bindArgs (W.fnOf x x (defArgs st) (defBody st) (defScope st) .none kV doc pm an cdv ct) ⟨us,[]⟩=pure (ps.zip us)):Df K mg x st ps:=
 ⟨f,_,fun_mk (st:=st) l c k,(fun_mk (st:=st) l c k).binds hb,W.mg_of X G a⟩
noncomputable abbrev spLaw(K:FrgT):Sp:=fun vs H Q _=>∃(a:Addr)(ns:List Int),vs=[.ref a]∧SqL K H a (ns.map V.int)∧ns.length≤63∧TabsOk H∧∀H',Q (.bl true) H'
theorem all_mk{l:W.OpenLaw}{w:World}{K:FrgT}{mg:BinT}{fa:Addr}{k:Nat}{st:Stmt}{mf:MF}(hfa:mg "law"=some (.ref fa))(Dl:Df K mg "law" st ["script"])
  (hb:∀(kV doc pm:Value)(an:Option Addr)(cdv ct v:Value),bindArgs (W.fnOf "law" "law" (defArgs st) (defBody st) (defScope st) .none kV doc pm an cdv ct) ⟨[v],[]⟩=pure [(("script":Str),v)])
  (ht:∀ns:List Int,ns.length≤63→∃S',(mf [.lst (ns.map D.int)]).run []=.ok (.v (.bl true)) S')
  (ok:∀(base:Heap)(f:Addr)(fd:FuncData),Fun K "law" "law" st f fd→FnOk l.prog w K mg base CX0 k f fd ["script"] (spF K mg mf)) :
  ∃fd:FuncData,(∀(s:Shared)(v:Value),BindsTo s fd ⟨[v],[]⟩ [("script",v)])∧∀base:Heap,K.In base→base.Ns mainGlobals mg→FnOk l.prog w K mg base CX0 k fa fd ["script"] (spLaw K):=by
 obtain⟨f,fd,F,b,m⟩:=Dl.ex
 have e:Value.ref fa=Value.ref f:=Option.some.inj (hfa.symm.trans m)
 cases e
 refine⟨fd,fun s v=>?_,fun base _ _=>law_of (ok base fa fd F) ht⟩
 obtain⟨oc,od,kV,doc,pm,an,cdv,ct,osl,rfl,lk,hcd⟩:=F.ex
 exact .of_eq (hb kV doc pm an cdv ct v)
theorem walk{l:W.OpenLaw}{q:Program}{k:Nat}{loose:List Str}{XP:(Str→Option Value)→Heap→Prop}{YP:World→Heap→Prop}{d:DefRec}{K:Params→FrgT}(hn:l.most=some 63)(hdf:d.params.defaults=[])(hr:Room k callerA)(hT:∀P,¬TabP.tp P)
  (hY:∀(w:World)(h:Heap),YP w h→(K w.params).In h)
  (F:∀(w:World)(mg:BinT)(fa:Addr)(h:Heap),(K w.params).In h→h.Ns mainGlobals mg→mg d.name=some (.ref fa)→
   ∃fd:FuncData,(∀(s:Shared)(u:Value),BindsTo s fd ⟨[u],[]⟩ [("script",u)])∧∀base:Heap,(K w.params).In base→base.Ns mainGlobals mg→FnOk l.prog w (K w.params) mg base CX0 k fa fd ["script"] (spLaw (K w.params))) :
  W.WalkO q loose XP YP l.row.toRowW d [] (fun f vs=>PySem.call f vs):=
 L2.walk_of (n:=63) (k:=k) (x:="script") (CX:=fun _=>CX0) (sp:=fun w=>spLaw (K w.params)) hn (by decide) hdf hr hY F (fun _ _ a ns hl _ hS=>⟨a,ns,rfl,hS,hl,fun P hP=>(hT P hP).elim,fun _=>rfl⟩) fun _ _ _ _ _ z=>z
noncomputable abbrev BIG:Nat:=10715086071862673209484250490600018105614048117055336074437503883703510511249361224931983788156958581275946729175531468251871452856923140435984577574698574803934567774824230985421074605062371141877954182153046474983581941267398767559165543946077062914571196477686542167660429831652624386837205668069376
omit [L2.TabP]in
theorem big_eq:BIG=2 ^ 1000:=by decide +kernel
omit [L2.TabP]in
theorem natBits{i:Int}(h:i.natAbs<BIG):Builtin.Int.intBits i≤1000:=by
 unfold Builtin.Int.intBits
 split
 ·exact Nat.zero_le _
 ·rename_i hz
  have:i.natAbs.log2<1000:=(Nat.log2_lt (by simpa using hz)).mpr (big_eq▸h)
  omega
def CMulB(i j:Int):Prop:=(-(2 ^ 64)<i∧i<2 ^ 64)∨(-(2 ^ 64)<j∧j<2 ^ 64)∨(i.natAbs<BIG∧j.natAbs<BIG)
omit [L2.TabP]in
theorem CMulB.ok{i j:Int}(h:CMulB i j):IntMulOk i j:=by
 rcases h with h | h | h
 ·exact(show CMul i j from .inl h).ok
 ·exact(show CMul i j from .inr h).ok
 ·have h1:=natBits h.1
  have h2:=natBits h.2
  have hb:Builtin.Int.intTooBig (Builtin.Int.intBits i+Builtin.Int.intBits j)=false:=by
   unfold Builtin.Int.intTooBig
   refine decide_eq_false ?_
   have:(2000:Int)≤((bitsLine:Nat):Int):=by decide
   omega
  unfold IntMulOk
  rw[hb]
  simp
noncomputable instance (i j:Int):Decidable (CMulB i j):=by unfold CMulB;exact inferInstance
theorem op_mulB{X:Cx}:OpR X (binaryOp .Mult) (rI CMulB fun i j=>.int (i*j)):=opI fun _ _ _ _ _ _ _ hc q=>PyProof.Rows.mul_int q hc.ok
noncomputable abbrev oMulB:=oI CMulB (· * ·)
theorem bMulB{X:Cx}:Bin X.K X.mg (rI CMulB fun i j=>.int (i*j)) oMulB:=bin_I fun _ _ h=>h
def CDivB(_ j:Int):Prop:=0<j∧j.natAbs<BIG
noncomputable instance (i j:Int):Decidable (CDivB i j):=by unfold CDivB;exact inferInstance
theorem op_fdivB{X:Cx}:OpR X (binaryOp .FloorDiv) (rI CDivB fun i j=>.int (i / j)):=opI fun i j _ _ _ _ _ hc q=>by
 have h1:(0:Int)<j:=hc.1
 have h2:j.natAbs<BIG:=hc.2
 refine PyProof.Rows.floordiv_int (by omega) (by rw[Int.fdiv_eq_ediv_of_nonneg i (by omega)];exact q) (.inl (PyProof.noPylong_of_log2 ?_))
 have:j.natAbs.log2<1000:=(Nat.log2_lt (by omega)).mpr (big_eq▸h2)
 omega
noncomputable abbrev oDivB:=oI CDivB (· / ·)
theorem bDivB{X:Cx}:Bin X.K X.mg (rI CDivB fun i j=>.int (i / j)) oDivB:=bin_I fun _ _ h=>h
noncomputable def oBits:R→M R
 |.v (.int i)=>pure (.v (.int (Builtin.Int.intBits i:Nat)))
 |_=>bad
section
variable{X:Cx}{a:Expr}{ma:ME}{apos cpos:Pos}
theorem ce_bits(ha:CE X a ma)(hbase:attributeBase a "bit_length" X.env (eval a X.env)=eval a X.env:=by rfl)(hline:(apos.endLine==cpos.line)=true:=by rfl):CE X (.Call (.Attribute a "bit_length" apos) [] [] cpos) (c1 oBits ma):=
 pe_imp (pe_bm0 PySem.F.plainAttrs_int PySem.F.slot_int_bit_length PySem.F.type_int_bit_length mt_bitlen ha hbase hline) fun σV H Q ⟨O,σ,S,r,S',st,h,q⟩=>by
  obtain⟨x,S1,h1,h⟩:=M.inv h
  unfold oBits at h
  split at h
  ·rename_i i
   cases h
   refine⟨O,σ,S,_,_,st,h1,fun O1 vx H1 g1 st1 rx nx=>?_⟩
   cases(show vx=.int i from rx)
   exact⟨rfl,i,rfl,rfl,q O1 _ H1 g1 st1 rfl trivial⟩
  ·cases h
end
structure Bl3(mg:BinT):Prop where
 len:mg "len"=none
 range:mg "range"=none
 isinstance:mg "isinstance"=none
 max:mg "max"=none
 min:mg "min"=none
 any:mg "any"=none
 all:mg "all"=none
 int':mg "int"=none
 bool':mg "bool"=none
 list':mg "list"=none
 tuple':mg "tuple"=none
 str':mg "str"=none
 abs:mg "abs"=none
 sorted:mg "sorted"=none
 sum:mg "sum"=none
 zip:mg "zip"=none
 enumerate:mg "enumerate"=none
 reversed:mg "reversed"=none
 set':mg "set"=none
omit [L2.TabP]in
theorem bt_abs:bootBuiltins "abs"=some (.builtin "abs"):=by decide +kernel
end L3
namespace L3
open PySem PySem.Spec L2
@[simp] theorem e_bad{α β:Type}(f:α→M β):(bad >>= f)=bad:=rfl
@[simp] theorem e_chk{p:Prop}[Decidable p]:chk p=if p then pure ()else bad:=rfl
@[simp] theorem e_var{i:Nat}{σ:En}:cVar i σ=match σ[i]? with
 |some (.val d)=>pure (.v d)
 |some (.ow _ xs)=>pure (.mv xs)
 |some (.vw xs)=>pure (.vw xs)
 |some (.dct kvs)=>pure (.dv kvs)
 |some (.vd kvs)=>pure (.dv kvs)
 |_=>bad:=rfl
@[simp] theorem e_K{d:D}{σ:En}:cK d σ=pure (.v d):=rfl
@[simp] theorem e_2{f:R→R→M R}{a b:ME}{σ:En}:c2 f a b σ=(do let x ←a σ;let y ←b σ;f x y):=rfl
@[simp] theorem e_1{f:R→M R}{a:ME}{σ:En}:c1 f a σ=(do let x ←a σ;f x):=rfl
@[simp] theorem e_tru{b:Bool}:R.tru (.v (.bl b))=pure b:=rfl
@[simp] theorem e_T{m:ME}{σ:En}:cT m σ=(do let x ←m σ;x.tru):=rfl
@[simp] theorem e_3{f g:R→R→M R}{a b c:ME}{σ:En}:c3 f g a b c σ=(do
 let x ←a σ
 let y ←b σ
 let z ←f x y
 let t ←z.tru
 if t=true then do
  let w ←c σ
  g y w
 else pure (.v (.bl false))):=rfl
@[simp] theorem e_and{a b:ME}{σ:En}:cAnd a b σ=(do
 let x ←a σ
 let t ←x.tru
 if t=true then b σ else pure (.v (.bl false))):=rfl
@[simp] theorem e_not{a:ME}{σ:En}:cNot a σ=(do
 let x ←a σ
 let t ←x.tru
 pure (.v (.bl (!t)))):=rfl
@[simp] theorem e_andM{a b:En→M Bool}{σ:En}:tAndM a b σ=(do
 let t ←a σ
 if t=true then b σ else pure false):=rfl
@[simp] theorem e_orM{a b:En→M Bool}{σ:En}:tOrM a b σ=(do
 let t ←a σ
 if t=true then pure true else b σ):=rfl
@[simp] theorem e_notM{a:En→M Bool}{σ:En}:tNotM a σ=(do
 let t ←a σ
 pure (!t)):=rfl
@[simp] theorem e_I0{g:Int→Int→Int}{i j:Int}:oI0 g (.v (.int i)) (.v (.int j))=pure (.v (.int (g i j))):=rfl
@[simp] theorem e_I{C:Int→Int→Prop}[∀i j,Decidable (C i j)]{g:Int→Int→Int}{i j:Int}:oI C g (.v (.int i)) (.v (.int j))=if C i j then pure (.v (.int (g i j)))else bad:=rfl
@[simp] theorem e_B{g:Int→Int→Bool}{i j:Int}:oB g (.v (.int i)) (.v (.int j))=pure (.v (.bl (g i j))):=rfl
@[simp] theorem e_neg{i:Int}:oNeg (.v (.int i))=pure (.v (.int (-i))):=rfl
@[simp] theorem e_bits{i:Int}:oBits (.v (.int i))=pure (.v (.int (Builtin.Int.intBits i:Nat))):=rfl
@[simp] theorem e_nil{σ:En}:cNil σ=pure []:=rfl
@[simp] theorem e_cons{m:ME}{ms:MA}{σ:En}:cCons m ms σ=(do
 let x ←m σ
 let xs ←ms σ
 pure (x::xs)):=rfl
@[simp] theorem e_datv{d:D}:R.dat (.v d)=pure d:=rfl
@[simp] theorem e_datf{xs:List D}:R.dat (.fr xs)=pure (.lst xs):=rfl
@[simp] theorem e_dats0:dats []=pure []:=rfl
@[simp] theorem e_dats{r:R}{rs:List R}:dats (r::rs)=(do
  let d ←r.dat
  let ds ←dats rs
  pure (d::ds)):=rfl
@[simp] theorem e_tup{ms:MA}{σ:En}:cTup ms σ=(do
 let rs ←ms σ
 let ds ←dats rs
 chk (ds.length≤1000)
 pure (.v (.tup ds))):=rfl
@[simp] theorem e_lst{ms:MA}{σ:En}:cLst ms σ=(do
 let rs ←ms σ
 let ds ←dats rs
 chk (ds.length≤1000)
 pure (.fr ds)):=rfl
@[simp] theorem e_cB{f:List R→M R}{ms:MA}{σ:En}:cB f ms σ=(do
 let rs ←ms σ
 f rs):=rfl
@[simp] theorem e_lisv{xs:List D}:R.lis (.v (.lst xs))=some xs:=rfl
@[simp] theorem e_lisf{xs:List D}:R.lis (.fr xs)=some xs:=rfl
@[simp] theorem e_lisw{xs:List D}:R.lis (.vw xs)=some xs:=rfl
@[simp] theorem e_lism{xs:List D}:R.lis (.mv xs)=some xs:=rfl
@[simp] theorem e_seqv{xs:List D}:R.seq (.v (.lst xs))=some xs:=rfl
@[simp] theorem e_seqt{xs:List D}:R.seq (.v (.tup xs))=some xs:=rfl
@[simp] theorem e_seqf{xs:List D}:R.seq (.fr xs)=some xs:=rfl
@[simp] theorem e_seqw{xs:List D}:R.seq (.vw xs)=some xs:=rfl
@[simp] theorem e_seqm{xs:List D}:R.seq (.mv xs)=some xs:=rfl
@[simp] theorem e_ownv{xs:List D}:R.own (.v (.lst xs))=some xs:=rfl
@[simp] theorem e_ownf{xs:List D}:R.own (.fr xs)=some xs:=rfl
@[simp] theorem e_ownm{xs:List D}:R.own (.mv xs)=some xs:=rfl
@[simp] theorem e_argv{d:D}:R.arg (.v d)=d:=rfl
@[simp] theorem e_argf{xs:List D}:R.arg (.fr xs)=.lst xs:=rfl
@[simp] theorem e_argw{xs:List D}:R.arg (.vw xs)=.lst xs:=rfl
@[simp] theorem e_argm{xs:List D}:R.arg (.mv xs)=.lst xs:=rfl
@[simp] theorem e_len{x:R}:fLen [x]=match x.seq with
  |some xs=>pure (.v (.int (xs.length:Nat)))
  |none=>bad:=rfl
@[simp] theorem e_kn:R.kind (.v .non)=some "NoneType":=rfl
@[simp] theorem e_kb{b:Bool}:R.kind (.v (.bl b))=some "bool":=rfl
@[simp] theorem e_ki{i:Int}:R.kind (.v (.int i))=some "int":=rfl
@[simp] theorem e_ks{x:Str}:R.kind (.v (.str x))=some "str":=rfl
@[simp] theorem e_kt{xs:List D}:R.kind (.v (.tup xs))=some "tuple":=rfl
@[simp] theorem e_kl{xs:List D}:R.kind (.v (.lst xs))=some "list":=rfl
@[simp] theorem e_kf{xs:List D}:R.kind (.fr xs)=some "list":=rfl
@[simp] theorem e_kw{xs:List D}:R.kind (.vw xs)=some "list":=rfl
@[simp] theorem e_km{xs:List D}:R.kind (.mv xs)=some "list":=rfl
@[simp] theorem e_isi{x:R}{n:String}:fIsi [x,.v (.ty n)]=match x.kind with
  |some t=>if n∈["int","bool","tuple","list","str"]then pure (.v (.bl (isiB t n)))else bad
  |none=>bad:=rfl
@[simp] theorem e_isiB{t n:String}:isiB t n=(t==n||(t == "bool"&&n == "int")):=rfl
@[simp] theorem e_2I{g:Int→Int→Int}{i j:Int}:f2I g [.v (.int i),.v (.int j)]=pure (.v (.int (g i j))):=rfl
@[simp] theorem e_abs{i:Int}:fAbs [.v (.int i)]=pure (.v (.int (if i<0 then -i else i))):=rfl
@[simp] theorem e_any{x:R}:fAny [x]=match x.lis.bind bls with
  |some bs=>pure (.v (.bl (bs.any id)))
  |none=>bad:=rfl
@[simp] theorem e_all{x:R}:fAll [x]=match x.lis.bind bls with
  |some bs=>pure (.v (.bl (bs.all id)))
  |none=>bad:=rfl
theorem bls_map{α:Type}(p:α→Bool):∀xs:List α,bls (xs.map fun x=>D.bl (p x))=some (xs.map p)
 |[]=>rfl
 | x::xs=>by rw[List.map_cons,List.map_cons,bls,bls_map p xs];rfl
@[simp] theorem e_tuple{x:R}:fTuple [x]=match x.seq with
  |some xs=>pure (.v (.tup xs))
  |none=>bad:=rfl
@[simp] theorem e_ixt{xs:List D}{i:Int}:oIx (.v (.tup xs)) (.v (.int i))=match atI xs i with
   |some d=>pure (.v d)
   |none=>bad:=rfl
@[simp] theorem e_ixl{xs:List D}{i:Int}:oIx (.v (.lst xs)) (.v (.int i))=match atI xs i with
   |some d=>pure (.v d)
   |none=>bad:=rfl
@[simp] theorem e_ixf{xs:List D}{i:Int}:oIx (.fr xs) (.v (.int i))=match atI xs i with
   |some d=>pure (.v d)
   |none=>bad:=rfl
@[simp] theorem e_ixw{xs:List D}{i:Int}:oIx (.vw xs) (.v (.int i))=match atI xs i with
   |some d=>pure (.v d)
   |none=>bad:=rfl
@[simp] theorem e_ixm{xs:List D}{i:Int}:oIx (.mv xs) (.v (.int i))=match atI xs i with
   |some d=>pure (.v d)
   |none=>bad:=rfl
theorem at_k{α:Type}{xs:List α}(k:Nat){v:α}(h:xs[k]? = some v):atI xs (k:Int)=some v:=atI_nat h
@[simp] theorem e_at0{α:Type}{x:α}{xs:List α}:atI (x::xs) 0=some x:=at_k 0 rfl
@[simp] theorem e_at1{α:Type}{x y:α}{xs:List α}:atI (x::y::xs) 1=some y:=at_k 1 rfl
@[simp] theorem e_at2{α:Type}{x y z:α}{xs:List α}:atI (x::y::z::xs) 2=some z:=at_k 2 rfl
@[simp] theorem e_at5{α:Type}{x y z w v u:α}{xs:List α}:atI (x::y::z::w::v::u::xs) 5=some u:=at_k 5 rfl
@[simp] theorem e_call{mf:MF}{ms:MA}{σ:En}:cCall mf ms σ=(do
 let rs ←ms σ
 mf (rs.map R.arg)):=rfl
@[simp] theorem e_pass{σ:En}:cPass σ=pure (.nx σ):=rfl
@[simp] theorem e_seqS{a b:MS}{σ:En}:cSeq a b σ=(do
 let fl ←a σ
 match fl with
 |.nx σ'=>b σ'
 | fl=>pure fl):=rfl
@[simp] theorem e_ret{m:ME}{σ:En}:cRet m σ=(do
 let r ←m σ
 match r with
 |.v d=>pure (.rt (.v d))
 |.fr xs=>pure (.rt (.fr xs))
 | _=>bad):=rfl
@[simp] theorem e_retO{i:Nat}{σ:En}:cRetO i σ=match σ[i]? with
 |some (.ow false xs)=>pure (.rt (.fr xs))
 |_=>bad:=rfl
@[simp] theorem e_ifS{t:En→M Bool}{a b:MS}{σ:En}:cIfS t a b σ=(do
 let t ←t σ
 if t=true then a σ else b σ):=rfl
@[simp] theorem e_set{i:Nat}{m:ME}{σ:En}:cSet i m σ=(do
 let r ←m σ
 let d ←r.dat
 pure (.nx (σ.set i (.val d)))):=rfl
@[simp] theorem e_own{i:Nat}{m:ME}{σ:En}:cOwn i m σ=(do
 let r ←m σ
 match r with
 |.fr xs=>pure (.nx (σ.set i (.ow false xs)))
 | _=>bad):=rfl
@[simp] theorem e_mut{i:Nat}{f:List D→List R→M (R×List D)}{ms:MA}{σ:En}:cMut i f ms σ=(do
 let rs ←ms σ
 match σ[i]? with
 |some (.ow p xs)=>do
  let(r,ys) ←f xs rs
  pure (r,σ.set i (.ow p ys))
 | _=>bad):=rfl
@[simp] theorem e_mutS{i:Nat}{f:List D→List R→M (R×List D)}{ms:MA}{σ:En}:cMutS i f ms σ=(do
 let(_,σ') ←cMut i f ms σ
 pure (.nx σ')):=rfl
@[simp] theorem e_append{xs:List D}{r:R}:uAppend xs [r]=(do
  let d ←r.dat
  chk (xs.length<sizeLine)
  pure (.v .non,xs++[d])):=rfl
@[simp] theorem e_extend{xs:List D}{r:R}:uExtend xs [r]=match r.own with
  |some ys=>do
   chk (xs.length+ys.length≤sizeLine)
   pure (.v .non,xs++ys)
  |none=>bad:=rfl
@[simp] theorem e_for{i:Nat}{it:MI}{b:MS}{σ:En}:cFor i it b σ=(do
 let ds ←it σ
 fLoop (fun d σ=>b (σ.set i (.val d))) ds σ):=rfl
@[simp] theorem e_iT{m:ME}{σ:En}:iT m σ=(do
 let r ←m σ
 match r with
 |.v (.tup xs)=>pure xs
 | _=>bad):=rfl
@[simp] theorem e_iL{m:ME}{σ:En}:iL m σ=(do
 let r ←m σ
 match r with
 |.v (.lst xs)=>pure xs
 |.fr xs=>pure xs
 |.vw xs=>pure xs
 | _=>bad):=rfl
@[simp] theorem e_iLc{m:ME}{σ:En}:iLc m σ=(do
 let r ←m σ
 match r.lis with
 |some xs=>pure xs
 | none=>bad):=rfl
@[simp] theorem e_iR1{m:MA}{σ:En}:iR1 m σ=(do
 let rs ←m σ
 match rs with
 |[.v (.int j)]=>if -(2 ^ 62)≤j∧j<2 ^ 62 then pure (rngD 0 j.toNat)else bad
 | _=>bad):=rfl
@[simp] theorem e_sl{a:ME}{lo hi:MO}{σ:En}:cSl a lo hi σ=(do
 let x ←a σ
 let l ←lo σ
 let h ←hi σ
 oSl x l h):=rfl
@[simp] theorem e_noPart{σ:En}:cNoPart σ=pure none:=rfl
@[simp] theorem e_part{m:ME}{σ:En}:cPart m σ=(do
 let r ←m σ
 match r with
 |.v (.int i)=>pure (some i)
 | _=>bad):=rfl
@[simp] theorem e_slf{xs:List D}{l h:Option Int}:oSl (.fr xs) l h=pure (.fr (cutD xs l h)):=rfl
@[simp] theorem e_slw{xs:List D}{l h:Option Int}:oSl (.vw xs) l h=pure (.fr (cutD xs l h)):=rfl
@[simp] theorem e_slm{xs:List D}{l h:Option Int}:oSl (.mv xs) l h=pure (.fr (cutD xs l h)):=rfl
@[simp] theorem e_sll{xs:List D}{l h:Option Int}:oSl (.v (.lst xs)) l h=pure (.fr (cutD xs l h)):=rfl
@[simp] theorem e_slt{xs:List D}{l h:Option Int}:oSl (.v (.tup xs)) l h=if HT.sIx xs.length 0 l=0∧HT.sIx xs.length xs.length h=xs.length then bad else pure (.v (.tup (cutD xs l h))):=rfl
@[simp] theorem e_comp{n:Nat}{cap:List Nat}{it:MI}{t:En→M Bool}{el:ME}{σ:En}:cComp n cap it t el σ=(do
 let ds ←it σ
 chk (ds.length<sizeLine)
 let xs ←kLoop t el (cpEn n cap σ) ds
 pure (.fr xs)):=rfl
@[simp] theorem e_cpEn{n:Nat}{cap:List Nat}{σ:En}:cpEn n cap σ=List.replicate n .emp++cap.map fun k=>cpSlot σ[k]?:=rfl
@[simp] theorem e_cpv{d:D}:cpSlot (some (.val d))=.val d:=rfl
@[simp] theorem e_cpo{p:Bool}{xs:List D}:cpSlot (some (.ow p xs))=.vw xs:=rfl
@[simp] theorem e_cpw{xs:List D}:cpSlot (some (.vw xs))=.vw xs:=rfl
@[simp] theorem e_yes{σ:En}:tYes σ=pure true:=rfl
@[simp] theorem e_isN{x:R}:oIsN x (.v .non)=pure (.v (.bl x.isN)):=rfl
@[simp] theorem e_notN{x:R}:oNotN x (.v .non)=pure (.v (.bl (!x.isN))):=rfl
@[simp] theorem e_isn:R.isN (.v .non)=true:=rfl
@[simp] theorem e_isni{i:Int}:R.isN (.v (.int i))=false:=rfl
@[simp] theorem e_isnt{xs:List D}:R.isN (.v (.tup xs))=false:=rfl
@[simp] theorem e_isnf{xs:List D}:R.isN (.fr xs)=false:=rfl
@[simp] theorem e_isns{x:Str}:R.isN (.v (.str x))=false:=rfl
@[simp] theorem e_eqii{i j:Int}:oEq (.v (.int i)) (.v (.int j))=pure (.v (.bl (i==j))):=rfl
@[simp] theorem e_neii{i j:Int}:oNe (.v (.int i)) (.v (.int j))=pure (.v (.bl (!(i==j)))):=rfl
theorem e_eq{x y:R}(hx:x.arg.gd 64=true)(hy:y.arg.gd 64=true):oEq x y=pure (.v (.bl (peq x.arg y.arg))):=if_pos ⟨hx,hy⟩
theorem e_ne{x y:R}(hx:x.arg.gd 64=true)(hy:y.arg.gd 64=true):oNe x y=pure (.v (.bl (!peq x.arg y.arg))):=if_pos ⟨hx,hy⟩
@[simp] theorem e_slotl{xs:List D}:slotOf (.lst xs)=.vw xs:=rfl
@[simp] theorem e_sloti{i:Int}:slotOf (.int i)=.val (.int i):=rfl
@[simp] theorem e_slott{xs:List D}:slotOf (.tup xs)=.val (.tup xs):=rfl
@[simp] theorem e_slots{x:Str}:slotOf (.str x)=.val (.str x):=rfl
@[simp] theorem e_slotn:slotOf .non=.val .non:=rfl
@[simp] theorem e_slotb{b:Bool}:slotOf (.bl b)=.val (.bl b):=rfl
@[simp] theorem e_fn{n N:Nat}{b:MS}{ds:List D}:fnOf n N b ds=if ds.length=n then(do
  let fl ←b (ds.map slotOf++List.replicate (N-n) .emp)
  match fl with
  |.rt (.v d)=>pure (.v d)
  |.rt (.fr xs)=>pure (.fr xs)
  |.nx _=>pure (.v .non)
  | _=>bad)else bad:=rfl
theorem fLoop_inv{b:D→MS}(I:Nat→En→Prop):∀(ds:List D)(k:Nat)(σ:En),I k σ→(∀i d σ,ds[i]? = some d→I (k+i) σ→∃σ',(b d σ=pure (.nx σ')∨b d σ=pure (.ct σ'))∧I (k+i+1) σ')→
  ∃σ',fLoop b ds σ=pure (.nx σ')∧I (k+ds.length) σ'
 |[],k,σ,h0,_=>⟨σ,rfl,h0⟩
 |d::ds,k,σ,h0,step=>by
  obtain⟨σ1,e,h1⟩:=step 0 d σ rfl h0
  obtain⟨σ2,e2,h2⟩:=fLoop_inv I ds (k+1) σ1 h1 fun i d' σ' hd hI=>by
   have:=step (i+1) d' σ' (by simpa using hd) (by rw[show k+(i+1)=k+1+i by omega];exact hI)
   rw[show k+(i+1)+1=k+1+i+1 by omega]at this
   exact this
  refine⟨σ2,?_,by rw[List.length_cons,show k+(ds.length+1)=k+1+ds.length by omega];exact h2⟩
  show(b d σ >>= _)=_
  rcases e with e | e<;>rw[e]<;>exact e2
theorem for_inv{b:D→MS}{ds:List D}{σ:En}(I:Nat→En→Prop)(h0:I 0 σ)(step:∀i d σ,ds[i]? = some d→I i σ→∃σ',(b d σ=pure (.nx σ')∨b d σ=pure (.ct σ'))∧I (i+1) σ') :
  ∃σ',fLoop b ds σ=pure (.nx σ')∧I ds.length σ':=by
 obtain⟨σ',e,h⟩:=fLoop_inv I ds 0 σ h0 fun i d σ hd hI=>by
  rw[Nat.zero_add]at hI ⊢
  exact step i d σ hd hI
 exact⟨σ',e,by rw[Nat.zero_add]at h;exact h⟩
theorem at_ints{ns:List Int}{k:Nat}(h:k<ns.length):atI (ns.map D.int) (k:Int)=some (.int (ns.getD k 0)):=by
 refine at_k k ?_
 rw[List.getElem?_map,List.getElem?_eq_getElem h]
 simp[List.getD_eq_getElem?_getD,h]
theorem mod_lt{a b:Int}(h:0<b):0≤a % b∧a % b<b:=⟨Int.emod_nonneg _ (by omega),Int.emod_lt_of_pos _ h⟩
theorem lt_big{i:Int}(h1:-(10 ^ 200)<i)(h2:i<10 ^ 200):i.natAbs<BIG:=by
 unfold BIG
 omega
theorem divB{i j:Int}(h1:0<j)(h2:j<10 ^ 200):CDivB i j:=⟨h1,lt_big (by omega) h2⟩
end L3
namespace L3
open PySem PySem.Spec L2
variable[L2.TabP]
noncomputable def ioEnd(σ':En):M (List D):=match(σ'[(0:Nat)]? : Option Slot)with
 |some (.ow true ys)=>pure ys
 |_=>bad
omit [L2.TabP]in
@[simp] theorem e_ioEnd{σ:En}:ioEnd σ=match(σ[(0:Nat)]? : Option Slot)with
 |some (.ow true ys)=>pure ys
 |_=>bad:=rfl
omit [L2.TabP]in
@[simp] theorem e_catL{x y:R}:oCatL x y=match x.own,y.own with
 |some xs,some ys=>if xs.length+ys.length≤sizeLine then pure (.fr (xs++ys))else bad
 |_,_=>bad:=rfl
omit [L2.TabP]in
@[simp] theorem s_div{i j:Int}(h1:0<j)(h2:j<10 ^ 200):CDivB i j:=divB h1 h2
omit [L2.TabP]in
theorem atI_mem{α:Type}{xs:List α}{i:Int}{v:α}(h:atI xs i=some v):v∈xs:=by
 obtain⟨j,_,e,_⟩:=atI_get h
 exact List.mem_of_getElem? e
omit [L2.TabP]in
theorem atI_some{α:Type}{xs:List α}{i:Int}(h0:0≤i)(h1:i<xs.length):∃v,atI xs i=some v:=by
 have hl:i.toNat<xs.length:=by omega
 refine⟨xs[i.toNat],?_⟩
 have:=at_k (xs:=xs) i.toNat (v:=xs[i.toNat]) (by simp[hl])
 rwa[Int.toNat_of_nonneg h0]at this
noncomputable def setsD:List Nat→List D→En→En
 |i::is,d::ds,σ=>setsD is ds (σ.set i (.val d))
 |_,_,σ=>σ
noncomputable def gNames:List Nat→TGs
 |[]=>gNil
 |i::is=>gCons (gName i) (gNames is)
noncomputable def cUnp(is:List Nat)(m:ME):MS:=fun σ=>do
 let r ←m σ
 match r with
 |.v (.tup ds)=>if ds.length=is.length then pure (.nx (setsD is ds σ))else bad
 |_=>bad
theorem unp_sim{K:FrgT}{mg:BinT}{O:Ow}{S:Store}{H:Hp}:∀{is:List Nat}{ds:List D}{xs:List V}{σ:En}{σV:St}{Q:St→Hp→Prop},S3 K mg O σ S σV H→RepAll K mg O H ds xs→ds.length=is.length→
  (∀σV',S3 K mg O (setsD is ds σ) S σV' H→Kp σ (setsD is ds σ) σV σV'→Q σV' H)→gNames is xs σV H Q
 |[],[],xs,σ,σV,Q,st,ra,hl,q=>⟨ra,q σV st (Kp.refl _ _)⟩
 | [],_::_,xs,σ,σV,Q,st,ra,hl,q=>by cases hl
 | _::_,[],xs,σ,σV,Q,st,ra,hl,q=>by cases hl
 |i::is,d::ds,xs,σ,σV,Q,st,ra,hl,q=>by
  obtain⟨y,r,e,ry,rr⟩:=ra
  refine⟨y,r,e,?_⟩
  exact unp_sim (is:=is) (st.val ry) rr (by simpa using hl) fun σV' st' k=>q σV' st' (Kp.trans (Kp.set fun xs z=>by cases z) k)
section
variable{X:Cx}{pos tpos:Pos}{is:List Nat}{e:Expr}{m:ME}{es:List Expr}{k:Nat}{iter:Expr}{it:MI}{body:List Stmt}{b:MS}
theorem pgs_names_cons{i:Nat}{x:Str}{p:Pos}(hN:X.N.Nodup)(hi:X.N[i]? = some x)(hx:Loc X.env.scope x)(h:PGs X es (gNames is))(hs:(assignEach (.Name x p::es) X.env).map (·.2)=assign (.Name x p) X.env::(assignEach es X.env).map (·.2):=by rfl)
  (hf:X.fn x=true∨X.env.scope.names.lookup x=some .local:=by first | exact .inl rfl | exact .inr rfl | assumption):PGs X (.Name x p::es) (gNames (i::is)):=pgs_cons (pg_name hN hi hx hf) h hs
theorem pgs_names_nil:PGs X [] (gNames []):=pgs_nil
theorem cs_unp(hc:X.calm=true)(hg:PGs X es (gNames is))(he:CE X e m)(hn:(assignEach es X.env).length=is.length:=by rfl)(hst:(assignEach es X.env).findIdx? (·.1)=none:=by rfl)
  (hs:swapsWithSole [.Tuple es k tpos] e pos.line X.env=pure false:=by rfl) (hw:swappedStores [.Tuple es k tpos] e X.env=pure none:=by rfl) (h1:(assignEach [.Tuple es k tpos] X.env).map (·.2)=[assign (.Tuple es k tpos) X.env]:=by rfl) :
  CS X (.Assign [.Tuple es k tpos] e pos) (cUnp is m):=ps_imp (ps_asg he (pg_tup hc hg hn hst) hs hw h1)<|by
 rintro D σV H ⟨O,σ,S,fl,S',st,h,q⟩
 obtain⟨r,S1,h1,h⟩:=M.inv h
 split at h
 ·rename_i ds
  by_cases c:ds.length=is.length
  ·rw[if_pos c]at h
   cases h
   refine⟨O,σ,S,_,_,st,h1,fun O1 v H1 g1 st1 rr nn=>?_⟩
   obtain⟨a,ys,rfl,t,ra⟩:=rr
   refine⟨a,ys,rfl,t,by rw[ra.len,c],unp_sim st1 ra c fun σV' st' k=>q O1 σV' H1 g1.gs st' k⟩
  ·rw[if_neg c]at h;cases h
 ·cases h
end
omit [L2.TabP]in
@[simp] theorem e_unp{is:List Nat}{m:ME}{σ:En}:cUnp is m σ=(do
 let r ←m σ
 match r with
 |.v (.tup ds)=>if ds.length=is.length then pure (.nx (setsD is ds σ))else bad
 | _=>bad):=rfl
omit [L2.TabP]in
@[simp] theorem e_sets{i:Nat}{is:List Nat}{d:D}{ds:List D}{σ:En}:setsD (i::is) (d::ds) σ=setsD is ds (σ.set i (.val d)):=rfl
omit [L2.TabP]in
@[simp] theorem e_sets0{ds:List D}{σ:En}:setsD [] ds σ=σ:=by cases ds<;>rfl
end L3
namespace L3
open PySem PySem.Spec L2
section
variable[L2.TabP](X:Cx)
structure WE(e:Expr)(m:ME):Prop where
 un:CE X e m
structure WT(e:Expr)(m:En→M Bool):Prop where
 un:CT X e m
structure WW(e:Expr)(m:En→M Bool):Prop where
 un:CW X e m
structure WA(e:List Expr)(m:MA):Prop where
 un:CA X e m
structure WO(e:Option Expr)(m:MO):Prop where
 un:CO X e m
structure WS(e:Stmt)(m:MS):Prop where
 un:CS X e m
structure WSs(e:List Stmt)(m:MS):Prop where
 un:CSs X e m
structure WIc(tg e:Expr)(m:MI):Prop where
 un:CIc X tg e m
structure WIf(tg e:Expr)(m:MI):Prop where
 un:CIf X tg e m
structure WFs(e:List Expr)(m:En→M Bool):Prop where
 un:CFs X e m
end
section
variable[L2.TabP]
variable{X:Cx}{a b c e:Expr}{ma mb mc m:ME}{ta tb:En→M Bool}{pos:Pos}
theorem we_var(i:Nat){x:Str}{pos:Pos}(hN:X.N[i]? = some x:=by rfl)(hv:Vis X.env.scope x:=by first | exact Or.inl rfl | exact Or.inr (Or.inl rfl) | exact Or.inr (Or.inr rfl))(hd:(x==("__debug__":Str))=false:=by decide)(hcd:(x==("__classdict__":Str))=false:=by decide):WE X (.Name x pos) (cVar i):=⟨ce_var i hN hv hd hcd⟩
end
section
variable[L2.TabP]
variable{X:Cx}{e:Expr}{es:List Expr}{m:ME}{ms:MA}{pos:Pos}
theorem wa_cons(ha:WE X e m)(hr:WA X es ms)(hs:starEach (e::es) X.env=(false,eval e X.env)::starEach es X.env:=by rfl):WA X (e::es) (cCons m ms):=⟨ca_cons ha.un hr.un hs⟩
end
section
variable[L2.TabP]
variable{X:Cx}{a b c e:Expr}{ma mb mc m:ME}{ta tb:En→M Bool}{pos:Pos}
theorem we_int{i j pos}:WE X (.Constant (.int i) j pos) (cK (.int i)):=⟨ce_int⟩
end
section
variable[L2.TabP]
variable{X:Cx}{e:Expr}{es:List Expr}{m:ME}{ms:MA}{pos:Pos}
theorem wa_nil :WA X [] cNil:=⟨ca_nil⟩
end
section
variable[L2.TabP]
variable{X:Cx}{a b c e:Expr}{ma mb mc m:ME}{ta tb:En→M Bool}{pos:Pos}
theorem we_op{op:Operator}{r:R2}{f:R→R→M R}(ho:OpR X (binaryOp op) r)(hf:Bin X.K X.mg r f)(ha:WE X a ma)(hb:WE X b mb):WE X (.BinOp a op b pos) (c2 f ma mb):=⟨ce_op ho hf ha.un hb.un⟩
end
section
variable[L2.TabP]
variable{X:Cx}{st:Stmt}{rest:List Stmt}{pos:Pos}{a b:MS}{e:Expr}{m:ME}
theorem wss_cons(h1:WS X st a)(h2:WSs X rest b):WSs X (st::rest) (cSeq a b):=⟨css_cons h1.un h2.un⟩
end
section
variable[L2.TabP]
variable{X:Cx}{st:Stmt}{rest:List Stmt}{pos:Pos}{a b:MS}{e:Expr}{m:ME}
theorem wss_one(h:WS X st a):WSs X [st] a:=⟨css_one h.un⟩
end
section
variable[L2.TabP]
variable{X:Cx}{a b c e:Expr}{ma mb mc m:ME}{ta tb:En→M Bool}{pos:Pos}
theorem we_ix{r:R2}{f:R→R→M R}(ho:IxR X r)(hf:Bin X.K X.mg r f)(ha:WE X a ma)(hb:WE X b mb)(hs:PlainIx b):WE X (.Subscript a b pos) (c2 f ma mb):=⟨ce_ix ho hf ha.un hb.un hs⟩
end
section
variable[L2.TabP]
variable{X:Cx}{st:Stmt}{rest:List Stmt}{pos:Pos}{a b:MS}{e:Expr}{m:ME}
theorem ws_ret(he:WE X e m):WS X (.Return (some e) pos) (cRet m):=⟨cs_ret he.un⟩
end
section
variable[L2.TabP]
variable{X:Cx}{e:Expr}{es:List Expr}{m:ME}{ms:MA}{pos:Pos}
theorem we_tup{x1}(h:WA X es ms):WE X (.Tuple es x1 pos) (cTup ms):=⟨ce_tup h.un⟩
end
section
variable[L2.TabP]
variable{X:Cx}{st:Stmt}{rest:List Stmt}{pos:Pos}{a b:MS}{e:Expr}{m:ME}
variable{i:Nat}{x:Str}{pos':Pos}
theorem ws_set(hN:X.N.Nodup)(hi:X.N[i]? = some x)(hx:Loc X.env.scope x)(he:WE X e m)(hs:swapsWith e (some (.Name x pos')) pos.line X.env=pure false:=by rfl)(hf:X.fn x=true∨X.env.scope.names.lookup x=some .local:=by first | exact .inl rfl | exact .inr rfl | assumption):WS X (.Assign [.Name x pos'] e pos) (cSet i m):=⟨cs_set hN hi hx he.un hs hf⟩
end
section
variable[L2.TabP]
variable{X:Cx}{x:Str}{ps:List Str}{k:Nat}{mf:MF}{p pos:Pos}{e:Expr}{es:List Expr}{ms:MA}
theorem we_call(h:Has X.prog X.w X.K X.mg X.base x ps k (spF X.K X.mg mf))(hr:Room k X.A)(hg:Gl X x)(ha:WA X (e::es) ms)(hdb:(x==("__debug__":Str))=false:=by decide)(he:starEach (e::es) X.env=(false,eval e X.env)::starEach es X.env:=by rfl)(hpl:(backTo pos (starEach es X.env)).any (·.1)=false:=by rfl):WE X (.Call (.Name x p) (e::es) [] pos) (cCall mf ms):=⟨ce_call h hr hg ha.un hdb he hpl⟩
end
section
variable[L2.TabP]
variable{X:Cx}{x:Str}{ps:List Str}{k:Nat}{mf:MF}{p pos:Pos}{e:Expr}{es:List Expr}{ms:MA}
theorem we_call0(h:Has X.prog X.w X.K X.mg X.base x ps k (spF X.K X.mg mf))(hr:Room k X.A)(hg:Gl X x)(hdb:(x==("__debug__":Str))=false:=by decide):WE X (.Call (.Name x p) [] [] pos) (cCall mf cNil):=⟨ce_call0 h hr hg hdb⟩
end
section
variable[L2.TabP]
variable{X:Cx}{e:Expr}{es:List Expr}{ms:MA}{pos p:Pos}{x:Str}{id T:String}{r:List V→Hp→VK→Prop}{f:List R→M R}
theorem we_callB(hc:CallR X (.builtin id) r)(hf:BinC X.K X.mg r f)(hg:Gl X x)(hm:X.mg x=none)(hv:bootBuiltins x=some (.builtin id))(ha:WA X (e::es) ms)(hn:x≠"__name__":=by decide)(hdb:(x==("__debug__":Str))=false:=by decide)(he:starEach (e::es) X.env=(false,eval e X.env)::starEach es X.env:=by rfl)(hpl:(backTo pos (starEach es X.env)).any (·.1)=false:=by rfl):WE X (.Call (.Name x p) (e::es) [] pos) (cB f ms):=⟨ce_callB hc hf hg hm hv ha.un hn hdb he hpl⟩
end
section
variable[L2.TabP]
variable{X:Cx}{st:Stmt}{rest:List Stmt}{pos:Pos}{a b:MS}{e:Expr}{m:ME}
theorem ws_if{c:Expr}{A B:List Stmt}{t:En→M Bool}(hc:WT X c t)(ha:WSs X A a)(hb:WSs X B b):WS X (.If c A B pos) (cIfS t a b):=⟨cs_if hc.un ha.un hb.un⟩
end
section
variable[L2.TabP]
variable{X:Cx}{st:Stmt}{rest:List Stmt}{pos:Pos}{a b:MS}{e:Expr}{m:ME}
theorem wss_nil :WSs X [] cPass:=⟨css_nil⟩
end
section
variable[L2.TabP]
variable{X:Cx}{a b c e:Expr}{ma mb mc m:ME}{ta tb:En→M Bool}{pos:Pos}
theorem wt_cmp{op:CmpOp}{r:R2}{f:R→R→M R}(ho:OpR X (compareOp op) r)(hf:Bin X.K X.mg r f)(ha:WE X a ma)(hb:WE X b mb)(hm:behindInMarks op b=false):WT X (.Compare a [op] [b] pos) (cT (c2 f ma mb)):=⟨ct_cmp ho hf ha.un hb.un hm⟩
end
section
variable[L2.TabP]
variable{X:Cx}{a b c e:Expr}{ma mb mc m:ME}{ta tb:En→M Bool}{pos:Pos}
variable{rest:List Expr}
theorem wt_val(ha:WE X a ma)(he:∀whole,isTrue a X.env whole=(do let v ←whole;standAt a.pos;holding [v] (truthy v)):=by intro _;rfl):WT X a (cT ma):=⟨ct_val ha.un he⟩
end
section
variable[L2.TabP]
variable{X:Cx}{a b c e:Expr}{ma mb mc m:ME}{ta tb:En→M Bool}{pos:Pos}
theorem we_k{d:D}{v:V}(h:PE X e (tC v))(r:∀O H,Rep X.K X.mg O H d v):WE X e (cK d):=⟨ce_k h r⟩
end
section
variable[L2.TabP]
variable{X:Cx}{e:Expr}{es:List Expr}{m:ME}{ms:MA}{pos:Pos}
theorem we_lst(h:WA X es ms):WE X (.List es pos) (cLst ms):=⟨ce_lst h.un⟩
end
section
variable[L2.TabP]
variable{X:Cx}{a b c e:Expr}{ma mb mc m:ME}{ta tb:En→M Bool}{pos:Pos}
theorem we_bl{b j pos}:WE X (.Constant (.bool b) j pos) (cK (.bl b)):=⟨ce_bl⟩
end
section
variable[L2.TabP]
variable{X:Cx}{a b c e:Expr}{ma mb mc m:ME}{ta tb:En→M Bool}{pos:Pos}
variable{rest:List Expr}
theorem wt_not(ha:WT X a ta):WT X (.UnaryOp .Not a pos) (tNotM ta):=⟨ct_not ha.un⟩
end
section
variable[L2.TabP]
variable{X:Cx}{a b c e:Expr}{ma mb mc m:ME}{ta tb:En→M Bool}{pos:Pos}
variable{rest:List Expr}
theorem ww_or(ha:WT X a ta)(hb:WW X (.BoolOp .Or (b::rest) pos) tb):WW X (.BoolOp .Or (a::b::rest) pos) (tOrM ta tb):=⟨cw_or ha.un hb.un⟩
end
section
variable[L2.TabP]
variable{X:Cx}{a b c e:Expr}{ma mb mc m:ME}{ta tb:En→M Bool}{pos:Pos}
theorem we_str{x j pos}:WE X (.Constant (.str x) j pos) (cK (.str x)):=⟨ce_str⟩
end
section
variable[L2.TabP]
variable{X:Cx}{a b c e:Expr}{ma mb mc m:ME}{ta tb:En→M Bool}{pos:Pos}
theorem we_non{j pos}:WE X (.Constant .none j pos) (cK .non):=⟨ce_non⟩
end
section
variable[L2.TabP]
variable{X:Cx}{a b c e:Expr}{ma mb mc m:ME}{ta tb:En→M Bool}{pos:Pos}
theorem we_cmp{op:CmpOp}{r:R2}{f:R→R→M R}(ho:OpR X (compareOp op) r)(hf:Bin X.K X.mg r f)(ha:WE X a ma)(hb:WE X b mb)(hm:behindInMarks op b=false):WE X (.Compare a [op] [b] pos) (c2 f ma mb):=⟨ce_cmp ho hf ha.un hb.un hm⟩
end
section
variable[L2.TabP]
variable{X:Cx}{tg iter:Expr}{it:MI}{i:Nat}{b:MS}{body:List Stmt}{pos tpos:Pos}{x:Str}{c:Expr}{t:En→M Bool}
theorem ws_for(hp:PassesOwn (model X.prog X.w) X.A X.env X.xe)(hc:X.calm=true)(hi:WIf X (.Name x tpos) iter it)(hN:X.N.Nodup)(hx:X.N[i]? = some x)(hl:Loc X.env.scope x)(hb:WSs X body b)(hs:∀x,foldedSetIterable iter X.env x=pure x:=by intro _;rfl)(hf:X.fn x=true∨X.env.scope.names.lookup x=some .local:=by first | exact .inl rfl | exact .inr rfl | assumption):WS X (.For (.Name x tpos) iter body [] pos) (cFor i it b):=⟨cs_for hp hc hi.un hN hx hl hb.un hs hf⟩
end
section
variable[L2.TabP]
variable{X:Cx}{a b c e:Expr}{ma mb mc m:ME}{ta tb:En→M Bool}{pos:Pos}
variable{rest:List Expr}
theorem we_and(ha:WE X a ma)(hb:WE X (.BoolOp .And (b::rest) pos) mb):WE X (.BoolOp .And (a::b::rest) pos) (cAnd ma mb):=⟨ce_and ha.un hb.un⟩
end
section
variable[L2.TabP]
variable{X:Cx}{a b c e:Expr}{ma mb mc m:ME}{ta tb:En→M Bool}{pos:Pos}
variable{rest:List Expr}
theorem ww_or1(ha:WT X a ta):WW X (.BoolOp .Or [a] pos) ta:=⟨cw_or1 ha.un⟩
end
section
variable[L2.TabP]
variable{X:Cx}{a b c e:Expr}{ma mb mc m:ME}{ta tb:En→M Bool}{pos:Pos}
variable{rest:List Expr}
theorem ww_and(ha:WT X a ta)(hb:WW X (.BoolOp .And (b::rest) pos) tb):WW X (.BoolOp .And (a::b::rest) pos) (tAndM ta tb):=⟨cw_and ha.un hb.un⟩
end
section
variable[L2.TabP]
variable{X:Cx}{e:Expr}{m:ME}{lo hi:Option Expr}{ml mh:MO}{pos p2:Pos}
theorem wo_some(he:WE X e m):WO X (some e) (cPart m):=⟨co_some he.un⟩
end
section
variable[L2.TabP]
variable{X:Cx}{e:Expr}{m:ME}{lo hi:Option Expr}{ml mh:MO}{pos p2:Pos}
theorem wo_none :WO X none cNoPart:=⟨co_none⟩
end
section
variable[L2.TabP]
variable{X:Cx}{e:Expr}{m:ME}{lo hi:Option Expr}{ml mh:MO}{pos p2:Pos}
theorem we_slice(he:WE X e m)(hl:WO X lo ml)(hu:WO X hi mh):WE X (.Subscript e (.Slice lo hi none p2) pos) (cSl m ml mh):=⟨ce_slice he.un hl.un hu.un⟩
end
section
variable[L2.TabP]
variable{X:Cx}{a b c e:Expr}{ma mb mc m:ME}{ta tb:En→M Bool}{pos:Pos}
variable{rest:List Expr}
theorem we_one{op}(h:WE X a ma):WE X (.BoolOp op [a] pos) ma:=⟨ce_one h.un⟩
end
section
variable[L2.TabP]
variable{X:Cx}{scope esc:Scope}{EN N:List Str}{n:Nat}{cap:List Nat}{elt iter:Expr}{ifs:List Expr}{pos tpos:Pos}{x:Str}{it:MI}{t:En→M Bool}{el:ME}
theorem we_comp(S:CpScope esc scope EN N n cap)(hn:0<n)(hi:WIc X (.Name x tpos) iter it)(hx:N[0]? = some x)(hlx:∀C fp s H,Loc (cxComp X scope N C fp s H).env.scope x∧(cxComp X scope N C fp s H).env.scope.names.lookup x=some .local)(ht:∀C fp s H,WFs (cxComp X scope N C fp s H) ifs t)(hel:∀C fp s H,WE (cxComp X scope N C fp s H) elt el)(he:X.env.scope=esc:=by rfl)(hN:X.N=EN:=by rfl)(hc:X.calm=true:=by rfl)(hs:∀x,foldedSetIterable iter X.env x=pure x:=by intro _;rfl):WE X (.ListComp elt [⟨.Name x tpos,iter,ifs,0⟩] scope pos) (cComp n cap it t el):=⟨ce_comp S hn hi.un hx hlx (fun C fp s H=>(ht C fp s H).un) (fun C fp s H=>(hel C fp s H).un) he hN hc hs⟩
end
section
variable[L2.TabP]
variable{X:Cx}{x:Str}{i j:Nat}{p apos cpos pos pos':Pos}{e:Expr}{es:List Expr}{ms:MA}{name y:Str}{id:String}{f:List D→List R→M (R×List D)}{r:V→List V→Hp→VK→Prop}
theorem ws_mut(slot:PySem.Slot "list" name id)(hty:typeOf (.builtin id)=pure (.type "method_descriptor"))(hm:MtM X id r)(hf:BinM X.K X.mg r f)(ha:WA X (e::es) ms)(hN:X.N[i]? = some x)(hv:Vis X.env.scope x)(hd:(x==("__debug__":Str))=false:=by decide)(hcd:(x==("__classdict__":Str))=false:=by decide)(hbase:attributeBase (.Name x p) name X.env (eval (.Name x p) X.env)=eval (.Name x p) X.env:=by rfl) (hfew:((backTo cpos (starEach (e::es) X.env)).all (fun x=>!x.1)&&(backToKw cpos (keywordEach [] X.env)).all (fun x=>x.1.isSome)
&&decide ((e::es).length+([]:List Keyword).length+(if([]:List Keyword).isEmpty then 0 else 1)<30))=true:=by rfl) (hline:(apos.endLine==cpos.line)=true:=by rfl) (hs:starEach (e::es) X.env=(false,eval e X.env)::starEach es X.env:=by rfl) (hplain:(backTo cpos (starEach es X.env)).any (·.1)=false:=by rfl) (hsw:swapsWith (.Call (.Attribute (.Name x p) name apos) (e::es) [] cpos) none pos.line X.env=pure false:=by rfl):WS X (.Expr (.Call (.Attribute (.Name x p) name apos) (e::es) [] cpos) pos) (cMutS i f ms):=⟨cs_mut slot hty hm hf ha.un hN hv hd hcd hbase hfew hline hs hplain hsw⟩
end
section
variable[L2.TabP]
variable{X:Cx}{a b c e:Expr}{ma mb mc m:ME}{ta tb:En→M Bool}{pos:Pos}
variable{rest:List Expr}
theorem ww_and1(ha:WT X a ta):WW X (.BoolOp .And [a] pos) ta:=⟨cw_and1 ha.un⟩
end
section
variable[L2.TabP]
variable{X:Cx}{tg l:Expr}{m:ME}{e a b:Expr}{ms:MA}{pos p:Pos}
theorem wf_list(hl:WE X l m):WIf X tg l (iL m):=⟨cf_list hl.un⟩
end
section
variable[L2.TabP]
theorem we_neg{X:Cx}{a:Expr}{ma:ME}{pos:Pos}(ha:WE X a ma):WE X (.UnaryOp .USub a pos) (c1 oNeg ma):=⟨ce_neg ha.un⟩
end
section
variable[L2.TabP]
variable{X:Cx}{st:Stmt}{rest:List Stmt}{pos:Pos}{a b:MS}{e:Expr}{m:ME}
variable{i:Nat}{x:Str}{pos':Pos}
theorem ws_own(hN:X.N.Nodup)(hi:X.N[i]? = some x)(hx:Loc X.env.scope x)(he:WE X e m)(hs:swapsWith e (some (.Name x pos')) pos.line X.env=pure false:=by rfl)(hf:X.fn x=true∨X.env.scope.names.lookup x=some .local:=by first | exact .inl rfl | exact .inr rfl | assumption):WS X (.Assign [.Name x pos'] e pos) (cOwn i m):=⟨cs_own hN hi hx he.un hs hf⟩
end
section
variable[L2.TabP]
theorem wfs_nil{X:Cx}:WFs X [] tYes:=⟨cfs_nil⟩
end
section
variable[L2.TabP]
variable{X:Cx}{a b c e:Expr}{ma mb mc m:ME}{ta tb:En→M Bool}{pos:Pos}
variable{rest:List Expr}
theorem we_not(ha:WE X a ma):WE X (.UnaryOp .Not a pos) (cNot ma):=⟨ce_not ha.un⟩
end
section
variable[L2.TabP]
variable{X:Cx}{e:Expr}{es:List Expr}{ms:MA}{pos p:Pos}{x:Str}{id T:String}{r:List V→Hp→VK→Prop}{f:List R→M R}
theorem we_callTy(hc:CallR X (.type T) r)(hf:BinC X.K X.mg r f)(hg:Gl X x)(hm:X.mg x=none)(hv:bootBuiltins x=some (.type T))(ha:WA X (e::es) ms)(hn:x≠"__name__":=by decide)(hdb:(x==("__debug__":Str))=false:=by decide)(he:starEach (e::es) X.env=(false,eval e X.env)::starEach es X.env:=by rfl)(hpl:(backTo pos (starEach es X.env)).any (·.1)=false:=by rfl):WE X (.Call (.Name x p) (e::es) [] pos) (cB f ms):=⟨ce_callTy hc hf hg hm hv ha.un hn hdb he hpl⟩
end
section
variable[L2.TabP]
theorem wfs_one{X:Cx}{c:Expr}{t:En→M Bool}(h:WT X c t):WFs X [c] t:=⟨cfs_one h.un⟩
end
section
variable[L2.TabP]
variable{X:Cx}{tg l:Expr}{m:ME}{e a b:Expr}{ms:MA}{pos p:Pos}
theorem wf_range1(hg:Gl X "range")(hm:X.mg "range"=none)(ha:WA X [a] ms)(hs:starEach [a] X.env=[(false,eval a X.env)]:=by rfl):WIf X tg (.Call (.Name "range" p) [a] [] pos) (iR1 ms):=⟨cf_range1 hg hm ha.un hs⟩
end
section
variable[L2.TabP]
variable{X:Cx}{a b c e:Expr}{ma mb mc m:ME}{ta tb:En→M Bool}{pos:Pos}
theorem wt_chain{op op':CmpOp}{r r':R2}{f g:R→R→M R}(ho:OpR X (compareOp op) r)(hf:Bin X.K X.mg r f)(ho':OpR X (compareOp op') r')(hg:Bin X.K X.mg r' g)(ha:WE X a ma)(hb:WE X b mb)(hc:WE X c mc)(hm:lastMarks [op,op'] [b,c]=false:=by with_unfolding_all rfl):WT X (.Compare a [op,op'] [b,c] pos) (cT (c3 f g ma mb mc)):=⟨ct_chain ho hf ho' hg ha.un hb.un hc.un hm⟩
end
section
variable[L2.TabP]
variable{X:Cx}{tg l:Expr}{m:ME}{e a b:Expr}{ms:MA}{pos p:Pos}
theorem wc_tup(hl:WE X l m):WIc X tg l (iT m):=⟨cc_tup hl.un⟩
end
section
variable[L2.TabP]
variable{X:Cx}{tg l:Expr}{m:ME}{e a b:Expr}{ms:MA}{pos p:Pos}
theorem wc_list(hl:WE X l m):WIc X tg l (iLc m):=⟨cc_list hl.un⟩
end
section
variable[L2.TabP]
variable{X:Cx}{tg l:Expr}{m:ME}{e a b:Expr}{ms:MA}{pos p:Pos}
theorem wf_tup(hl:WE X l m):WIf X tg l (iT m):=⟨cf_tup hl.un⟩
end
section
variable[L2.TabP]
variable{X:Cx}{tg l:Expr}{m:ME}{e a b:Expr}{ms:MA}{pos p:Pos}
theorem wc_range1(hg:Gl X "range")(hm:X.mg "range"=none)(ha:WA X [a] ms)(hs:starEach [a] X.env=[(false,eval a X.env)]:=by rfl):WIc X tg (.Call (.Name "range" p) [a] [] pos) (iR1 ms):=⟨cc_range1 hg hm ha.un hs⟩
end
section
variable[L2.TabP]
variable{X:Cx}{st:Stmt}{rest:List Stmt}{pos:Pos}{a b:MS}{e:Expr}{m:ME}
theorem ws_retO(i:Nat){x:Str}{p:Pos}(hN:X.N[i]? = some x:=by rfl)(hv:Vis X.env.scope x:=by first | exact Or.inl rfl | exact Or.inr (Or.inl rfl) | exact Or.inr (Or.inr rfl))(hd:(x==("__debug__":Str))=false:=by decide)(hcd:(x==("__classdict__":Str))=false:=by decide):WS X (.Return (some (.Name x p)) pos) (cRetO i):=⟨cs_retO i hN hv hd hcd⟩
end
section
variable[L2.TabP]
variable{X:Cx}{a b c e:Expr}{ma mb mc m:ME}{ta tb:En→M Bool}{pos:Pos}
theorem we_chain{op op':CmpOp}{r r':R2}{f g:R→R→M R}(ho:OpR X (compareOp op) r)(hf:Bin X.K X.mg r f)(ho':OpR X (compareOp op') r')(hg:Bin X.K X.mg r' g)(ha:WE X a ma)(hb:WE X b mb)(hc:WE X c mc)(hm:lastMarks [op,op'] [b,c]=false:=by with_unfolding_all rfl):WE X (.Compare a [op,op'] [b,c] pos) (c3 f g ma mb mc):=⟨ce_chain ho hf ho' hg ha.un hb.un hc.un hm⟩
end
section
variable[L2.TabP]
variable{X:Cx}{pos tpos:Pos}{is:List Nat}{e:Expr}{m:ME}{es:List Expr}{k:Nat}{iter:Expr}{it:MI}{body:List Stmt}{b:MS}
theorem ws_unp(hc:X.calm=true)(hg:PGs X es (gNames is))(he:WE X e m)(hn:(assignEach es X.env).length=is.length:=by rfl)(hst:(assignEach es X.env).findIdx? (·.1)=none:=by rfl)(hs:swapsWithSole [.Tuple es k tpos] e pos.line X.env=pure false:=by rfl)(hw:swappedStores [.Tuple es k tpos] e X.env=pure none:=by rfl)(h1:(assignEach [.Tuple es k tpos] X.env).map (·.2)=[assign (.Tuple es k tpos) X.env]:=by rfl):WS X (.Assign [.Tuple es k tpos] e pos) (cUnp is m):=⟨cs_unp hc hg he.un hn hst hs hw h1⟩
end
section
variable[L2.TabP]
variable{X:Cx}{a:Expr}{ma:ME}{apos cpos:Pos}
theorem we_bits(ha:WE X a ma)(hbase:attributeBase a "bit_length" X.env (eval a X.env)=eval a X.env:=by rfl)(hline:(apos.endLine==cpos.line)=true:=by rfl):WE X (.Call (.Attribute a "bit_length" apos) [] [] cpos) (c1 oBits ma):=⟨ce_bits ha.un hbase hline⟩
end
section
variable[L2.TabP]
variable{X:Cx}{a b c e:Expr}{ma mb mc m:ME}{ta tb:En→M Bool}{pos:Pos}
variable{rest:List Expr}
theorem WW.ct(h:WW X a ta):WT X a ta:=⟨CW.ct h.un⟩
end
noncomputable def keyD:D→Option Key
 |.int i=>some (.inl i)
 |.str x=>some (.inr x)
 |_=>none
noncomputable def dvalD(kvs:List (Key×D))(k:Key):Option D:=(kvs.find? fun kv=>decide (kv.1=k)).map (·.2)
variable[L2.TabP]
end L3
namespace L3
open PySem PySem.Spec L2
@[simp] theorem e_keyi{i:Int}:keyD (.int i)=some (.inl i):=rfl
@[simp] theorem e_keys{x:Str}:keyD (.str x)=some (.inr x):=rfl
end L3
namespace L3
open PySem PySem.Spec L2 PyProof.Rows
variable[L2.TabP]
omit [L2.TabP]in
@[simp] theorem e_slotfn{f:Str}:slotOf (.fn f)=.val (.fn f):=rfl
end L3
namespace L3
open PySem PySem.Spec L2 PyProof.Rows PySem.W
variable[L2.TabP]
section
omit [L2.TabP]
@[simp] theorem e_cppd{kvs:List (Pl×D)}:cpSlot (some (.pd kvs))=.vp kvs:=rfl
end
end L3
namespace L3
open PySem PySem.Spec L2
section
variable{P:List Value→Prop}
theorem us0(h:P []):∀us:List Value,us.length=0→P us
 |[],_=>h
theorem us1(h:∀a,P [a]):∀us:List Value,us.length=1→P us
 |[_],_=>h _
theorem us2(h:∀a b,P [a,b]):∀us:List Value,us.length=2→P us
 |[_,_],_=>h _ _
theorem us3(h:∀a b c,P [a,b,c]):∀us:List Value,us.length=3→P us
 |[_,_,_],_=>h _ _ _
theorem us4(h:∀a b c d,P [a,b,c,d]):∀us:List Value,us.length=4→P us
 |[_,_,_,_],_=>h _ _ _ _
theorem us5(h:∀a b c d e,P [a,b,c,d,e]):∀us:List Value,us.length=5→P us
 |[_,_,_,_,_],_=>h _ _ _ _ _
end
end L3
namespace L3
open PySem PySem.Spec L2
variable[L2.TabP]
noncomputable def Tr.kids:Tr→List Tr
 |.lf _=>[]
 |.ls ts=>ts
 |.dc _ ts=>ts
 |.ob _ _ ts=>ts
 |.any=>[]
 |.tp ts=>ts
noncomputable def Tr.sub:Tr→Nat→Tr→Tr
 |.lf d,_,_=>.lf d
 |.ls ts,n,s=>.ls (ts.set n s)
 |.dc ks ts,n,s=>.dc ks (ts.set n s)
 |.ob c ns ts,n,s=>.ob c ns (ts.set n s)
 |.any,_,_=>.any
 |.tp ts,n,s=>.tp (ts.set n s)
noncomputable def Tr.atP:List Nat→Tr→Option Tr
 |[],t=>some t
 |n::p,t=>match t.kids[n]? with
  |some s=>Tr.atP p s
  |none=>none
noncomputable def Tr.put:List Nat→Tr→Tr→Tr
 |[],_,s=>s
 |n::p,t,s=>match t.kids[n]? with
  |some u=>t.sub n (Tr.put p u s)
  |none=>t
noncomputable def kidV(H:Hp)(a:Addr)(n:Nat):Option V:=match H a with
 |some (.lst ys)=>ys[n]?
 |some (.tup ys)=>ys[n]?
 |some (.dK kvs)=>kvs[n]?.map (·.2)
 |some (.ins _ _ fs)=>fs[n]?.map (·.2)
 |_=>none
noncomputable def PathV(H:Hp):V→List Nat→V→Prop
 |v,[],v'=>v=v'
 |v,n::q,v'=>∃a y,v=.ref a∧kidV H a n=some y∧PathV H y q v'
omit [L2.TabP]in
theorem PathV.det{H:Hp}:∀{q:List Nat}{v a b:V},PathV H v q a→PathV H v q b→a=b
 |[],_,_,_,h,h'=>h.symm.trans h'
 |_::_,_,_,_,⟨a,y,e,k,h⟩,⟨a',y',e',k',h'⟩=>by
  subst e
  cases e'
  rw[k]at k'
  cases k'
  exact PathV.det h h'
omit [L2.TabP]in
theorem PathV.snoc{H:Hp}{n:Nat}{a:Addr}{y:V}(k:kidV H a n=some y):∀{q:List Nat}{v:V},PathV H v q (.ref a)→PathV H v (q++[n]) y
 |[],_,h=>⟨a,y,h,k,rfl⟩
 |_::_,_,⟨a',y',e,k',h⟩=>⟨a',y',e,k',PathV.snoc k h⟩
theorem kidV.same{H H':Hp}(s:Same H H'){a:Addr}{n:Nat}{y:V}(h:kidV H a n=some y):kidV H' a n=some y:=by
 unfold kidV at h
 split at h
 ·rename_i ys e;unfold kidV;rw[s.at' _ _ e];exact h
 ·rename_i ys e;unfold kidV;rw[s.at' _ _ e];exact h
 ·rename_i ys e;unfold kidV;rw[s.at' _ _ e];exact h
 ·rename_i e;unfold kidV;rw[s.at' _ _ e];exact h
 ·cases h
theorem PathV.same{H H':Hp}(s:Same H H'):∀{q:List Nat}{v a:V},PathV H v q a→PathV H' v q a
 |[],_,_,h=>h
 |_::_,_,_,⟨a,y,e,k,h⟩=>⟨a,y,e,kidV.same s k,PathV.same s h⟩
omit [L2.TabP]in
theorem atP_snoc{n:Nat}{s u:Tr}(e:s.kids[n]? = some u):∀{p:List Nat}{t:Tr},Tr.atP p t=some s→Tr.atP (p++[n]) t=some u
 |[],t,h=>by
  obtain rfl:t=s:=Option.some.inj h
  show(match t.kids[n]? with | some z=>some z | none=>none)=some u
  rw[e]
 |m::p,t,h=>by
  unfold Tr.atP at h
  show(match t.kids[m]? with | some z=>Tr.atP (p++[n]) z | none=>none)=some u
  cases ek:t.kids[m]? with
  |none=>rw[ek]at h;cases h
  |some z=>rw[ek]at h;exact atP_snoc e h
section
variable{K:FrgT}{mg:BinT}{O O':Ow}{H H':Hp}{w w':Own}
theorem TreeAll.len:∀{ts:List Tr}{ys:List V}{p:List Nat}{n:Nat},TreeAll K mg O H w p n ts ys→ys.length=ts.length
 | [],_,_,_,h=>by cases h;rfl
 | _::_,_,_,_,h=>by obtain⟨y,r,rfl,_,b⟩:=h;rw[List.length_cons,List.length_cons,TreeAll.len b]
theorem TreeAll.get:∀{ts:List Tr}{ys:List V}{p:List Nat}{m k:Nat}{s:Tr},TreeAll K mg O H w p m ts ys→ts[k]? = some s→∃y,ys[k]? = some y∧TreeR K mg O H w (p++[m+k]) s y
 | [],_,_,_,_,_,_,e=>by simp at e
 | _::_,_,_,_,0,s,h,e=>by obtain⟨y,r,rfl,a,_⟩:=h;cases(show some _=some s from e);exact⟨y,rfl,a⟩
 |_::ts,_,p,m,k+1,s,h,e=>by
  obtain⟨y,r,rfl,_,b⟩:=h
  obtain⟨z,e1,e2⟩:=TreeAll.get (k:=k) b (by simpa using e)
  refine⟨z,by simpa using e1,?_⟩
  rw[show m+(k+1)=m+1+k by omega]
  exact e2
mutual
theorem TreeR.allP(f:∀d v,Rep K mg O H d v→Rep K mg O' H' d v):∀(t:Tr){p p':List Nat}{v:V},(∀(a:Addr)(u:HO)(r:List Nat),O a=w.at (p++r)→H a=some u→nT u→O' a=w'.at (p'++r)∧H' a=some u)→TreeR K mg O H w p t v→TreeR K mg O' H' w' p' t v
 |.lf _,_,_,_,_,h=>f _ _ h
 |.ls ts,p,p',_,g,h=>by
  obtain⟨a,ys,e,o,l,r⟩:=h
  obtain⟨o',l'⟩:=g a _ [] (by rw[List.append_nil];exact o) l trivial
  exact⟨a,ys,e,by rw[List.append_nil]at o';exact o',l',TreeAll.allP f ts g r⟩
 |.dc _ ts,p,p',_,g,h=>by
  obtain⟨a,ys,e,o,l,q,r⟩:=h
  obtain⟨o',l'⟩:=g a _ [] (by rw[List.append_nil];exact o) l trivial
  exact⟨a,ys,e,by rw[List.append_nil]at o';exact o',l',q,TreeAll.allP f ts g r⟩
 |.ob _ _ ts,p,p',_,g,h=>by
  obtain⟨a,C,dx,ys,e,o,l,q,r⟩:=h
  obtain⟨o',l'⟩:=g a _ [] (by rw[List.append_nil];exact o) l trivial
  exact⟨a,C,dx,ys,e,by rw[List.append_nil]at o';exact o',l',q,TreeAll.allP f ts g r⟩
 |.any,_,_,_,_,_=>trivial
 |.tp ts,p,p',_,g,h=>by
  obtain⟨a,ys,e,o,l,r⟩:=h
  obtain⟨o',l'⟩:=g a _ [] (by rw[List.append_nil];exact o) l trivial
  exact⟨a,ys,e,by rw[List.append_nil]at o';exact o',l',TreeAll.allP f ts g r⟩
theorem TreeAll.allP(f:∀d v,Rep K mg O H d v→Rep K mg O' H' d v):∀(ts:List Tr){p p':List Nat}{n:Nat}{ys:List V},(∀(a:Addr)(u:HO)(r:List Nat),O a=w.at (p++r)→H a=some u→nT u→O' a=w'.at (p'++r)∧H' a=some u)→TreeAll K mg O H w p n ts ys→TreeAll K mg O' H' w' p' n ts ys
 |[],_,_,_,_,_,h=>h
 |t::ts,_,_,n,_,g,h=>by
  obtain⟨y,r,e,a,b⟩:=h
  refine⟨y,r,e,TreeR.allP f t (fun a u q o l z=>?_) a,TreeAll.allP f ts g b⟩
  rw[List.append_assoc]at o ⊢
  exact g a u _ o l z
end
theorem TreeAll.kids(f:∀d v,Rep K mg O H d v→Rep K mg O' H' d v):∀{ts:List Tr}{ys:List V}{p:List Nat}{n:Nat},
  (∀(a:Addr)(u:HO)(j:Nat)(r:List Nat),O a=w.at (p++j::r)→H a=some u→nT u→O' a=w.at (p++j::r)∧H' a=some u)→TreeAll K mg O H w p n ts ys→TreeAll K mg O' H' w p n ts ys
 |[],_,_,_,_,h=>h
 |t::ts,_,_,n,g,h=>by
  obtain⟨y,r,e,a,b⟩:=h
  refine⟨y,r,e,TreeR.allP f t (fun a u q o l z=>?_) a,TreeAll.kids f g b⟩
  rw[List.append_assoc]at o ⊢
  exact g a u n q o l z
theorem TreeAll.set(f:∀d v,Rep K mg O H d v→Rep K mg O' H' d v){s':Tr}{y':V}:∀{ts:List Tr}{ys:List V}{p:List Nat}{m k:Nat},
  (∀(a:Addr)(u:HO)(j:Nat)(r:List Nat),j≠m+k→O a=w.at (p++j::r)→H a=some u→nT u→O' a=w.at (p++j::r)∧H' a=some u)→
  TreeAll K mg O H w p m ts ys→k<ts.length→TreeR K mg O' H' w (p++[m+k]) s' y'→TreeAll K mg O' H' w p m (ts.set k s') (ys.set k y')
 |[],_,_,_,k,_,_,hk,_=>absurd hk (Nat.not_lt_zero _)
 |t::ts,_,p,m,0,g,h,_,n=>by
  obtain⟨y,r,rfl,a,b⟩:=h
  refine⟨y',r,rfl,n,?_⟩
  have:∀{ts:List Tr}{ys:List V}{n:Nat},m<n→TreeAll K mg O H w p n ts ys→TreeAll K mg O' H' w p n ts ys:=by
   intro ts
   induction ts with
   |nil=>exact fun _ h=>h
   |cons t ts ih=>
    rintro ys n hn ⟨y,r,e,a,b⟩
    refine⟨y,r,e,TreeR.allP f t (fun a u q o l z=>?_) a,ih (Nat.lt_succ_of_lt hn) b⟩
    rw[List.append_assoc]at o ⊢
    exact g a u n q (by omega) o l z
  exact this (Nat.lt_succ_self _) b
 |t::ts,_,p,m,k+1,g,h,hk,n=>by
  obtain⟨y,r,rfl,a,b⟩:=h
  refine⟨y,r.set k y',rfl,TreeR.allP f t (fun a u q o l z=>?_) a,?_⟩
  ·rw[List.append_assoc]at o ⊢
   exact g a u m q (by omega) o l z
  ·refine TreeAll.set f (k:=k) (fun a u j q hj=>g a u j q (by omega)) b (by simpa using hk) ?_
   rw[show m+1+k=m+(k+1)by omega]
   exact n
theorem TreeAll.snoc{s:Tr}{y:V}:∀{ts:List Tr}{ys:List V}{p:List Nat}{m:Nat},TreeAll K mg O H w p m ts ys→TreeR K mg O H w (p++[m+ts.length]) s y→TreeAll K mg O H w p m (ts++[s]) (ys++[y])
 | [],_,_,_,h,n=>by cases h;exact⟨y,[],rfl,n,rfl⟩
 |t::ts,_,p,m,h,n=>by
  obtain⟨z,r,rfl,a,b⟩:=h
  refine⟨z,_,rfl,a,TreeAll.snoc b ?_⟩
  rw[show m+1+ts.length=m+(t::ts).length by rw[List.length_cons];omega]
  exact n
theorem zip_get{α:Type}{ks:List α}{ys:List V}{n:Nat}{y:V}(hl:ks.length=ys.length)(h:ys[n]? = some y):(ks.zip ys)[n]?.map (·.2)=some y:=by
 have hn:n<ys.length:=(List.getElem?_eq_some_iff.mp h).1
 rw[List.getElem?_zip_eq_some (z:=(ks[n],y)) |>.mpr ⟨List.getElem?_eq_getElem _,h⟩]
 rfl
theorem TreeR.split:∀{q:List Nat}{p:List Nat}{t s:Tr}{v:V},TreeR K mg O H w p t v→Tr.atP q t=some s→∃v',PathV H v q v'∧TreeR K mg O H w (p++q) s v'∧
  ∀(O':Ow)(H':Hp)(s':Tr),(∀d v,Rep K mg O H d v→Rep K mg O' H' d v)→(∀(a:Addr)(u:HO)(r:List Nat),¬(p++q) <+: r→O a=w.at r→H a=some u→nT u→O' a=w.at r∧H' a=some u)→
   TreeR K mg O' H' w (p++q) s' v'→TreeR K mg O' H' w p (Tr.put q t s') v
 |[],p,t,s,v,h,e=>by
  cases(show some t=some s from e)
  rw[List.append_nil]
  exact⟨v,rfl,h,fun O' H' s' _ _ n=>n⟩
 |n::q,p,t,s,v,h,e=>by
  have pa:p++[n]++q=p++n::q:=by rw[List.append_assoc];rfl
  have key:∀{ts:List Tr}{ys:List V}{u:Tr}{a:Addr},TreeAll K mg O H w p 0 ts ys→ts[n]? = some u→Tr.atP q u=some s→(∀y,ys[n]? = some y→kidV H a n=some y)→v=.ref a→
    ∃v',PathV H v (n::q) v'∧TreeR K mg O H w (p++n::q) s v'∧∀(O':Ow)(H':Hp)(s':Tr),(∀d v,Rep K mg O H d v→Rep K mg O' H' d v)→
     (∀(a:Addr)(u:HO)(r:List Nat),¬(p++n::q) <+: r→O a=w.at r→H a=some u→nT u→O' a=w.at r∧H' a=some u)→TreeR K mg O' H' w (p++n::q) s' v'→TreeAll K mg O' H' w p 0 (ts.set n (Tr.put q u s')) ys:=fun{ts ys u a} r e1 e2 kv ev=>by
   obtain⟨y,ey,ry⟩:=r.get e1
   rw[Nat.zero_add]at ry
   obtain⟨v',pv,rs,rb⟩:=TreeR.split ry e2
   rw[pa]at rs
   refine⟨v',⟨a,y,ev,kv y ey,pv⟩,rs,fun O' H' s' f g nw=>?_⟩
   have ys':ys.set n y=ys:=by
    apply List.ext_getElem?
    intro i
    by_cases hi:n=i
    ·subst hi;rw[List.getElem?_set_self (List.getElem?_eq_some_iff.mp ey).1,ey]
    ·rw[List.getElem?_set_ne hi]
   rw[←ys']
   refine TreeAll.set f (fun a u j r' hj o l z=>g a u _ ?_ o l z) r (List.getElem?_eq_some_iff.mp e1).1 ?_
   ·rw[Nat.zero_add]at hj
    rintro⟨x,hx⟩
    rw[List.append_assoc]at hx
    have:=List.append_cancel_left hx
    rw[List.cons_append]at this
    exact hj (List.cons.inj this).1.symm
   ·rw[Nat.zero_add]
    refine rb O' H' s' f (fun a u r' hr o l z=>g a u r' ?_ o l z) ?_
    ·rw[←pa];exact hr
    ·rw[pa];exact nw
  have np:¬(p++n::q) <+: p:=fun z=>by
   have:=z.length_le
   rw[List.length_append,List.length_cons]at this
   omega
  unfold Tr.atP at e
  cases ek:t.kids[n]? with
  |none=>rw[ek]at e;cases e
  |some u=>
   rw[ek]at e
   have ep:∀s',Tr.put (n::q) t s'=t.sub n (Tr.put q u s'):=fun s'=>by
    show(match t.kids[n]? with | some u=>t.sub n (Tr.put q u s') | none=>t)=_
    rw[ek]
   cases t with
   |lf d=>cases ek
   |any=>cases ek
   |ls ts=>
    obtain⟨a,ys,ev,o,l,r⟩:=h
    obtain⟨v',pv,rs,rb⟩:=key r ek e (fun y ey=>by unfold kidV;rw[l];exact ey) ev
    refine⟨v',pv,rs,fun O' H' s' f g nw=>?_⟩
    obtain⟨o',l'⟩:=g a _ p np o l trivial
    rw[ep]
    exact⟨a,ys,ev,o',l',rb O' H' s' f g nw⟩
   |tp ts=>
    obtain⟨a,ys,ev,o,l,r⟩:=h
    obtain⟨v',pv,rs,rb⟩:=key r ek e (fun y ey=>by unfold kidV;rw[l];exact ey) ev
    refine⟨v',pv,rs,fun O' H' s' f g nw=>?_⟩
    obtain⟨o',l'⟩:=g a _ p np o l trivial
    rw[ep]
    exact⟨a,ys,ev,o',l',rb O' H' s' f g nw⟩
   |dc ks ts=>
    obtain⟨a,ys,ev,o,l,hq,r⟩:=h
    obtain⟨v',pv,rs,rb⟩:=key r ek e (fun y ey=>by unfold kidV;rw[l];exact zip_get hq.1 ey) ev
    refine⟨v',pv,rs,fun O' H' s' f g nw=>?_⟩
    obtain⟨o',l'⟩:=g a _ p np o l trivial
    rw[ep]
    exact⟨a,ys,ev,o',l',hq,rb O' H' s' f g nw⟩
   |ob c ns ts=>
    obtain⟨a,C,dx,ys,ev,o,l,hq,r⟩:=h
    obtain⟨v',pv,rs,rb⟩:=key r ek e (fun y ey=>by unfold kidV;rw[l];exact zip_get hq.1 ey) ev
    refine⟨v',pv,rs,fun O' H' s' f g nw=>?_⟩
    obtain⟨o',l'⟩:=g a _ p np o l trivial
    rw[ep]
    exact⟨a,C,dx,ys,ev,o',l',hq,rb O' H' s' f g nw⟩
end
def WOw(W:Nat→List Nat→Prop)(o:Own):Prop:=∃i p,o=.tr i p∧W i p
structure GoT(W:Nat→List Nat→Prop)(O O':Ow)(H H':Hp):Prop where
 cells:∀b o,H b=some o→(¬WOw W (O b)∨Fix o)→(h:nT o:=by exact trivial)→H' b=some o
 own:∀b,H b≠none→¬WOw W (O b)→O' b=O b
 has:∀b,H b≠none→H' b≠none
 tb:∀b ps,H b=some (.tbl ps)→∃ps',H' b=some (.tbl ps')
 gd:TabsOk H→TabsOk H'
theorem wo_not{W:Nat→List Nat→Prop}{o:Own}(h:∀i p,o≠.tr i p):¬WOw W o:=fun⟨i,p,e,_⟩=>h i p e
theorem GoT.gs{W:Nat→List Nat→Prop}{O O':Ow}{H H':Hp}(g:GoT W O O' H H'):Gs O O' H H':=by
 refine⟨fun b o e h n=>g.cells b o e ?_ n,fun b h f=>g.own b h ?_,g.has,g.tb,g.gd⟩
 ·rcases h with h | h | h
  ·exact .inl (wo_not fun i p z=>by rw[h]at z;cases z)
  ·exact .inl (wo_not fun i p z=>by rw[h]at z;cases z)
  ·exact .inr h
 ·rcases f with f | f
  ·exact wo_not fun i p z=>by rw[f]at z;cases z
  ·exact wo_not fun i p z=>by rw[f]at z;cases z
section
variable{K:FrgT}{mg:BinT}{O O':Ow}{H H':Hp}{W:Nat→List Nat→Prop}
theorem Rep.gs(g:Gs O O' H H'){d:D}{v:V}(h:Rep K mg O H d v):Rep K mg O' H' d v:=by
 obtain⟨y,r,e,a,_⟩:=RepAll.gs g (RepAll.one h)
 cases e
 exact a
theorem SlotR.goT(g:GoT W O O' H H'){j:Nat}(hj:∀r,¬W j r):∀{s:Slot}{u:Option V},SlotR K mg O H (.loc j) s u→SlotR K mg O' H' (.loc j) s u:=by
 have nl:∀{b:Addr},O b=.loc j→¬WOw W (O b):=fun o=>wo_not fun i p z=>by rw[o]at z;cases z
 have nt:∀{b:Addr}{r:List Nat},O b=.tr j r→¬WOw W (O b):=fun{b r} o ⟨i,p,e,w⟩=>by rw[o]at e;cases e;exact hj _ w
 have no:∀{b:Addr},O b=.out→¬WOw W (O b):=fun o=>wo_not fun i p z=>by rw[o]at z;cases z
 have nf:∀{b:Addr},O b=.free∨O b=.out→¬WOw W (O b):=fun o=>wo_not fun i p z=>by rcases o with o | o<;>rw[o]at z<;>cases z
 intro s u h
 cases s with
 |emp=>trivial
 |val _=>obtain⟨v,q,r⟩:=h;exact⟨v,q,r.gs g.gs⟩
 | ow _ _=>obtain⟨a,ys,q,o,l,r⟩:=h;exact⟨a,ys,q,(g.own a (by rw[l];intro z;cases z) (nl o)).trans o,g.cells _ _ l (.inl (nl o)),RepAll.gs g.gs r⟩
 |vw _=>obtain⟨a,ys,q,l,r⟩:=h;exact⟨a,ys,q,g.gs.lsV l,RepAll.gs g.gs r⟩
 | dct _=>obtain⟨a,ys,q,o,l,r⟩:=h;exact⟨a,ys,q,(g.own a (by rw[l];intro z;cases z) (nl o)).trans o,g.cells _ _ l (.inl (nl o)),r.1,RepAll.gs g.gs r.2⟩
 |vd _=>
  obtain⟨a,ys,q,⟨l,f⟩,r⟩:=h
  refine⟨a,ys,q,⟨?_,by rw[g.own a (Rd.some l) (nf f)];exact f⟩,r.1,RepAll.gs g.gs r.2⟩
  rcases l with l | ⟨o,l⟩
  ·exact .inl (g.cells _ _ l (.inl (nf f)))
  ·exact .inr ⟨o,g.cells _ _ l (.inl (nf f))⟩
 | pd _=>obtain⟨a,ys,q,o,l,r⟩:=h;exact⟨a,ys,q,(g.own a (by rw[l];intro z;cases z) (nl o)).trans o,g.cells _ _ l (.inl (nl o)),r.1,r.2.all fun _ _ z=>Rep.gs g.gs z⟩
 |vp _=>
  obtain⟨a,ys,q,⟨l,f⟩,r⟩:=h
  refine⟨a,ys,q,⟨?_,by rw[g.own a (Rd.some l) (nf f)];exact f⟩,r.1,r.2.all fun _ _ z=>Rep.gs g.gs z⟩
  rcases l with l | ⟨o,l⟩
  ·exact .inl (g.cells _ _ l (.inl (nf f)))
  ·exact .inr ⟨o,g.cells _ _ l (.inl (nf f))⟩
 |tr m t=>
  obtain⟨v,q,r⟩:=h
  refine⟨v,q,r.all (fun _ _ z=>Rep.gs g.gs z) fun a u p o l n=>?_⟩
  have nw:¬WOw W (O a):=by
   cases m with
   |view=>exact no o
   |own=>exact nt o
   |par=>exact nt o
  exact⟨(g.own a (by rw[l];intro z;cases z) nw).trans o,g.cells _ _ l (.inl nw) n⟩
theorem S3.goT{σ σ':En}{S:Store}{σV:St}(st:S3 K mg O σ S σV H)(g:GoT W O O' H H')(d:Dom O' H')(hl:σ'.length=σ.length)
  (hs:∀j s,σ'[j]? = some s→(σ[j]? = some s∧∀r,¬W j r)∨SlotR K mg O' H' (.loc j) s (σV[j]?.join)):S3 K mg O' σ' S σV H':=
 ⟨d,hl.trans st.len,fun j s e=>(hs j s e).elim (fun z=>(st.loc j s z.1).goT g z.2) id,st.emp⟩
end
structure Pt where
 i:Nat
 p:List Nat
 m:TM
 t:Tr
noncomputable abbrev MP:=En→M Pt
def PthR(H:Hp)(σ:En)(σV:St)(x:Pt)(v:V):Prop:=∃t0 v0,σ[x.i]? = some (.tr x.m t0)∧Tr.atP x.p t0=some x.t∧σV[x.i]?.join=some v0∧PathV H v0 x.p v
theorem PthR.go{O O':Ow}{H H':Hp}{σ:En}{σV:St}{x:Pt}{v:V}(g:Go O O' H H')(h:PthR H σ σV x v):PthR H' σ σV x v:=by
 obtain⟨t0,v0,a,b,c,d⟩:=h
 exact⟨t0,v0,a,b,c,d.same g.same⟩
theorem PthR.tree{K:FrgT}{mg:BinT}{O:Ow}{H:Hp}{σ:En}{S:Store}{σV:St}{x:Pt}{v:V}(st:S3 K mg O σ S σV H)(h:PthR H σ σV x v):TreeR K mg O H (x.m.ow (.loc x.i)) x.p x.t v:=by
 obtain⟨t0,v0,a,b,c,d⟩:=h
 obtain⟨v1,e1,r⟩:=st.loc _ _ a
 rw[c]at e1
 cases e1
 obtain⟨v',pv,rs,_⟩:=r.split b
 rw[d.det pv]
 exact rs
noncomputable def tpOf(K:FrgT)(mg:BinT)(m:MP):TE:=fun σV H Q=>∃O σ S x S',S3 K mg O σ S σV H∧(m σ).run S=.ok x S'∧∀O' v H',Go O O' H H'→S3 K mg O' σ S' σV H'→PthR H' σ σV x v→Q v H'
abbrev CP(X:Cx)(e:Expr)(m:MP):Prop:=PE X e (tpOf X.K X.mg m)
noncomputable def pVar(i:Nat):MP:=fun σ=>match σ[i]? with
 |some (.tr m t)=>pure ⟨i,[],m,t⟩
 |_=>bad
noncomputable def kidM(ts:List Tr)(n:Nat)(f:Tr→Pt):M Pt:=match ts[n]? with
 |some s=>pure (f s)
 |none=>bad
noncomputable def pAt(m:MP)(c:Str)(n:Nat)(f:Str):MP:=fun σ=>do
 let x ←m σ
 match x.t with
 |.ob c' ns ts=>if c'=c∧ns[n]? = some f then kidM ts n (Pt.mk x.i (x.p++[n]) x.m)else bad
 |_=>bad
structure ClsT(K:FrgT)(mg:BinT)(c:Str)(fs:List Str):Prop where
 ex:∃C,mg c=some (.ref C)∧Cls K C∧(W.makesIn K C=true∧W.keepIn K (.ref C)=true)∧∀f∈fs,NoAttr K C f
theorem zip_lookup{α β:Type}[BEq α][LawfulBEq α]:∀{ks:List α}{ys:List β}{n:Nat}{f:α}{y:β},ks.Nodup→ks[n]? = some f→ys[n]? = some y→(ks.zip ys).lookup f=some y
 | [],_,_,_,_,_,e,_=>by simp at e
 | _::_,[],_,_,_,_,_,e=>by simp at e
 |k::ks,z::ys,0,f,y,_,e1,e2=>by
  cases(show some k=some f from e1)
  cases(show some z=some y from e2)
  simp[List.lookup]
 |k::ks,z::ys,n+1,f,y,nd,e1,e2=>by
  have e1':ks[n]? = some f:=by simpa using e1
  have e2':ys[n]? = some y:=by simpa using e2
  have ne:¬f=k:=by
   rintro rfl
   exact(List.nodup_cons.mp nd).1 (List.mem_iff_getElem?.mpr ⟨n,e1'⟩)
  have:(f==k)=false:=by simpa using ne
  show List.lookup f ((k,z)::ks.zip ys)=some y
  rw[List.lookup_cons,this]
  exact zip_lookup (List.nodup_cons.mp nd).2 e1' e2'
section
variable{X:Cx}{e k:Expr}{m:MP}{mk:ME}{pos p:Pos}
theorem cp_var(i:Nat){x:Str}{pos:Pos}(hN:X.N[i]? = some x:=by rfl)(hv:Vis X.env.scope x:=by first | exact Or.inl rfl | exact Or.inr (Or.inl rfl) | exact Or.inr (Or.inr rfl))(hd:(x==("__debug__":Str))=false:=by decide)
  (hcd:(x==("__classdict__":Str))=false:=by decide):CP X (.Name x pos) (pVar i):=pe_imp (pe_var hN hv hd hcd)<|by
 rintro σV H Q ⟨O,σ,S,r,S',st,h,q⟩
 unfold pVar at h
 split at h
 ·rename_i m t e
  cases h
  obtain⟨v,e1,_⟩:=st.loc i _ e
  refine⟨v,?_,q O v H (Go.refl _ _) st ⟨t,v,e,rfl,e1,rfl⟩⟩
  cases w:σV[i]? with
  |none=>rw[w]at e1;cases e1
  |some y=>rw[w]at e1;exact congrArg some e1
 ·cases h
theorem PthR.kid{H:Hp}{σ:En}{σV:St}{x:Pt}{a:Addr}{n:Nat}{s:Tr}{y:V}(h:PthR H σ σV x (.ref a))(e:x.t.kids[n]? = some s)(k:kidV H a n=some y):PthR H σ σV ⟨x.i,x.p++[n],x.m,s⟩ y:=by
 obtain⟨t0,v0,h1,h2,h3,h4⟩:=h
 exact⟨t0,v0,h1,atP_snoc e h2,h3,h4.snoc k⟩
theorem cp_at{c f:Str}{fs:List Str}(n:Nat)(T:ClsT X.K X.mg c fs)(he:CP X e m)(hf:f∈fs:=by decide +kernel)(hb:attributeBase e f X.env (eval e X.env)=eval e X.env:=by rfl):CP X (.Attribute e f pos) (pAt m c n f):=pe_imp (pe_fld he hb)<|by
 rintro σV H Q ⟨O,σ,S,r,S',st,h,q⟩
 obtain⟨x,S1,h1,h⟩:=M.inv h
 split at h
 ·rename_i c' ns ts et
  by_cases cc:c'=c∧ns[n]? = some f
  ·rw[if_pos cc]at h
   unfold kidM at h
   split at h
   ·rename_i s es
    cases h
    refine⟨O,σ,S,x,_,st,h1,fun O1 v H1 g1 st1 pr=>?_⟩
    have tr:=pr.tree st1
    rw[et]at tr
    obtain⟨a,C,dx,ys,ev,o,l,hq,r⟩:=tr
    subst ev
    obtain⟨y,ey,_⟩:=r.get es
    obtain⟨C',hC,cl,_,na⟩:=T.ex
    have eC:C'=C:=by
     have:=hq.2.2.1
     rw[cc.1,hC]at this
     cases this
     rfl
    subst eC
    exact⟨a,C',dx,_,y,rfl,l,cl,na f hf,zip_lookup hq.2.1 cc.2 ey,q O1 y H1 g1 st1 (pr.kid (by rw[et];exact es) (by unfold kidV;rw[l];exact zip_get hq.1 ey))⟩
   ·cases h
  ·rw[if_neg cc]at h;cases h
 ·cases h
noncomputable def cLeaf(m:MP):ME:=fun σ=>do
 let x ←m σ
 match x.t with
 |.lf d=>pure (.v d)
 |_=>bad
theorem ce_leaf(he:CP X e m):CE X e (cLeaf m):=pe_imp he<|by
 rintro σV H Q ⟨O,σ,S,r,S',st,h,q⟩
 obtain⟨x,S1,h1,h⟩:=M.inv h
 split at h
 ·rename_i d et
  cases h
  refine⟨O,σ,S,x,_,st,h1,fun O1 v H1 g1 st1 pr=>q O1 v H1 g1 st1 ?_ trivial⟩
  have tr:=pr.tree st1
  rw[et]at tr
  exact tr
 ·cases h
end
theorem Dom.upd{O:Ow}{H:Hp}{a:Addr}{u u':HO}(d:Dom O H)(hH:H a=some u)(h1:∀ps,u≠.tbl ps)(h2:∀q,u≠.ext (cdP a q)):Dom O (upd H a u'):=⟨fun b hb=>by
 by_cases e:b=a
 ·rw[e,upd_same];intro z;cases z
 ·rw[upd_ne e];exact d.has b hb,d.tabs.put u' (fun ps z=>h1 ps (Option.some.inj (hH.symm.trans z))) (fun q z=>h2 q (Option.some.inj (hH.symm.trans z)))⟩
theorem S3.putT{K:FrgT}{mg:BinT}{O:Ow}{H:Hp}{σ:En}{S:Store}{σV:St}{x:Pt}{a:Addr}{u u':HO}{s' t0:Tr}(st:S3 K mg O σ S σV H)(pr:PthR H σ σV x (.ref a))(hm:x.m≠.view)(e0:σ[x.i]? = some (.tr x.m t0))
  (ho:O a=.tr x.i x.p) (hH:H a=some u) (nf:¬Fix u) (h1:∀ps,u≠.tbl ps) (h2:∀q,u≠.ext (cdP a q))
  (new:(∀d v,Rep K mg O H d v→Rep K mg O (upd H a u') d v)→(∀b o r,r≠[]→O b=.tr x.i (x.p++r)→H b=some o→upd H a u' b=some o)→TreeR K mg O (upd H a u') (.loc x.i) x.p s' (.ref a)) :
  S3 K mg O (σ.set x.i (.tr x.m (Tr.put x.p t0 s'))) S σV (upd H a u')∧Gs O O H (upd H a u')∧Kp σ (σ.set x.i (.tr x.m (Tr.put x.p t0 s'))) σV σV:=by
 have wa:WOw (fun i p=>i=x.i∧p=x.p) (O a):=⟨_,_,ho,rfl,rfl⟩
 have g:GoT (fun i p=>i=x.i∧p=x.p) O O H (upd H a u'):=by
  refine⟨fun b o e h _=>?_,fun _ _ _=>rfl,fun b hb=>?_,fun b ps e=>⟨ps,?_⟩,fun z=>z.put u' (fun ps z=>h1 ps (Option.some.inj (hH.symm.trans z))) (fun q z=>h2 q (Option.some.inj (hH.symm.trans z)))⟩
  ·rw[upd_ne]
   ·exact e
   ·rintro rfl
    rcases h with h | h
    ·exact h wa
    ·rw[hH]at e;cases e;exact nf h
  ·by_cases e:b=a
   ·rw[e,upd_same];intro z;cases z
   ·rw[upd_ne e];exact hb
  ·rw[upd_ne]
   ·exact e
   ·rintro rfl;rw[hH]at e;cases e;exact h1 _ rfl
 have hlt:x.i<σ.length:=(List.getElem?_eq_some_iff.mp e0).1
 have f:∀d v,Rep K mg O H d v→Rep K mg O (upd H a u') d v:=fun _ _ z=>Rep.gs g.gs z
 have mo:x.m.ow (.loc x.i)=.loc x.i:=by
  cases em:x.m with
  |view=>exact absurd em hm
  |own=>rfl
  |par=>rfl
 refine⟨st.goT g (st.dom.upd hH h1 h2) (List.length_set ..) fun j s e=>?_,g.gs,Kp.put e0 (fun xs z=>by cases z) (fun xs z=>by cases z) fun m t z hn=>by cases z;exact⟨hm,_,rfl⟩⟩
 by_cases hj:x.i=j
 ·subst hj
  rw[List.getElem?_set_self hlt]at e
  cases e
  refine .inr ?_
  obtain⟨t1,v0,e1,e2,e3,e4⟩:=pr
  rw[e0]at e1
  cases e1
  obtain⟨v1,ev,r⟩:=st.loc _ _ e0
  rw[e3]at ev
  cases ev
  refine⟨v0,e3,?_⟩
  rw[mo]at r ⊢
  obtain⟨v',pv,rs,rb⟩:=r.split e2
  cases e4.det pv
  refine rb O _ s' f (fun b o r hr ob hb _=>⟨ob,?_⟩) (new f fun b o r hr ob hb=>?_)
  ·rw[upd_ne]
   ·exact hb
   ·rintro rfl
    rw[show O b=.tr x.i x.p from ho]at ob
    cases ob
    exact hr (List.prefix_refl _)
  ·rw[upd_ne]
   ·exact hb
   ·rintro rfl
    rw[ho]at ob
    have:x.p=x.p++r:=by injection ob
    have:=congrArg List.length this
    rw[List.length_append]at this
    exact hr (List.eq_nil_of_length_eq_zero (by omega))
 ·rw[List.getElem?_set_ne hj]at e
  exact .inl ⟨e,fun r z=>hj z.1.symm⟩
theorem zip_putF:∀{ks:List Str}{ys:List V}{n:Nat}{f:Str}{v:V},ks.Nodup→ks[n]? = some f→n<ys.length→putF f v (ks.zip ys)=ks.zip (ys.set n v)
 | [],_,_,_,_,_,e,_=>by simp at e
 |_::_,[],_,_,_,_,_,h=>absurd h (Nat.not_lt_zero _)
 |k::ks,z::ys,0,f,v,_,e,_=>by
  cases(show some k=some f from e)
  show(if k=k then _ else _)=_
  rw[if_pos rfl]
  rfl
 |k::ks,z::ys,n+1,f,v,nd,e,h=>by
  have e':ks[n]? = some f:=by simpa using e
  have ne:¬k=f:=by
   rintro rfl
   exact(List.nodup_cons.mp nd).1 (List.mem_iff_getElem?.mpr ⟨n,e'⟩)
  show(if k=f then _ else(k,z)::putF f v (ks.zip ys))=_
  rw[if_neg ne,zip_putF (List.nodup_cons.mp nd).2 e' (by simpa using h)]
  rfl
theorem zip_putN:∀{ks:List Str}{ys:List V}{f:Str}{v:V},ks.length=ys.length→f∉ks→putF f v (ks.zip ys)=(ks++[f]).zip (ys++[v])
 |[],[],_,_,_,_=>rfl
 | _::_,[],_,_,h,_=>by simp at h
 | [],_::_,_,_,h,_=>by simp at h
 |k::ks,z::ys,f,v,hl,nf=>by
  show(if k=f then _ else(k,z)::putF f v (ks.zip ys))=_
  rw[if_neg (fun e=>nf (by rw[e];exact List.mem_cons_self ..)),zip_putN (by simpa using hl) (fun e=>nf (List.mem_cons_of_mem _ e))]
  rfl
section
variable{X:Cx}{e k value:Expr}{mp:MP}{mk mv:ME}{pos pos':Pos}
noncomputable def cTIx(mp:MP)(mk mv:ME):MS:=fun σ=>do
 let r ←mv σ
 let d ←r.dat
 let x ←mp σ
 let k ←mk σ
 match x.t,k,σ[x.i]? with
 |.ls ts,.v (.int j),some (.tr m t0)=>if(0≤j∧j<ts.length)∧m≠.view then pure (.nx (σ.set x.i (.tr m (Tr.put x.p t0 (.ls (ts.set j.toNat (.lf d)))))))else bad
 |_,_,_=>bad
noncomputable def cTAt(mp:MP)(c:Str)(n:Nat)(f:Str)(mv:ME):MS:=fun σ=>do
 let r ←mv σ
 let d ←r.dat
 let x ←mp σ
 match x.t,σ[x.i]? with
 |.ob c' ns ts,some (.tr m t0)=>if(c'=c∧ns[n]? = some f∧ts.length<1000)∧m≠.view then pure (.nx (σ.set x.i (.tr m (Tr.put x.p t0 (.ob c ns (ts.set n (.lf d)))))))else bad
 |_,_=>bad
noncomputable def cTAn(mp:MP)(c:Str)(A:List Str)(f:Str)(mv:ME):MS:=fun σ=>do
 let r ←mv σ
 let d ←r.dat
 let x ←mp σ
 match x.t,σ[x.i]? with
 |.ob c' ns ts,some (.tr m t0)=>if(c'=c∧ns=A∧ts.length<900)∧m≠.view then pure (.nx (σ.set x.i (.tr m (Tr.put x.p t0 (.ob c (A++[f]) (ts++[.lf d]))))))else bad
 |_,_=>bad
theorem cs_tat{c f:Str}{fs:List Str}(n:Nat)(T:ClsT X.K X.mg c fs)(he:CP X e mp)(hval:CE X value mv)(hf:f∈fs:=by decide +kernel)(hs:swapsWith value (some (.Attribute e f pos')) pos.line X.env=pure false:=by rfl) :
  CS X (.Assign [.Attribute e f pos'] value pos) (cTAt mp c n f mv):=ps_imp (ps_fld he hval hs)<|by
 rintro D σV H ⟨O,σ,S,fl,S',st,h,q⟩
 obtain⟨r,S1,h1,h⟩:=M.inv h
 obtain⟨d,S2,h2,h⟩:=M.inv h
 obtain⟨x,S3',h3,h⟩:=M.inv h
 split at h
 ·rename_i c' ns ts m t0 et e0
  by_cases cc:(c'=c∧ns[n]? = some f∧ts.length<1000)∧m≠.view
  ·rw[if_pos cc]at h
   cases h
   obtain⟨⟨rfl,cn,cl⟩,cm⟩:=cc
   refine⟨O,σ,S,r,S1,st,h1,fun O1 v H1 g1 st1 rr nn=>?_⟩
   obtain⟨rd,rfl⟩:=dat_rep (H₀:=H) rr nn h2
   refine⟨frz H O1,σ,S1,x,_,st1.frz H,h3,fun O2 va H2 g2 st2 pr=>?_⟩
   have em:m=x.m:=by obtain⟨t1,_,e1,_⟩:=pr;rw[e0]at e1;cases e1;rfl
   subst em
   have tr:=pr.tree st2
   have mo:x.m.ow (.loc x.i)=.loc x.i:=by
    cases em:x.m with
    |view=>exact absurd em cm
    |own=>rfl
    |par=>rfl
   rw[et,mo]at tr
   obtain⟨a,C,dx,ys,ev,o,l,hq,ra⟩:=tr
   subst ev
   have hln:=ra.len
   have hlt:n<ns.length:=(List.getElem?_eq_some_iff.mp cn).1
   have hlz:(ns.zip ys).length=ts.length:=by rw[List.length_zip];omega
   obtain⟨C',hC,clC,_,na⟩:=T.ex
   have eC:C'=C:=by
    have:=hq.2.2.1
    rw[hC]at this
    cases this
    rfl
   subst eC
   refine⟨a,C',dx,_,rfl,l,clC,na f hf,by rw[hlz];exact cl,?_⟩
   rw[zip_putF hq.2.1 cn (by omega)]
   have rd3:=Rep.go g2 rd
   obtain⟨s1,s2,s3⟩:=st2.putT (u':=.ins C' dx (ns.zip (ys.set n v))) (s':=.ob c' ns (ts.set n (.lf d))) pr cm e0 o l (by rintro(⟨_,z⟩ | ⟨_,_,z⟩)<;>cases z) (by intro ps z;cases z) (by intro q z;cases z) fun f g=>
    ⟨a,C',dx,_,rfl,o,upd_same,⟨by rw[List.length_set];exact hq.1,hq.2⟩,TreeAll.set f (fun b u i r _ ob hb _=>⟨ob,g b u _ (by intro z;cases z) ob hb⟩) ra (by omega) (f _ _ rd3)⟩
   exact q O2 σV _ ((g1.frz.trans g2).gs.trans s2) s1 s3
  ·rw[if_neg cc]at h;cases h
 ·cases h
theorem cs_tan{c f:Str}{fs:List Str}(A:List Str)(T:ClsT X.K X.mg c fs)(he:CP X e mp)(hval:CE X value mv)(hf:f∈fs:=by decide +kernel)(hA:f∉A:=by decide +kernel)(hs:swapsWith value (some (.Attribute e f pos')) pos.line X.env=pure false:=by rfl) :
  CS X (.Assign [.Attribute e f pos'] value pos) (cTAn mp c A f mv):=ps_imp (ps_fld he hval hs)<|by
 rintro D σV H ⟨O,σ,S,fl,S',st,h,q⟩
 obtain⟨r,S1,h1,h⟩:=M.inv h
 obtain⟨d,S2,h2,h⟩:=M.inv h
 obtain⟨x,S3',h3,h⟩:=M.inv h
 split at h
 ·rename_i c' ns ts m t0 et e0
  by_cases cc:(c'=c∧ns=A∧ts.length<900)∧m≠.view
  ·rw[if_pos cc]at h
   cases h
   obtain⟨⟨rfl,rfl,cl⟩,cm⟩:=cc
   refine⟨O,σ,S,r,S1,st,h1,fun O1 v H1 g1 st1 rr nn=>?_⟩
   obtain⟨rd,rfl⟩:=dat_rep (H₀:=H) rr nn h2
   refine⟨frz H O1,σ,S1,x,_,st1.frz H,h3,fun O2 va H2 g2 st2 pr=>?_⟩
   have em:m=x.m:=by obtain⟨t1,_,e1,_⟩:=pr;rw[e0]at e1;cases e1;rfl
   subst em
   have tr:=pr.tree st2
   have mo:x.m.ow (.loc x.i)=.loc x.i:=by
    cases em:x.m with
    |view=>exact absurd em cm
    |own=>rfl
    |par=>rfl
   rw[et,mo]at tr
   obtain⟨a,C,dx,ys,ev,o,l,hq,ra⟩:=tr
   subst ev
   have hln:=ra.len
   have hlz:(ns.zip ys).length=ts.length:=by rw[List.length_zip];omega
   obtain⟨C',hC,clC,_,na⟩:=T.ex
   have eC:C'=C:=by
    have:=hq.2.2.1
    rw[hC]at this
    cases this
    rfl
   subst eC
   refine⟨a,C',dx,_,rfl,l,clC,na f hf,by rw[hlz];omega,?_⟩
   rw[zip_putN hq.1 hA]
   have rd3:=Rep.go g2 rd
   have nd:(ns++[f]).Nodup:=List.nodup_append.mpr ⟨hq.2.1,List.nodup_cons.mpr ⟨by simp,List.nodup_nil⟩,fun b hb d hd=>by
    rw[List.mem_singleton]at hd
    subst hd
    rintro rfl
    exact hA hb⟩
   obtain⟨s1,s2,s3⟩:=st2.putT (u':=.ins C' dx ((ns++[f]).zip (ys++[v]))) (s':=.ob c' (ns++[f]) (ts++[.lf d])) pr cm e0 o l (by rintro(⟨_,z⟩ | ⟨_,_,z⟩)<;>cases z) (by intro ps z;cases z) (by intro q z;cases z) fun f g=>by
    have tk:TreeAll X.K X.mg O2 _ (.loc x.i) x.p 0 ts ys:=TreeAll.kids f (fun b u i r ob hb _=>⟨ob,g b u (i::r) (by intro z;cases z) ob hb⟩) ra
    exact⟨a,C',dx,_,rfl,o,upd_same,⟨by rw[List.length_append,List.length_append,hq.1];rfl,nd,hq.2.2⟩,TreeAll.snoc (s:=.lf d) tk (f _ _ rd3)⟩
   exact q O2 σV _ ((g1.frz.trans g2).gs.trans s2) s1 s3
  ·rw[if_neg cc]at h;cases h
 ·cases h
end
noncomputable abbrev MT:=En→M Tr
noncomputable abbrev MTs:=En→M (List Tr)
noncomputable def tvOf(K:FrgT)(mg:BinT)(j:Nat)(p:List Nat)(m:MT):TE:=fun σV H Q=>∃O σ S t S',S3 K mg O σ S σV H∧(m σ).run S=.ok t S'∧∀O' v H',Go O O' H H'→S3 K mg O' σ S' σV H'→TreeR K mg O' H' (.loc j) p t v→Q v H'
abbrev CV(X:Cx)(j:Nat)(p:List Nat)(e:Expr)(m:MT):Prop:=PE X e (tvOf X.K X.mg j p m)
noncomputable def vOwn(m:ME):MT:=fun σ=>do
 let r ←m σ
 match r with
 |.fr xs=>pure (.ls (xs.map .lf))
 |_=>bad
section
variable{K:FrgT}{mg:BinT}{O O':Ow}{H H':Hp}
theorem S3.adopt{σ:En}{S:Store}{σV:St}{a:Addr}{w:Own}(st:S3 K mg O σ S σV H)(ht:O a=.tmp)(hl:H a≠none):S3 K mg (updO O a w) σ S σV H∧Fre O (updO O a w):=by
 have ne:∀{b:Addr}{w':Own},O b=w'→w'≠.tmp→updO O a w b=w':=fun{b w'} h hw=>by
  rw[updO_ne];exact h
  rintro rfl;exact hw (h.symm.trans ht)
 have fre:Fre O (updO O a w):=⟨fun b h=>ne h (by intro z;cases z)⟩
 refine⟨⟨⟨fun b hb=>?_,st.dom.tabs⟩,st.len,fun j s e=>(st.loc j s e).fre fre (fun b h=>ne h (by intro z;cases z)) (fun b h=>ne h (by intro z;cases z)) (fun b p h=>ne h (by intro z;cases z)),st.emp⟩,fre⟩
 by_cases e:b=a
 ·rw[e];exact hl
 ·rw[updO_ne e]at hb;exact st.dom.has b hb
theorem treeAll_lf{w:Own}{p:List Nat}:∀{xs:List D}{ys:List V}{n:Nat},RepAll K mg O H xs ys→TreeAll K mg O H w p n (xs.map .lf) ys
 |[],_,_,h=>h
 | _::_,_,_,h=>by obtain⟨y,r,e,a,b⟩:=h;exact⟨y,r,e,a,treeAll_lf b⟩
end
section
variable{X:Cx}{e:Expr}{es:List Expr}{m:ME}{mt:MT}{ms:MTs}{pos:Pos}{j:Nat}{p:List Nat}{n:Nat}
theorem cv_own(h:CE X e m):CV X j p e (vOwn m):=pe_imp h<|by
 rintro σV H Q ⟨O,σ,S,t,S',st,h,q⟩
 obtain⟨r,S1,h1,h⟩:=M.inv h
 split at h
 ·rename_i xs
  cases h
  refine⟨O,σ,S,_,_,st,h1,fun O1 v H1 g1 st1 rr nn=>?_⟩
  obtain⟨a,ys,rfl,l,t,ra⟩:=rr
  obtain⟨s1,fre⟩:=st1.adopt (w:=.tr j p) t (by rw[l];intro z;cases z)
  have ha:=nn a rfl
  exact q (updO O1 a (.tr j p)) _ H1 ⟨g1.same,fun b hb=>by rw[updO_ne (by rintro rfl;exact hb ha)];exact g1.own b hb⟩ s1 ⟨a,ys,rfl,updO_same,l,treeAll_lf (ra.fre fre)⟩
 ·cases h
noncomputable def cTSet(j:Nat)(m:MT):MS:=fun σ=>do
 let t ←m σ
 pure (.nx (σ.set j (.tr .own t)))
theorem cs_tset{x:Str}{pos':Pos}(hN:X.N.Nodup)(hi:X.N[j]? = some x)(hx:Loc X.env.scope x)(he:CV X j [] e mt)(hs:swapsWith e (some (.Name x pos')) pos.line X.env=pure false:=by rfl)(hf:X.fn x=true∨X.env.scope.names.lookup x=some .local:=by first | exact .inl rfl | exact .inr rfl | assumption) :
  CS X (.Assign [.Name x pos'] e pos) (cTSet j mt):=ps_imp (ps_set hN hi hx he hs hf)<|by
 rintro D σV H ⟨O,σ,S,fl,S',st,h,q⟩
 obtain⟨t,S1,h1,h⟩:=M.inv h
 cases h
 exact⟨O,σ,S,t,_,st,h1,fun O1 v H1 g1 st1 tr=>q O1 _ H1 g1.gs (st1.set ⟨v,rfl,tr⟩) (Kp.set (fun xs z=>by cases z) (fun xs z=>by cases z) fun m t z=>by cases z;rfl)⟩
end
noncomputable def Pr(D:Ends):Ends:={ D with bk:=fun _ H'=>D.rt .non H' }
abbrev CR(X:Cx)(st:Stmt)(m:MS):Prop:=PS X st fun D=>tsOf X.K X.mg m (Pr D)
abbrev CRs(X:Cx)(sts:List Stmt)(m:MS):Prop:=PSs X sts fun D=>tsOf X.K X.mg m (Pr D)
noncomputable def cNoB(m:MS):MS:=fun σ=>do
 let fl ←m σ
 match fl with
 |.bk _=>bad
 |fl=>pure fl
section
variable{X:Cx}{st:Stmt}{rest:List Stmt}{pos:Pos}{a b:MS}
theorem cr_of(h:CS X st a):CR X st (cNoB a):=ps_imp h<|by
 rintro D σV H ⟨O,σ,S,fl,S',s3,h,q⟩
 obtain⟨f,S1,h1,h⟩:=M.inv h
 refine⟨O,σ,S,f,S1,s3,h1,?_⟩
 cases f with
 |bk _=>cases h
 |nx σ'=>cases h;exact q
 |ct σ'=>cases h;exact q
 |rt r=>cases h;exact q
theorem crs_one(h:CR X st a):CRs X [st] a:=pss_one h
theorem crs_cons(h1:CR X st a)(h2:CRs X rest b):CRs X (st::rest) (cSeq a b):=pss_imp (pss_cons h1 h2)<|by
 rintro D σV H ⟨O,σ,S,fl,S',st,h,q⟩
 obtain⟨f1,S1,h1,h⟩:=M.inv h
 refine⟨O,σ,S,f1,S1,st,h1,?_⟩
 cases f1 with
 |nx σ1=>exact fun O1 σV1 H1 g1 st1 k1=>⟨O1,σ1,S1,fl,S',st1,h,q.gs g1 k1⟩
 |rt r=>cases h;exact q
 |bk σ1=>cases h;exact q
 |ct σ1=>cases h;exact q
end
noncomputable abbrev MTR:=List Tr→List D→M (List Tr)
noncomputable def trsOf:List Slot→M (List Tr)
 |[]=>pure []
 |.tr .par t::r=>do
  let ts ←trsOf r
  pure (t::ts)
 |_=>bad
noncomputable def trEnd(nt:Nat)(σ':En):M (List Tr):=do
 let ts ←trsOf (σ'.take nt)
 chk (ts.length=nt)
 pure ts
noncomputable def fnTR(nt n N:Nat)(b:MS):MTR:=fun ts ds=>if ts.length=nt∧nt+ds.length=n then do
  let fl ←b (ts.map (.tr .par)++ds.map .val++List.replicate (N-n) .emp)
  match fl with
  |.nx σ'=>trEnd nt σ'
  |.bk σ'=>trEnd nt σ'
  |_=>bad
 else bad
noncomputable abbrev Rt:=Nat×List Nat
def Roots(K:FrgT)(mg:BinT)(O:Ow)(H:Hp)(ws:List Rt)(ts:List Tr)(us:List V):Prop:=∀(k:Nat)(r:Rt),ws[k]? = some r→∃t u,ts[k]? = some t∧us[k]? = some u∧TreeR K mg O H (.loc r.1) r.2 t u
def Un(ws:List Rt)(j:Nat)(p:List Nat):Prop:=∃P,(j,P)∈ws∧P <+: p
noncomputable def spTR(K:FrgT)(mg:BinT)(mf:MTR):Sp:=fun vs H Q _=>∃O ws ts ds us us' ts' S',vs=us++us'∧Dom O H∧(ts.length=ws.length∧us.length=ws.length)∧(ws.map (·.1)).Nodup∧Roots K mg O H ws ts us∧RepAll K mg O H ds us'∧
 (mf ts ds).run []=.ok ts' S'∧∀O' H',GoT (Un ws) O O' H H'→Dom O' H'→S'=[]→ts'.length=ws.length→Roots K mg O' H' ws ts' us→Q .non H'
noncomputable def look:List Rt→Nat→Nat→List Nat→Own
 |[],_,_,_=>.out
 |(j',P)::ws,k,j,p=>if j'=j∧P <+: p then .tr k (p.drop P.length)else look ws (k+1) j p
omit [L2.TabP]in
theorem look_un:∀{ws:List Rt}{k j:Nat}{p:List Nat},¬Un ws j p→look ws k j p=.out
 |[],_,_,_,_=>rfl
 |(j',P)::ws,k,j,p,h=>by
  unfold look
  rw[if_neg,look_un fun⟨Q,a,b⟩=>h ⟨Q,List.mem_cons_of_mem _ a,b⟩]
  rintro⟨rfl,z⟩
  exact h ⟨P,List.mem_cons_self ..,z⟩
omit [L2.TabP]in
theorem look_at:∀{ws:List Rt}{k i j:Nat}{P r:List Nat},(ws.map (·.1)).Nodup→ws[i]? = some (j,P)→look ws k j (P++r)=.tr (k+i) r
 | [],_,_,_,_,_,_,e=>by simp at e
 |(j',P')::ws,k,0,j,P,r,nd,e=>by
  cases(show some (j',P')=some (j,P)from e)
  unfold look
  rw[if_pos ⟨rfl,List.prefix_append _ _⟩,List.drop_left]
  rfl
 |(j',P')::ws,k,i+1,j,P,r,nd,e=>by
  have e':ws[i]? = some (j,P):=by simpa using e
  unfold look
  rw[List.map_cons]at nd
  rw[if_neg,look_at (List.nodup_cons.mp nd).2 e']
  ·congr 1;omega
  ·rintro⟨rfl,_⟩
   exact(List.nodup_cons.mp nd).1 (List.mem_map.mpr ⟨(_,P),List.mem_iff_getElem?.mpr ⟨i,e'⟩,rfl⟩)
noncomputable def inO(ws:List Rt)(O:Ow):Ow:=fun b=>match O b with
 |.tr j p=>look ws 0 j p
 |o=>o.blk
omit [L2.TabP]in
theorem look_ne:∀{ws:List Rt}{k j:Nat}{p:List Nat},look ws k j p≠.free
 | [],_,_,_=>by intro z;cases z
 |(j',P)::ws,k,j,p=>by
  unfold look
  split
  ·intro z;cases z
  ·exact look_ne
omit [L2.TabP]in
theorem inO_free{ws:List Rt}{O:Ow}{b:Addr}:inO ws O b=.free↔O b=.free:=by
 unfold inO
 cases e:O b with
 | tr j p=>exact⟨fun z=>absurd z look_ne,fun z=>by cases z⟩
 |_=>simp[Own.blk]
omit [L2.TabP]in
theorem inO_un{ws:List Rt}{O:Ow}{b:Addr}(h:¬WOw (Un ws) (O b)):inO ws O b=.free∨inO ws O b=.out:=by
 unfold inO
 cases e:O b with
 |tr j p=>exact .inr (look_un fun z=>h ⟨j,p,e,z⟩)
 |free=>exact .inl rfl
 |_=>exact .inr rfl
theorem inO_fre{ws:List Rt}{O:Ow}:Fre O (inO ws O):=⟨fun _ h=>inO_free.mpr h⟩
noncomputable def outO(ws:List Rt)(H:Hp)(O O':Ow)(b:Addr):Own:=
 match(generalizing:=false) O' b with
 | .tr k q=>(match ws[k]? with
  |some r=>.tr r.1 (r.2++q)
  | none=>.tmp)
 |.free=>.free
 |_=>.tmp
open Classical in
noncomputable def bkO(ws:List Rt)(H:Hp)(O O':Ow):Ow:=fun b=>if H b≠none∧¬WOw (Un ws) (O b)then O b else outO ws H O O' b
theorem trs_len:∀{ss:List Slot}{ts:List Tr}{S S':Store},(trsOf ss).run S=.ok ts S'→ts.length=ss.length∧∀(k:Nat)(t:Tr),ts[k]? = some t→ss[k]? = some (.tr .par t)
 | [],ts,S,S',h=>by cases h;exact⟨rfl,fun k t e=>by simp at e⟩
 |.tr .par t::r,ts,S,S',h=>by
  obtain⟨ts',S1,h1,h⟩:=M.inv h
  cases h
  obtain⟨a,b⟩:=trs_len h1
  refine⟨by rw[List.length_cons,List.length_cons,a],fun k t e=>?_⟩
  cases k with
  |zero=>cases e;rfl
  | succ k=>exact b k t (by simpa using e)
 | .tr .own t::r,ts,S,S',h=>by cases h
 | .tr .view t::r,ts,S,S',h=>by cases h
 | .emp::_,_,_,_,h=>by cases h
 | .val _::_,_,_,_,h=>by cases h
 | .ow _ _::_,_,_,_,h=>by cases h
 | .vw _::_,_,_,_,h=>by cases h
 | .dct _::_,_,_,_,h=>by cases h
 | .vd _::_,_,_,_,h=>by cases h
 | .pd _::_,_,_,_,h=>by cases h
 | .vp _::_,_,_,_,h=>by cases h
theorem tr_ok{P:Program}{w:World}{K:FrgT}{mg:BinT}{base:Heap}{x qual:Str}{st:Stmt}{ps N:List Str}{k:Nat}{mb:MS}{f:Addr}{fd:FuncData}{nt n nl:Nat}(F:Fun K x qual st f fd)(Sc:FnScope N ps (defScope st))(hn:ps.length=n)(hl:N.length=nl)
  (hb:∀(cdv:Value)(A:Around)(outer:List Env)(s:Shared)(H:Hp)(E:XK),Room k (A.deeper (PyProof.Rows.envOfC qual (defScope st) s.heap.objs.size f cdv))→
   CRs (cxOf CX0 P w K mg base N qual (defScope st) f cdv A outer s H E).nox (defBody st) mb):FnOk P w K mg base CX0 (k+1) f fd ps (spTR K mg (fnTR nt n nl mb)):=by
 subst hn hl
 have flen:∀{ts:List Tr}{ds:List D}{ts':List Tr}{S S':Store},(fnTR nt ps.length N.length mb ts ds).run S=.ok ts' S'→ts.length=nt∧nt+ds.length=ps.length:=fun{ts ds ts' S S'} h=>by
  unfold fnTR at h
  by_cases c:ts.length=nt∧nt+ds.length=ps.length
  ·exact c
  ·rw[if_neg c]at h;cases h
 refine F.ok Sc ?_ ?_
 ·rintro vs H Q E ⟨O,ws,ts,ds,us,us',ts',S',rfl,dm,hl,nd,rt,ra,h,q⟩
  have:=flen h
  rw[List.length_append,ra.len];omega
 rintro cdv A outer s H vs Q E hr ⟨O,ws,ts,ds,us,us',ts',S',rfl,dm,⟨hl1,hl2⟩,nd,rt,ra,h,q⟩
 refine⟨_,hb cdv A outer s H E hr,?_⟩
 obtain⟨c1,c2⟩:=flen h
 have hlu:=ra.len
 unfold fnTR at h
 rw[if_pos ⟨c1,c2⟩]at h
 obtain⟨fl,S1,h1,h⟩:=M.inv h
 have st0:S3 K mg (inO ws O) (ts.map (.tr .par)++ds.map .val++List.replicate (N.length-ps.length) .emp) [] (L2.start N (us++us')) H:=by
  refine⟨⟨fun b hb=>dm.has b fun z=>hb (inO_free.mpr z),dm.tabs⟩,?_,fun j s e=>?_,rfl⟩
  ·unfold L2.start
   simp only[List.length_append,List.length_map,List.length_replicate]
   omega
  ·unfold L2.start
   rw[List.append_assoc]at e
   by_cases hj:j<ts.length
   ·rw[List.getElem?_append_left (by rw[List.length_map];exact hj),List.getElem?_map]at e
    have hw:ws[j]? = some ws[j]:=List.getElem?_eq_getElem _
    obtain⟨t,u,et,eu,tr⟩:=rt j _ hw
    rw[et]at e
    cases e
    have ev:((us++us').map some++List.replicate (N.length-(us++us').length) none)[j]? = some (some u):=by
     rw[List.getElem?_append_left (by simp only[List.length_map,List.length_append];omega),List.getElem?_map,List.getElem?_append_left (by omega),eu]
     rfl
    refine⟨u,by rw[ev];rfl,TreeR.allP (fun _ _ z=>Rep.fre inO_fre z) t (fun b u r ob hb _=>⟨?_,hb⟩) tr⟩
    show inO ws O b=.tr j ([]++r)
    unfold inO
    have ob:O b=.tr ws[j].1 (ws[j].2++r):=ob
    rw[ob]
    have:=look_at (k:=0) (r:=r) nd hw
    rw[Nat.zero_add]at this
    exact this
   ·rw[List.getElem?_append_right (by rw[List.length_map];omega),List.length_map]at e
    by_cases hj2:j-ts.length<ds.length
    ·rw[List.getElem?_append_left (by rw[List.length_map];exact hj2),List.getElem?_map]at e
     cases ed:ds[j-ts.length]? with
     |none=>rw[ed]at e;cases e
     |some d=>
      rw[ed]at e
      cases e
      obtain⟨v,ev,rv⟩:=ra.get ed
      have ev':((us++us').map some++List.replicate (N.length-(us++us').length) none)[j]? = some (some v):=by
       rw[List.getElem?_append_left (by simp only[List.length_map,List.length_append];omega),List.getElem?_map,List.getElem?_append_right (by omega),show us.length=ts.length by omega,ev]
       rfl
      exact⟨v,by rw[ev'];rfl,rv.fre inO_fre⟩
    ·rw[List.getElem?_append_right (by rw[List.length_map];omega),List.getElem?_replicate]at e
     split at e
     ·cases e;exact trivial
     ·cases e
 have fin:∀{σ':En},(trEnd nt σ').run S1=.ok ts' S'→∀O' σV' H',Gs (inO ws O) O' H H'→S3 K mg O' σ' S1 σV' H'→Kp (ts.map (.tr .par)++ds.map .val++List.replicate (N.length-ps.length) .emp) σ' (L2.start N (us++us')) σV'→Q .non H':=fun{σ'} h O' σV' H' g st' kp=>by
  obtain⟨ts2,S2,h2,h⟩:=M.inv h
  obtain⟨_,S3',h3,h⟩:=M.inv h
  obtain⟨hnt,rfl⟩:=chk_inv h3
  cases h
  obtain⟨tl,tk⟩:=trs_len h2
  have eS:S1=S':=by
   have:∀{ss:List Slot}{ts:List Tr}{S S':Store},(trsOf ss).run S=.ok ts S'→S=S':=by
    intro ss
    induction ss with
    |nil=>intro ts S S' h;cases h;rfl
    |cons s r ih=>
     intro ts S S' h
     cases s with
     |tr m t=>
      cases m with
      |par=>obtain⟨ts',S1,h1,h⟩:=M.inv h;cases h;exact ih h1
      |own=>cases h
      |view=>cases h
     |_=>cases h
   exact this h2
  subst eS
  have o2o:∀{b:Addr},H b≠none→¬WOw (Un ws) (O b)→bkO ws H O O' b=O b:=fun a b=>if_pos ⟨a,b⟩
  have o2n:∀{b:Addr},¬(H b≠none∧¬WOw (Un ws) (O b))→bkO ws H O O' b=outO ws H O O' b:=fun a=>if_neg a
  have old:∀{b:Addr},H b≠none→¬WOw (Un ws) (O b)→O' b=inO ws O b:=fun{b} hb hw=>g.own b hb (inO_un hw)
  have fre:Fre O' (bkO ws H O O'):=⟨fun b hb=>by
   by_cases c:H b≠none∧¬WOw (Un ws) (O b)
   ·rw[o2o c.1 c.2];exact inO_free.mp ((old c.1 c.2).symm.trans hb)
   ·rw[o2n c];unfold outO;rw[hb]⟩
  refine q (bkO ws H O O') H' ⟨fun b o e h n=>?_,fun b hb hw=>o2o hb hw,g.has,g.tb,g.gd⟩ ⟨fun b hb=>?_,st'.dom.tabs⟩ st'.emp ?_ fun k r hw=>?_
  ·rcases h with h | h
   ·exact g.cells b o e ((inO_un h).elim .inl fun z=>.inr (.inl z)) n
   ·exact g.cells b o e (.inr (.inr h)) n
  ·by_cases c:H b≠none∧¬WOw (Un ws) (O b)
   ·exact g.has b c.1
   ·rw[o2n c]at hb
    refine st'.dom.has b fun z=>hb ?_
    unfold outO
    rw[z]
  ·omega
  ·have hk:k<ws.length:=(List.getElem?_eq_some_iff.mp hw).1
   have hkt:k<ts'.length:=by omega
   obtain⟨t0,u,et0,eu,_⟩:=rt k r hw
   have et:ts'[k]? = some ts'[k]:=List.getElem?_eq_getElem _
   have es:=tk k _ et
   have es':σ'[k]? = some (.tr .par ts'[k]):=by
    rw[List.getElem?_take_of_lt (by omega)]at es
    exact es
   obtain⟨_,ev⟩:=kp.2.2 k .par _ es' (by intro z;cases z)
   have ev0:(L2.start N (us++us'))[k]? = some (some u):=by
    unfold L2.start
    rw[List.getElem?_append_left (by simp only[List.length_map,List.length_append];omega),List.getElem?_map,List.getElem?_append_left (by omega),eu]
    rfl
   obtain⟨v,e1,tr⟩:=st'.loc k _ es'
   rw[ev,ev0]at e1
   cases e1
   refine⟨_,u,et,eu,TreeR.allP (fun _ _ z=>Rep.fre fre z) _ (fun b o q ob hb _=>⟨?_,hb⟩) tr⟩
   have ob:O' b=.tr k q:=ob
   have c:¬(H b≠none∧¬WOw (Un ws) (O b)):=fun c=>by
    have:=old c.1 c.2
    rw[ob]at this
    rcases inO_un c.2 with z | z<;>rw[z]at this<;>cases this
   rw[o2n c]
   unfold outO
   rw[ob]
   dsimp only
   rw[hw]
   rfl
 refine⟨inO ws O,_,[],fl,S1,st0,h1,?_⟩
 cases fl with
 |ct σ'=>cases h
 |rt r'=>cases h
 |nx σ'=>exact fin h
 |bk σ'=>exact fin h
end L3
namespace L3
open PySem PySem.Spec L2
variable[L2.TabP]
structure DfM(K:FrgT)(mg:BinT)(c m qual:Str)(st:Stmt)(ps:List Str):Prop where
 ex:∃C f fd,mg c=some (.ref C)∧Cls K C∧Meth K C m f∧Fun K m qual st f fd∧Binds K fd ps []
structure HasM(P:Program)(w:World)(K:FrgT)(mg:BinT)(base:Heap)(c m:Str)(ps:List Str)(k:Nat)(sp:Sp):Prop where
 ex:∃C f fd,mg c=some (.ref C)∧Cls K C∧Meth K C m f∧FnOk P w K mg base CX0 k f fd ps sp∧Binds K fd ps []
section
variable{P:Program}{w:World}{K:FrgT}{mg:BinT}{base:Heap}{x c m qual:Str}{st:Stmt}{ps N:List Str}{k:Nat}{mb:MS}{nt n nl:Nat}
theorem hasM_tr(Df:DfM K mg c m qual st ps)(Sc:FnScope N ps (defScope st))(hn:ps.length=n)(hl:N.length=nl)
  (hb:∀(f:Addr)(cdv:Value)(A:Around)(outer:List Env)(s:Shared)(H:Hp)(E:XK),Room k (A.deeper (PyProof.Rows.envOfC qual (defScope st) s.heap.objs.size f cdv))→
   CRs (cxOf CX0 P w K mg base N qual (defScope st) f cdv A outer s H E).nox (defBody st) mb):HasM P w K mg base c m ps (k+1) (spTR K mg (fnTR nt n nl mb)):=by
 obtain⟨C,f,fd,mc,cl,me,F,b⟩:=Df.ex
 exact⟨C,f,fd,mc,cl,me,tr_ok F Sc hn hl (fun cdv=>hb f cdv),b⟩
end
noncomputable abbrev MTV:=Tr→List D→M R
noncomputable def fnTV(n N:Nat)(b:MS):MTV:=fun t ds=>if 1+ds.length=n then do
  let fl ←b (.tr .view t::ds.map .val++List.replicate (N-n) .emp)
  match fl with
  |.rt (.v d)=>pure (.v d)
  |.rt (.fr xs)=>pure (.fr xs)
  |.nx _=>pure (.v .non)
  |_=>bad
 else bad
noncomputable def spTV(K:FrgT)(mg:BinT)(mf:MTV):Sp:=fun vs H Q _=>∃O w p t u ds us r S',vs=u::us∧Dom O H∧(w=.out∨∃i,w=.loc i)∧TreeR K mg O H w p t u∧RepAll K mg O H ds us∧(mf t ds).run []=.ok r S'∧
 ∀O' v H',Go O O' H H'→Dom O' H'→S'=[]→RepR K mg O' H' r v→NewR H r v→Q v H'
theorem tv_ok{P:Program}{w:World}{K:FrgT}{mg:BinT}{base:Heap}{x qual:Str}{st:Stmt}{ps N:List Str}{k:Nat}{mb:MS}{f:Addr}{fd:FuncData}{n nl:Nat}(F:Fun K x qual st f fd)(Sc:FnScope N ps (defScope st))(hn:ps.length=n)(hl:N.length=nl)
  (hb:∀(cdv:Value)(A:Around)(outer:List Env)(s:Shared)(H:Hp)(E:XK),Room k (A.deeper (PyProof.Rows.envOfC qual (defScope st) s.heap.objs.size f cdv))→
   CSs (cxOf CX0 P w K mg base N qual (defScope st) f cdv A outer s H E).nox (defBody st) mb):FnOk P w K mg base CX0 (k+1) f fd ps (spTV K mg (fnTV n nl mb)):=by
 subst hn hl
 have flen:∀{t:Tr}{ds:List D}{r:R}{S S':Store},(fnTV ps.length N.length mb t ds).run S=.ok r S'→1+ds.length=ps.length:=fun{t ds r S S'} h=>by
  unfold fnTV at h
  by_cases c:1+ds.length=ps.length
  ·exact c
  ·rw[if_neg c]at h;cases h
 refine F.ok Sc ?_ ?_
 ·rintro vs H Q E ⟨O,w',p,t,u,ds,us,r,S',rfl,dm,hw,tr,ra,h,q⟩
  have:=flen h
  rw[List.length_cons,ra.len];omega
 rintro cdv A outer s H vs Q E hr ⟨O,w',p,t,u,ds,us,r,S',rfl,dm,hw,tr,ra,h,q⟩
 refine⟨_,hb cdv A outer s H E hr,?_⟩
 have hlen:=flen h
 have hlv:=ra.len
 unfold fnTV at h
 rw[if_pos hlen]at h
 obtain⟨fl,S1,h1,h⟩:=M.inv h
 have st0:S3 K mg (blk O) (.tr .view t::ds.map .val++List.replicate (N.length-ps.length) .emp) [] (L2.start N (u::us)) H:=by
  refine⟨⟨fun a ha=>dm.has a fun z=>ha (blk_free.mpr z),dm.tabs⟩,?_,fun i s e=>?_,rfl⟩
  ·unfold L2.start
   simp only[List.length_append,List.length_cons,List.length_map,List.length_replicate,hlv]
   omega
  ·unfold L2.start
   cases i with
   |zero=>
    cases e
    refine⟨u,rfl,TreeR.allP (w':=.out) (p':=[]) (fun _ _ z=>Rep.fre (blk_fre O) z) t (fun b u r ob hb _=>⟨?_,hb⟩) tr⟩
    show blk O b=.out
    unfold blk
    rcases hw with rfl | ⟨i,rfl⟩<;>rw[ob]<;>rfl
   |succ j=>
    have e:(ds.map Slot.val++List.replicate (N.length-ps.length) Slot.emp)[j]? = some s:=e
    show SlotR K mg (blk O) H _ s ((us.map some++List.replicate (N.length-(u::us).length) none)[j]?.join)
    by_cases hj:j<ds.length
    ·rw[List.getElem?_append_left (by rw[List.length_map];exact hj),List.getElem?_map]at e
     cases ed:ds[j]? with
     |none=>rw[ed]at e;cases e
     |some d=>
      rw[ed]at e
      cases e
      obtain⟨v,ev,rv⟩:=ra.get ed
      rw[List.getElem?_append_left (by rw[List.length_map,hlv];exact hj),List.getElem?_map,ev]
      exact⟨v,rfl,rv.fre (blk_fre O)⟩
    ·rw[List.getElem?_append_right (by rw[List.length_map];omega),List.getElem?_replicate]at e
     split at e
     ·cases e;exact trivial
     ·cases e
 have old:∀b,H b≠none→blk O b=.free∨blk O b=.out:=fun b _=>blk_cases O b
 have back:∀{O':Ow}{H':Hp},Gs (blk O) O' H H'→Dom O' H'→∃O2:Ow,Go O O2 H H'∧Dom O2 H'∧Fre O' O2∧∀b,(O' b=.tmp∨∃i,O' b=.loc i)→H b=none∧O2 b=.tmp:=fun{O' H'} g d=>by
  refine⟨fun b=>match H b with | some _=>O b | none=>(match O' b with | .loc _=>.tmp | o=>o),⟨⟨fun b o e n=>g.cells b o e ((old b (by rw[e];intro z;cases z)).elim .inl fun z=>.inr (.inl z)) n,g.tb,g.gd⟩,fun b hb=>?_⟩,⟨fun b hb=>?_,d.tabs⟩,⟨fun b hb=>?_⟩,fun b hb=>?_⟩
  ·cases e:H b with
   |none=>exact absurd e hb
   |some o=>rfl
  ·cases e:H b with
   | some o=>exact g.has b (by rw[e];intro z;cases z)
   |none=>
    rw[e]at hb
    refine d.has b fun z=>hb ?_
    dsimp only
    rw[z]
  ·cases e:H b with
   |some o=>
    dsimp only
    have:=(g.own b (by rw[e];intro z;cases z) (blk_cases O b)).symm.trans hb
    exact blk_free.mp this
   |none=>
    dsimp only
    rw[hb]
  ·have hn:H b=none:=by
    cases e:H b with
    |none=>rfl
    |some o=>
     exfalso
     have q1:=g.own b (by rw[e];intro z;cases z) (blk_cases O b)
     rcases blk_cases O b with z | z<;>rw[z]at q1<;>rcases hb with w | ⟨i,w⟩<;>rw[q1]at w<;>cases w
   refine⟨hn,?_⟩
   dsimp only
   rw[hn]
   rcases hb with w | ⟨i,w⟩<;>rw[w]
 refine⟨blk O,_,[],fl,S1,st0,h1,?_⟩
 cases fl with
 |nx σ'=>
  cases h
  intro O' σV' H' g st' _
  obtain⟨O2,g2,d2,f2,_⟩:=back g st'.dom
  exact q O2 .non H' g2 d2 st'.emp rfl trivial
 |bk σ'=>cases h
 |ct σ'=>cases h
 |rt r'=>
  intro O' v H' g d eS rr
  obtain⟨O2,g2,d2,f2,t2⟩:=back g d
  cases r' with
  |v dd=>cases h;exact q O2 v H' g2 d2 eS (Rep.fre f2 rr) trivial
  |fr xs=>
   cases h
   obtain⟨a,ys,rfl,l,t,ra⟩:=rr
   obtain⟨hn,ht⟩:=t2 a t
   exact q O2 _ H' g2 d2 eS ⟨a,ys,rfl,l,ht,ra.fre f2⟩ fun b eb=>by cases eb;exact hn
  |vw xs=>exact False.elim rr
  |mv xs=>exact False.elim rr
  |dv _=>exact False.elim rr
theorem hasM_tv{P:Program}{w:World}{K:FrgT}{mg:BinT}{base:Heap}{c m qual:Str}{st:Stmt}{ps N:List Str}{k:Nat}{mb:MS}{n nl:Nat}(Df:DfM K mg c m qual st ps)(Sc:FnScope N ps (defScope st))(hn:ps.length=n)(hl:N.length=nl)
  (hb:∀(f:Addr)(cdv:Value)(A:Around)(outer:List Env)(s:Shared)(H:Hp)(E:XK),Room k (A.deeper (PyProof.Rows.envOfC qual (defScope st) s.heap.objs.size f cdv))→
   CSs (cxOf CX0 P w K mg base N qual (defScope st) f cdv A outer s H E).nox (defBody st) mb):HasM P w K mg base c m ps (k+1) (spTV K mg (fnTV n nl mb)):=by
 obtain⟨C,f,fd,mc,cl,me,F,b⟩:=Df.ex
 exact⟨C,f,fd,mc,cl,me,tv_ok F Sc hn hl (fun cdv=>hb f cdv),b⟩
noncomputable abbrev MTM:=List D→M Tr
noncomputable def tMethN(mg:BinT)(c m:Str)(sp:Sp)(ta:TE)(t:TA):TE:=fun σ H Q=>ta σ H fun x H1=>∃a C dx fs,x=.ref a∧mg c=some (.ref C)∧H1 a=some (.ins C dx fs)∧fs.lookup m=none∧t σ H1 fun vs H2=>sp (x::vs) H2 Q E0
def UpE(t:TE):Prop:=∀σ H Q Q',(∀v H',Q v H'→Q' v H')→t σ H Q→t σ H Q'
theorem upE_tp{K:FrgT}{mg:BinT}{m:MP}:UpE (tpOf K mg m):=fun σV H Q Q' i ⟨O,σ,S,x,S',st,h,q⟩=>⟨O,σ,S,x,S',st,h,fun O' v H' g s p=>i _ _ (q O' v H' g s p)⟩
section
variable{X:Cx}{c m:Str}{ps:List Str}{k:Nat}{sp:Sp}{o e:Expr}{es:List Expr}{ta:TE}{t:TA}{apos pos:Pos}
theorem pe_methN{pl:Sem Bool}(h:HasM X.prog X.w X.K X.mg X.base c m ps k sp)(hr:Room k X.A)(up:UpE ta)(he:PE X o ta)(ha:PA X (e::es) t)
  (hst:starEach (e::es) X.env=(false,eval e X.env)::starEach es X.env:=by rfl) (hpl:(backTo pos (starEach es X.env)).any (·.1)=false:=by rfl)
  (ht:eval (.Call (.Attribute o m apos) (e::es) [] pos) X.env=(do
   let ov ←eval o X.env
   standAt apos.atName
   let(f,first) ←holding [ov] (getMethod ov m pl)
   callWith pos f first (backTo pos (starEach (e::es) X.env)) (backToKw pos (keywordEach [] X.env))):=by rfl) :
  PE X (.Call (.Attribute o m apos) (e::es) [] pos) (tMethN X.mg c m sp ta t):=by
 obtain⟨C,f,fd,mc,cl,me,F,b⟩:=h.ex
 refine pe_imp (pe_meth (dvs:=[]) (ds:=[]) he cl me F hr b .nil pass0 ha hst hpl ht) fun σ H Q hq=>up _ _ _ _ (fun v H1 z=>?_) hq
 obtain⟨a,C',dx,fs,ev,mc',hH,hl,z⟩:=z
 rw[mc]at mc'
 cases mc'
 refine⟨a,dx,fs,ev,hH,hl,?_⟩
 simpa only[List.append_nil]using z
theorem pe_methN0{pl:Sem Bool}(h:HasM X.prog X.w X.K X.mg X.base c m ps k sp)(hr:Room k X.A)(up:UpE ta)(he:PE X o ta)
  (ht:eval (.Call (.Attribute o m apos) [] [] pos) X.env=(do
   let ov ←eval o X.env
   standAt apos.atName
   let(f,first) ←holding [ov] (getMethod ov m pl)
   callWith pos f first (backTo pos (starEach [] X.env)) (backToKw pos (keywordEach [] X.env))):=by rfl) :
  PE X (.Call (.Attribute o m apos) [] [] pos) (tMethN X.mg c m sp ta tNil):=by
 obtain⟨C,f,fd,mc,cl,me,F,b⟩:=h.ex
 refine pe_imp (pe_meth0 (dvs:=[]) (ds:=[]) he cl me F hr b .nil pass0 ht) fun σ H Q hq=>up _ _ _ _ (fun v H1 z=>?_) hq
 obtain⟨a,C',dx,fs,ev,mc',hH,hl,z⟩:=z
 rw[mc]at mc'
 cases mc'
 exact⟨a,dx,fs,ev,hH,hl,z⟩
end
omit [L2.TabP]in
theorem zip_look_none{α β:Type}[BEq α][LawfulBEq α]{f:α}:∀{ks:List α}{ys:List β},f∉ks→(ks.zip ys).lookup f=none
 | [],_,_=>by simp
 | _::_,[],_=>by simp
 |k::ks,y::ys,h=>by
  have ne:(f==k)=false:=by
   have:¬f=k:=fun e=>h (by rw[e];exact List.mem_cons_self ..)
   simpa using this
  rw[List.zip_cons_cons,List.lookup_cons,ne]
  exact zip_look_none fun z=>h (List.mem_cons_of_mem _ z)
theorem ow_of{m:TM}{w:Own}(h:m≠.view):m.ow w=w:=by
 cases m with
 |view=>exact absurd rfl h
 |own=>rfl
 |par=>rfl
noncomputable def cTV(mp:MP)(c:Str)(A:List Str)(mf:MTV)(ms:MA):ME:=fun σ=>do
 let x ←mp σ
 let rs ←ms σ
 let ds ←dats rs
 match x.t with
 |.ob c' ns ts=>if c'=c∧ns=A then mf (.ob c ns ts) ds else bad
 |_=>bad
section
variable{X:Cx}{c m:Str}{ps:List Str}{k:Nat}{o e:Expr}{es:List Expr}{apos pos pos':Pos}{mp:MP}{mf:MTV}{mr:MTR}{ms:MA}{A:List Str}
theorem tv_read(hA:m∉A):∀σV H Q,teOf X.K X.mg (cTV mp c A mf ms) σV H Q→tMethN X.mg c m (spTV X.K X.mg mf) (tpOf X.K X.mg mp) (taOf X.K X.mg ms) σV H Q:=by
 rintro σV H Q ⟨O,σ,S,r,S',st,h,q⟩
 obtain⟨x,S1,h1,h⟩:=M.inv h
 obtain⟨rs,S2,h2,h⟩:=M.inv h
 obtain⟨ds,S3',h3,h⟩:=M.inv h
 split at h
 ·rename_i c' ns ts et
  by_cases cc:c'=c∧ns=A
  ·rw[if_pos cc]at h
   obtain⟨rfl,rfl⟩:=cc
   refine⟨O,σ,S,x,S1,st,h1,fun O1 v H1 g1 st1 pr=>?_⟩
   have tr:=pr.tree st1
   rw[et]at tr
   obtain⟨a,C,dx,ys,ev,o,l,hq,ra⟩:=id tr
   subst ev
   refine⟨a,C,dx,_,rfl,hq.2.2.1,l,zip_look_none hA,O1,σ,S1,rs,S2,st1,h2,fun O2 vs H2 g2 st2 rr nn=>?_⟩
   obtain⟨rd,rfl⟩:=dats_rep (H₀:=H1) rr nn h3
   have st2':=st2.frz H1
   have eS:=st2'.emp
   subst eS
   have g12:Go O1 (frz H1 O2) H1 H2:=g2.frz
   refine⟨frz H1 O2,_,x.p,_,.ref a,ds,vs,r,S',rfl,st2'.dom,?_,tr.go g12,rd,h,fun O' v H' g d eS r' n'=>?_⟩
   ·cases x.m with
    |view=>exact .inl rfl
    |own=>exact .inr ⟨_,rfl⟩
    |par=>exact .inr ⟨_,rfl⟩
   ·subst eS
    exact q O' v H' ((g1.trans g12).trans g) (st2'.go g d) r' (n'.back (g1.trans g12).same)
  ·rw[if_neg cc]at h;cases h
 ·cases h
theorem ce_tv{pl:Sem Bool}(h:HasM X.prog X.w X.K X.mg X.base c m ps k (spTV X.K X.mg mf))(A:List Str)(hr:Room k X.A)(he:CP X o mp)(ha:CA X (e::es) ms)(hA:m∉A:=by decide +kernel)
  (hst:starEach (e::es) X.env=(false,eval e X.env)::starEach es X.env:=by rfl) (hpl:(backTo pos (starEach es X.env)).any (·.1)=false:=by rfl)
  (ht:eval (.Call (.Attribute o m apos) (e::es) [] pos) X.env=(do
   let ov ←eval o X.env
   standAt apos.atName
   let(f,first) ←holding [ov] (getMethod ov m pl)
   callWith pos f first (backTo pos (starEach (e::es) X.env)) (backToKw pos (keywordEach [] X.env))):=by rfl) :
  CE X (.Call (.Attribute o m apos) (e::es) [] pos) (cTV mp c A mf ms):=pe_imp (pe_methN h hr upE_tp he ha hst hpl ht) (tv_read hA)
theorem ce_tv0{pl:Sem Bool}(h:HasM X.prog X.w X.K X.mg X.base c m ps k (spTV X.K X.mg mf))(A:List Str)(hr:Room k X.A)(he:CP X o mp)(hA:m∉A:=by decide +kernel)
  (ht:eval (.Call (.Attribute o m apos) [] [] pos) X.env=(do
   let ov ←eval o X.env
   standAt apos.atName
   let(f,first) ←holding [ov] (getMethod ov m pl)
   callWith pos f first (backTo pos (starEach [] X.env)) (backToKw pos (keywordEach [] X.env))):=by rfl) :
  CE X (.Call (.Attribute o m apos) [] [] pos) (cTV mp c A mf cNil):=pe_imp (pe_methN0 h hr upE_tp he ht) fun σV H Q hq=>upE_tp _ _ _ _ (fun v H1 ⟨a,C,dx,fs,e1,e2,e3,e4,O,σ,S,rs,S',st,h,q⟩=>by
   cases h
   exact⟨a,C,dx,fs,e1,e2,e3,e4,q O [] H1 (Go.refl _ _) st rfl trivial⟩) (tv_read (X:=X) (m:=m) hA σV H Q hq)
noncomputable def put1(f:Tr→Fl):List Tr→M Fl
 |[t]=>pure (f t)
 |_=>bad
end
section
variable{X:Cx}{x y z:Str}{ps:List Str}{k i j:Nat}{mr:MTR}{p p1 p2 pos pos':Pos}{es:List Expr}{ms:MA}
theorem var_at{σV:St}{i:Nat}{v:V}(e1:σV[i]?.join=some v):σV[i]? = some (some v):=by
 cases w:σV[i]? with
 |none=>rw[w]at e1;cases e1
 |some y=>rw[w]at e1;exact congrArg some e1
end
noncomputable def vMake(c:Str)(mf:MTR)(ms:MA):MT:=fun σ=>do
 let rs ←ms σ
 let ds ←dats rs
 let ts ←mf [.ob c [] []] ds
 match ts with
 |[t]=>pure t
 |_=>bad
section
variable{X:Cx}{x:Str}{ps:List Str}{k j:Nat}{q:List Nat}{mf:MTM}{mr:MTR}{p pos:Pos}{e:Expr}{es:List Expr}{ms:MA}
theorem cv_make{fs:List Str}(T:ClsT X.K X.mg x fs)(h:HasM X.prog X.w X.K X.mg X.base x "__init__" ps k (spTR X.K X.mg mr))(hr:Room (k+1) X.A)(hg:Gl X x)(ha:CA X (e::es) ms)(hdb:(x==("__debug__":Str))=false:=by decide)
  (he:starEach (e::es) X.env=(false,eval e X.env)::starEach es X.env:=by rfl) (hpl:(backTo pos (starEach es X.env)).any (·.1)=false:=by rfl):CV X j q (.Call (.Name x p) (e::es) [] pos) (vMake x mr ms):=by
 obtain⟨C,f,fd,mc,cl,me,F,b⟩:=h.ex
 obtain⟨C',mc',_,⟨mk,kp⟩,_⟩:=T.ex
 rw[mc]at mc'
 cases mc'
 refine pe_imp (pe_make (dvs:=[]) (ds:=[]) ⟨mk,me.at_,me.fn,kp⟩ F hr hg mc b .nil pass0 ha hdb he hpl) fun σV H Q ⟨O,σ,S,t,S',st,h,qq⟩=>?_
 obtain⟨rs,S1,h1,h⟩:=M.inv h
 obtain⟨ds,S2,h2,h⟩:=M.inv h
 obtain⟨ts,S3',h3,h⟩:=M.inv h
 split at h
 ·rename_i t'
  cases h
  refine⟨O,σ,S,rs,S1,st,h1,fun O1 vs H1 g1 st1 rr nn a dx ha hdx nad=>?_⟩
  obtain⟨rd,rfl⟩:=dats_rep (H₀:=H) rr nn h2
  have st1':=st1.frz H
  have eS:=st1'.emp
  subst eS
  rw[List.append_nil]
  have sm:Same H1 (upd (upd H1 dx (.own a)) a (.ins C dx [])):=(same_new hdx _).trans (same_new (by rw[upd_ne (Ne.symm nad)];exact ha) _)
  have goB:Go (blk (frz H O1)) (updO (blk (frz H O1)) a (.tr j q)) H1 (upd (upd H1 dx (.own a)) a (.ins C dx [])):=⟨sm,fun b hb=>updO_ne (by rintro rfl;exact hb ha)⟩
  have nw:∀{b:Addr},b≠a→¬WOw (Un [(j,q)]) (updO (blk (frz H O1)) a (.tr j q) b):=fun{b} nb=>wo_not fun i p z=>by
   rw[updO_ne nb]at z
   rcases blk_cases (frz H O1) b with w | w<;>rw[w]at z<;>cases z
  have dom2:Dom (updO (blk (frz H O1)) a (.tr j q)) (upd (upd H1 dx (.own a)) a (.ins C dx [])):=⟨fun b hb=>by
   by_cases e:b=a
   ·rw[e,upd_same];intro z;cases z
   ·rw[updO_ne e]at hb
    exact sm.some (st1'.dom.has b fun z=>hb (blk_free.mpr z)),sm.gd st1'.dom.tabs⟩
  refine⟨updO (blk (frz H O1)) a (.tr j q),[(j,q)],[.ob x [] []],ds,[.ref a],vs,[t],_,rfl,dom2,⟨rfl,rfl⟩,List.nodup_cons.mpr ⟨by simp,List.nodup_nil⟩,?_,(rd.fre (blk_fre _)).go goB,h3,fun O3 H3 gT d eS hl rts=>⟨rfl,?_⟩⟩
  ·intro k r hk
   cases k with
   |zero=>cases hk;exact⟨_,_,rfl,rfl,a,C,dx,[],rfl,updO_same,upd_same,⟨rfl,List.nodup_nil,mc,cl⟩,rfl⟩
   |succ k=>simp at hk
  ·subst eS
   obtain⟨t1,u1,a1,a2,tr⟩:=rts 0 (j,q) rfl
   cases a1
   cases a2
   have na:∀{b:Addr},H1 b≠none→b≠a:=fun hb=>by rintro rfl;exact hb ha
   let O4:Ow:=fun b=>match H1 b with | some _=>frz H O1 b | none=>O3 b
   have o4o:∀{b:Addr},H1 b≠none→O4 b=frz H O1 b:=fun{b} hb=>by
    show(match H1 b with | some _=>frz H O1 b | none=>O3 b)=_
    cases e:H1 b with
    |none=>exact absurd e hb
    |some o=>rfl
   have o4n:∀{b:Addr},H1 b=none→O4 b=O3 b:=fun{b} hb=>by
    show(match H1 b with | some _=>frz H O1 b | none=>O3 b)=_
    rw[hb]
   have o3o:∀{b:Addr},H1 b≠none→O3 b=blk (frz H O1) b:=fun{b} hb=>(gT.own b (sm.some hb) (nw (na hb))).trans (updO_ne (na hb))
   have fre:Fre O3 O4:=⟨fun b hb=>by
    by_cases hn:H1 b=none
    ·rw[o4n hn,hb]
    ·rw[o4o hn];exact blk_free.mp ((o3o hn).symm.trans hb)⟩
   have some':∀{b:Addr}{o:HO},H1 b=some o→H1 b≠none:=fun e z=>by rw[e]at z;cases z
   have go:Go (frz H O1) O4 H1 H3:=⟨⟨fun b o e n=>gT.cells b o (sm.at' b o e n) (.inl (nw (na (some' e)))) n,fun b ps e=>let⟨p1,e1⟩:=sm.tb b ps e;gT.tb b p1 e1,fun g=>gT.gd (sm.gd g)⟩,fun b hb=>o4o hb⟩
   have dm:Dom O4 H3:=⟨fun b hb=>by
    by_cases hn:H1 b=none
    ·rw[o4n hn]at hb;exact d.has b hb
    ·exact gT.has b (sm.some hn),d.tabs⟩
   refine qq O4 _ H3 (g1.frz.trans go) (st1'.go go dm) (TreeR.allP (fun _ _ z=>Rep.fre fre z) t (fun b o r ob hb _=>⟨?_,hb⟩) tr)
   have ob:O3 b=.tr j (q++r):=ob
   have hn:H1 b=none:=by
    cases e:H1 b with
    |none=>rfl
    |some o=>
     exfalso
     have:=o3o (some' e)
     rw[ob]at this
     rcases blk_cases (frz H O1) b with z | z<;>rw[z]at this<;>cases this
   rw[o4n hn]
   exact ob
 ·cases h
end
omit [L2.TabP]in
theorem clsT_mk{K:FrgT}{h:Heap}{mg:BinT}{c:Str}{C:Addr}{fs:List Str}(X:K.In h)(G:h.Ns mainGlobals mg)(a:W.nsIn K mainGlobals c=some (some (.ref C)))
  (pg:W.plainGet K C Str.empty=true) (hd:W.hasDictIn K C=true) (po:W.plainOver K C=true) (sa:W.findIn K (.ref C) "__setattr__"=some (some (.builtin "object.__setattr__"))) (mk:W.makesIn K C=true) (kc:W.keepIn K (.ref C)=true)
  (na:∀f∈fs,W.findIn K (.ref C) f=some none):ClsT K mg c fs:=⟨C,W.mg_of X G a,⟨pg,hd,po,sa⟩,⟨mk,kc⟩,na⟩
omit [L2.TabP]in
theorem dfm_mk{K:FrgT}{h:Heap}{mg:BinT}{c m qual:Str}{C f:Addr}{fs ps:List Str}{st:Stmt}{od an:Option Addr}{sl:Array (Option Value)}{oc kV dc pm cd ct:Value}(X:K.In h)(G:h.Ns mainGlobals mg)(T:ClsT K mg c fs)(a:W.nsIn K mainGlobals c=some (some (.ref C)))
  (e:W.findIn K (.ref C) m=some (some (.ref f))) (i:W.isFn K (.ref f)=true) (l:K.lookup f=some ⟨oc,od,.func (W.fnOf m qual (defArgs st) (defBody st) (defScope st) .none kV dc pm an cd ct),sl⟩) (cd':W.codeIn K cd qual=true) (k:W.keepIn K (.ref f)=true)
  (hb:∀(kV doc pm:Value)(an:Option Addr)(cdv ct:Value)(us:List Value),us.length=ps.length→bindArgs (W.fnOf m qual (defArgs st) (defBody st) (defScope st) .none kV doc pm an cdv ct) ⟨us,[]⟩=pure (ps.zip us)):DfM K mg c m qual st ps:=by
 obtain⟨C',h1,h2,_⟩:=T.ex
 have h3:=W.mg_of X G a
 rw[h1]at h3
 cases h3
 exact⟨_,f,_,h1,h2,⟨e,i,k⟩,fun_mk (st:=st) l cd' k,(fun_mk (st:=st) l cd' k).binds hb⟩
end L3
namespace L3
open PySem PySem.Spec L2
section
variable[L2.TabP](X:Cx)
structure WP(e:Expr)(m:MP):Prop where
 un:CP X e m
structure WV(j:Nat)(p:List Nat)(e:Expr)(m:MT):Prop where
 un:CV X j p e m
structure WR(e:Stmt)(m:MS):Prop where
 un:CR X e m
structure WRs(e:List Stmt)(m:MS):Prop where
 un:CRs X e m
end
section
variable[L2.TabP]
variable{X:Cx}{e k:Expr}{m:MP}{mk:ME}{pos p:Pos}
theorem wp_var(i:Nat){x:Str}{pos:Pos}(hN:X.N[i]? = some x:=by rfl)(hv:Vis X.env.scope x:=by first | exact Or.inl rfl | exact Or.inr (Or.inl rfl) | exact Or.inr (Or.inr rfl))(hd:(x==("__debug__":Str))=false:=by decide)(hcd:(x==("__classdict__":Str))=false:=by decide):WP X (.Name x pos) (pVar i):=⟨cp_var i hN hv hd hcd⟩
end
section
variable[L2.TabP]
variable{X:Cx}{e k:Expr}{m:MP}{mk:ME}{pos p:Pos}
theorem wp_at{c f:Str}{fs:List Str}(n:Nat)(T:ClsT X.K X.mg c fs)(he:WP X e m)(hf:f∈fs:=by decide +kernel)(hb:attributeBase e f X.env (eval e X.env)=eval e X.env:=by rfl):WP X (.Attribute e f pos) (pAt m c n f):=⟨cp_at n T he.un hf hb⟩
end
section
variable[L2.TabP]
variable{X:Cx}{e k:Expr}{m:MP}{mk:ME}{pos p:Pos}
theorem we_leaf(he:WP X e m):WE X e (cLeaf m):=⟨ce_leaf he.un⟩
end
section
variable[L2.TabP]
variable{X:Cx}{e k value:Expr}{mp:MP}{mk mv:ME}{pos pos':Pos}
theorem ws_tat{c f:Str}{fs:List Str}(n:Nat)(T:ClsT X.K X.mg c fs)(he:WP X e mp)(hval:WE X value mv)(hf:f∈fs:=by decide +kernel)(hs:swapsWith value (some (.Attribute e f pos')) pos.line X.env=pure false:=by rfl):WS X (.Assign [.Attribute e f pos'] value pos) (cTAt mp c n f mv):=⟨cs_tat n T he.un hval.un hf hs⟩
end
section
variable[L2.TabP]
variable{X:Cx}{e k value:Expr}{mp:MP}{mk mv:ME}{pos pos':Pos}
theorem ws_tan{c f:Str}{fs:List Str}(A:List Str)(T:ClsT X.K X.mg c fs)(he:WP X e mp)(hval:WE X value mv)(hf:f∈fs:=by decide +kernel)(hA:f∉A:=by decide +kernel)(hs:swapsWith value (some (.Attribute e f pos')) pos.line X.env=pure false:=by rfl):WS X (.Assign [.Attribute e f pos'] value pos) (cTAn mp c A f mv):=⟨cs_tan A T he.un hval.un hf hA hs⟩
end
section
variable[L2.TabP]
variable{X:Cx}{e:Expr}{es:List Expr}{m:ME}{mt:MT}{ms:MTs}{pos:Pos}{j:Nat}{p:List Nat}{n:Nat}
theorem wv_own(h:WE X e m):WV X j p e (vOwn m):=⟨cv_own h.un⟩
end
section
variable[L2.TabP]
variable{X:Cx}{e:Expr}{es:List Expr}{m:ME}{mt:MT}{ms:MTs}{pos:Pos}{j:Nat}{p:List Nat}{n:Nat}
theorem ws_tset{x:Str}{pos':Pos}(hN:X.N.Nodup)(hi:X.N[j]? = some x)(hx:Loc X.env.scope x)(he:WV X j [] e mt)(hs:swapsWith e (some (.Name x pos')) pos.line X.env=pure false:=by rfl)(hf:X.fn x=true∨X.env.scope.names.lookup x=some .local:=by first | exact .inl rfl | exact .inr rfl | assumption):WS X (.Assign [.Name x pos'] e pos) (cTSet j mt):=⟨cs_tset hN hi hx he.un hs hf⟩
end
section
variable[L2.TabP]
variable{X:Cx}{st:Stmt}{rest:List Stmt}{pos:Pos}{a b:MS}
theorem wr_of(h:WS X st a):WR X st (cNoB a):=⟨cr_of h.un⟩
end
section
variable[L2.TabP]
variable{X:Cx}{st:Stmt}{rest:List Stmt}{pos:Pos}{a b:MS}
theorem wrs_one(h:WR X st a):WRs X [st] a:=⟨crs_one h.un⟩
end
section
variable[L2.TabP]
variable{X:Cx}{st:Stmt}{rest:List Stmt}{pos:Pos}{a b:MS}
theorem wrs_cons(h1:WR X st a)(h2:WRs X rest b):WRs X (st::rest) (cSeq a b):=⟨crs_cons h1.un h2.un⟩
end
section
variable[L2.TabP]
variable{X:Cx}{c m:Str}{ps:List Str}{k:Nat}{o e:Expr}{es:List Expr}{apos pos pos':Pos}{mp:MP}{mf:MTV}{mr:MTR}{ms:MA}{A:List Str}
theorem we_tv{pl:Sem Bool}(h:HasM X.prog X.w X.K X.mg X.base c m ps k (spTV X.K X.mg mf))(A:List Str)(hr:Room k X.A)(he:WP X o mp)(ha:WA X (e::es) ms)(hA:m∉A:=by decide +kernel)(hst:starEach (e::es) X.env=(false,eval e X.env)::starEach es X.env:=by rfl)(hpl:(backTo pos (starEach es X.env)).any (·.1)=false:=by rfl) (ht:eval (.Call (.Attribute o m apos) (e::es) [] pos) X.env=(do
   let ov ←eval o X.env
   standAt apos.atName
   let(f,first) ←holding [ov] (getMethod ov m pl)
   callWith pos f first (backTo pos (starEach (e::es) X.env)) (backToKw pos (keywordEach [] X.env))):=by rfl):WE X (.Call (.Attribute o m apos) (e::es) [] pos) (cTV mp c A mf ms):=⟨ce_tv h A hr he.un ha.un hA hst hpl ht⟩
end
section
variable[L2.TabP]
variable{X:Cx}{c m:Str}{ps:List Str}{k:Nat}{o e:Expr}{es:List Expr}{apos pos pos':Pos}{mp:MP}{mf:MTV}{mr:MTR}{ms:MA}{A:List Str}
theorem we_tv0{pl:Sem Bool}(h:HasM X.prog X.w X.K X.mg X.base c m ps k (spTV X.K X.mg mf))(A:List Str)(hr:Room k X.A)(he:WP X o mp)(hA:m∉A:=by decide +kernel) (ht:eval (.Call (.Attribute o m apos) [] [] pos) X.env=(do
   let ov ←eval o X.env
   standAt apos.atName
   let(f,first) ←holding [ov] (getMethod ov m pl)
   callWith pos f first (backTo pos (starEach [] X.env)) (backToKw pos (keywordEach [] X.env))):=by rfl):WE X (.Call (.Attribute o m apos) [] [] pos) (cTV mp c A mf cNil):=⟨ce_tv0 h A hr he.un hA ht⟩
end
section
variable[L2.TabP]
variable{X:Cx}{x:Str}{ps:List Str}{k j:Nat}{q:List Nat}{mf:MTM}{mr:MTR}{p pos:Pos}{e:Expr}{es:List Expr}{ms:MA}
theorem wv_make{fs:List Str}(T:ClsT X.K X.mg x fs)(h:HasM X.prog X.w X.K X.mg X.base x "__init__" ps k (spTR X.K X.mg mr))(hr:Room (k+1) X.A)(hg:Gl X x)(ha:WA X (e::es) ms)(hdb:(x==("__debug__":Str))=false:=by decide)(he:starEach (e::es) X.env=(false,eval e X.env)::starEach es X.env:=by rfl)(hpl:(backTo pos (starEach es X.env)).any (·.1)=false:=by rfl):WV X j q (.Call (.Name x p) (e::es) [] pos) (vMake x mr ms):=⟨cv_make T h hr hg ha.un hdb he hpl⟩
end
@[simp] theorem e_pVar{i:Nat}{σ:En}:pVar i σ=(match σ[i]? with
 |some (.tr m t)=>pure ⟨i,[],m,t⟩
 | _=>bad):=rfl
@[simp] theorem e_pAt{m:MP}{c:Str}{n:Nat}{f:Str}{σ:En}:pAt m c n f σ=(do
 let x ←m σ
 match x.t with
 |.ob c' ns ts=>if c'=c∧ns[n]? = some f then kidM ts n (Pt.mk x.i (x.p++[n]) x.m)else bad
 | _=>bad):=rfl
@[simp] theorem e_cLeaf{m:MP}{σ:En}:cLeaf m σ=(do
 let x ←m σ
 match x.t with
 |.lf d=>pure (.v d)
 | _=>bad):=rfl
@[simp] theorem e_cTAt{mp:MP}{c:Str}{n:Nat}{f:Str}{mv:ME}{σ:En}:cTAt mp c n f mv σ=(do
 let r ←mv σ
 let d ←r.dat
 let x ←mp σ
 match x.t,σ[x.i]? with
 |.ob c' ns ts,some (.tr m t0)=>if(c'=c∧ns[n]? = some f∧ts.length<1000)∧m≠.view then pure (.nx (σ.set x.i (.tr m (Tr.put x.p t0 (.ob c ns (ts.set n (.lf d)))))))else bad
 | _,_=>bad):=rfl
@[simp] theorem e_cTAn{mp:MP}{c:Str}{A:List Str}{f:Str}{mv:ME}{σ:En}:cTAn mp c A f mv σ=(do
 let r ←mv σ
 let d ←r.dat
 let x ←mp σ
 match x.t,σ[x.i]? with
 |.ob c' ns ts,some (.tr m t0)=>if(c'=c∧ns=A∧ts.length<900)∧m≠.view then pure (.nx (σ.set x.i (.tr m (Tr.put x.p t0 (.ob c (A++[f]) (ts++[.lf d]))))))else bad
 | _,_=>bad):=rfl
@[simp] theorem e_vOwn{m:ME}{σ:En}:vOwn m σ=(do
 let r ←m σ
 match r with
 |.fr xs=>pure (.ls (xs.map .lf))
 | _=>bad):=rfl
@[simp] theorem e_cTSet{j:Nat}{m:MT}{σ:En}:cTSet j m σ=(do
 let t ←m σ
 pure (.nx (σ.set j (.tr .own t)))):=rfl
@[simp] theorem e_cNoB{m:MS}{σ:En}:cNoB m σ=(do
 let fl ←m σ
 match fl with
 |.bk _=>bad
 | fl=>pure fl):=rfl
@[simp] theorem e_trEnd{nt:Nat}{σ':En}:trEnd nt σ'=(do
 let ts ←trsOf (σ'.take nt)
 chk (ts.length=nt)
 pure ts):=rfl
@[simp] theorem e_cTV{mp:MP}{c:Str}{A:List Str}{mf:MTV}{ms:MA}{σ:En}:cTV mp c A mf ms σ=(do
 let x ←mp σ
 let rs ←ms σ
 let ds ←dats rs
 match x.t with
 |.ob c' ns ts=>if c'=c∧ns=A then mf (.ob c ns ts) ds else bad
 | _=>bad):=rfl
@[simp] theorem e_vMake{c:Str}{mf:MTR}{ms:MA}{σ:En}:vMake c mf ms σ=(do
 let rs ←ms σ
 let ds ←dats rs
 let ts ←mf [.ob c [] []] ds
 match ts with
 |[t]=>pure t
 | _=>bad):=rfl
@[simp] theorem e_fnTR{nt n N:Nat}{b:MS}{ts:List Tr}{ds:List D}:fnTR nt n N b ts ds=(if ts.length=nt∧nt+ds.length=n then do
  let fl ←b (ts.map (.tr .par)++ds.map .val++List.replicate (N-n) .emp)
  match fl with
  |.nx σ'=>trEnd nt σ'
  |.bk σ'=>trEnd nt σ'
  |_=>bad
 else bad):=rfl
@[simp] theorem e_fnTV{n N:Nat}{b:MS}{t:Tr}{ds:List D}:fnTV n N b t ds=(if 1+ds.length=n then do
  let fl ←b (.tr .view t::ds.map .val++List.replicate (N-n) .emp)
  match fl with
  |.rt (.v d)=>pure (.v d)
  |.rt (.fr xs)=>pure (.fr xs)
  |.nx _=>pure (.v .non)
  |_=>bad
 else bad):=rfl
@[simp] theorem e_kidM{ts:List Tr}{n:Nat}{f:Tr→Pt}:kidM ts n f=(match ts[n]? with
 |some s=>pure (f s)
 | none=>bad):=rfl
@[simp] theorem e_put1{f:Tr→Fl}{t:Tr}:put1 f [t]=pure (f t):=rfl
@[simp] theorem e_trsN:trsOf []=pure []:=rfl
@[simp] theorem e_trsC{t:Tr}{r:List Slot}:trsOf (.tr .par t::r)=(do
 let ts ←trsOf r
 pure (t::ts)):=rfl
@[simp] theorem e_kidsL{ts:List Tr}:Tr.kids (.ls ts)=ts:=rfl
@[simp] theorem e_kidsD{ks:List Key}{ts:List Tr}:Tr.kids (.dc ks ts)=ts:=rfl
@[simp] theorem e_kidsO{c:Str}{ns:List Str}{ts:List Tr}:Tr.kids (.ob c ns ts)=ts:=rfl
@[simp] theorem e_subL{ts:List Tr}{n:Nat}{s:Tr}:Tr.sub (.ls ts) n s=.ls (ts.set n s):=rfl
@[simp] theorem e_subD{ks:List Key}{ts:List Tr}{n:Nat}{s:Tr}:Tr.sub (.dc ks ts) n s=.dc ks (ts.set n s):=rfl
@[simp] theorem e_subO{c:Str}{ns:List Str}{ts:List Tr}{n:Nat}{s:Tr}:Tr.sub (.ob c ns ts) n s=.ob c ns (ts.set n s):=rfl
@[simp] theorem e_putN{t s:Tr}:Tr.put [] t s=s:=rfl
@[simp] theorem e_putC{n:Nat}{p:List Nat}{t s:Tr}:Tr.put (n::p) t s=(match t.kids[n]? with
  |some u=>t.sub n (Tr.put p u s)
  | none=>t):=rfl
def SqI(b:Bool)(h:Heap)(i l:Addr)(k:Nat):Prop:=match b with
 |true=>h.IsTupleIter i l k
 |false=>h.IsListIter i l k
def SqO(b:Bool)(h:Heap)(l:Addr)(xs:Array Value):Prop:=match b with
 |true=>h.IsTuple l xs
 |false=>h.IsList l xs
theorem SqI.extBut{b:Bool}{h h':Heap}{a c l:Addr}{i:Nat}(x:SqI b h a l i)(hs:Heap.ExtBut c h h')(hac:a≠c):SqI b h' a l i:=by
 cases b with
 |true=>exact Heap.IsTupleIter.extBut x hs hac
 |false=>exact Heap.IsListIter.extBut x hs hac
theorem SqO.extBut{b:Bool}{h h':Heap}{a c:Addr}{xs:Array Value}(x:SqO b h a xs)(hs:Heap.ExtBut c h h')(hac:a≠c):SqO b h' a xs:=by
 cases b with
 |true=>exact Heap.IsTuple.extBut x hs hac
 |false=>exact Heap.IsList.extBut x hs hac
theorem SqI.obj{b:Bool}{h:Heap}{a l:Addr}{i:Nat}(x:SqI b h a l i):∃o vs,h.get? a=some o∧o.data=.fields vs:=by
 cases b with
 |true=>obtain⟨o,e,_,d⟩:=x;exact⟨o,_,e,d⟩
 |false=>obtain⟨o,e,_,d⟩:=x;exact⟨o,_,e,d⟩
theorem SqI.at'{b:Bool}{h h':Heap}{a l:Addr}{i:Nat}(x:SqI b h a l i)(k:∀o,h.get? a=some o→h'.get? a=some o):SqI b h' a l i:=by
 cases b with
 |true=>obtain⟨o,e,r⟩:=x;exact⟨o,k o e,r⟩
 |false=>obtain⟨o,e,r⟩:=x;exact⟨o,k o e,r⟩
theorem SqO.obj{b:Bool}{h:Heap}{a:Addr}{xs:Array Value}(x:SqO b h a xs):∃o n,h.get? a=some o∧o.data=.seq xs n:=by
 cases b with
 |true=>obtain⟨o,e,_,n,d⟩:=x;exact⟨o,n,e,d⟩
 |false=>obtain⟨o,e,_,n,d⟩:=x;exact⟨o,n,e,d⟩
section
variable{prog:Program}{w:World}{A:Around}{E:ExcT}{s:Shared}
theorem next_sq_item{b:Bool}{it l:Addr}{i:Nat}{items:Array Value}{x:Value}{Q:ExcT}(hit:SqI b s.heap it l i)(hl:SqO b s.heap l items)(hx:items[i]? = some x)
  (hQ:∀h',SqI b h' it l (i+1)→Heap.SameBut it s.heap h'→Q x { s with heap:=h' }):wpAny (model prog w) A (Builtin.SmallTypes.nextOf (.ref it)) Q E s:=by
 cases b with
 |false=>exact wpAny_nextOf_list_item hit hl hx hQ
 |true=>
  have hit:s.heap.IsTupleIter it l i:=hit
  obtain⟨o,ho,hc,hd⟩:=id hit
  obtain⟨ol,hol,_,nl,hdl⟩:=hl
  unfold Builtin.SmallTypes.nextOf
  refine wpAny_bind (wpAny_callSpecial?_slot (name:=Str.ofString "__next__") hit.typeIs F.slot_tuple_iterator_next (wpAny_call_entry F.slot_tuple_iterator_next hit.typeIs F.entry_tuple_iterator_next ?_ (F.args_tuple_iterator_next_1 _)))
  show wpAny _ _ (field (.ref it) 0 >>= _) _ _ s
  refine wpAny_bind (wpAny_field ho hd (x:=.ref l) rfl ?_)
  show wpAny _ _ (if(Value.ref l==Value.none)=true then _ else _) _ _ s
  rw[if_neg (show ¬((Value.ref l==Value.none)=true)from Bool.false_ne_true)]
  show wpAny _ _ (field (.ref it) 1 >>= _) _ _ s
  refine wpAny_bind (wpAny_field ho hd (x:=.int i 0) rfl ?_)
  show wpAny _ _ (seqItems? (.ref l) >>= _) _ _ s
  refine wpAny_bind (wpAny_seqItems hol hdl ?_)
  simp only[Int.toNat_natCast,hx]
  refine wpAny_bind (wpAny_setField ho hd (by simp) (wpAny_pure ⟨x,rfl,wpAny_pure (hQ _ ?_ (Heap.SameBut.update ..))⟩))
  exact⟨_,Heap.get?_update_self _ ho (Obj.isFreed_of_fields (Obj.data_mapFields hd _)),(Obj.cls_mapFields ..).trans hc,by rw[Obj.data_mapFields hd];simp[rawInt]⟩
theorem next_sq_end{b:Bool}{it l:Addr}{i:Nat}{items:Array Value}{Q:ExcT}(hh:A.handled=none)(hit:SqI b s.heap it l i)(hl:SqO b s.heap l items)(hx:items[i]? = none)
  (hE:∀h' e,Heap.ExtBut it s.heap h'→(∃o,h'.get? e=some o∧o.cls=.type "StopIteration")→E (.ref e) { s with heap:=h' }):wpAny (model prog w) A (Builtin.SmallTypes.nextOf (.ref it)) Q E s:=by
 cases b with
 |false=>exact wpAny_nextOf_list_end hh hit hl hx hE
 |true=>
  have hit:s.heap.IsTupleIter it l i:=hit
  obtain⟨o,ho,hc,hd⟩:=id hit
  obtain⟨ol,hol,_,nl,hdl⟩:=hl
  unfold Builtin.SmallTypes.nextOf
  refine wpAny_bind (wpAny_callSpecial?_slot (name:=Str.ofString "__next__") hit.typeIs F.slot_tuple_iterator_next (wpAny_call_entry F.slot_tuple_iterator_next hit.typeIs F.entry_tuple_iterator_next ?_ (F.args_tuple_iterator_next_1 _)))
  show wpAny _ _ (field (.ref it) 0 >>= _) _ _ s
  refine wpAny_bind (wpAny_field ho hd (x:=.ref l) rfl ?_)
  show wpAny _ _ (if(Value.ref l==Value.none)=true then _ else _) _ _ s
  rw[if_neg (show ¬((Value.ref l==Value.none)=true)from Bool.false_ne_true)]
  show wpAny _ _ (field (.ref it) 1 >>= _) _ _ s
  refine wpAny_bind (wpAny_field ho hd (x:=.int i 0) rfl ?_)
  show wpAny _ _ (seqItems? (.ref l) >>= _) _ _ s
  refine wpAny_bind (wpAny_seqItems hol hdl ?_)
  simp only[Int.toNat_natCast,hx]
  refine wpAny_bind (wpAny_rule (wpAny_bind (wpAny_setField ho hd (by simp) ?_)))
  show wpAny _ _ (newExc (.type "StopIteration") [] >>= _) _ _ _
  refine wpAny_bind ?_
  simp only[newExc,newTuple]
  refine wpAny_bind (wpAny_newObj_type ?_ (by size_fits))
  refine wpAny_bind (m:=firstArgMember _ _) (wpAny_of_eq (a:=Value.none) (by first | rfl | (simp only[firstArgMember];rfl)) ?_)
  refine wpAny_newObj_type ?_ (by size_fits)
  simp only[raiseNew]
  refine wpAny_bind (wpAny_handled ?_)
  first | rw[show A.in1.handled=none from hh] | rw[hh]
  refine wpAny_bind (wpAny_pure (wpAny_throw ?_))
  exact hE _ _ (((Heap.SameBut.update ..).extBut.push _).push _) ⟨_,Heap.get?_push_size _ rfl,rfl⟩
end
section
variable{prog:Program}{w:World}{A:Around}{E:ExcT}{s:Shared}
theorem zip_sq_item{b1 b2:Bool}{z TI TO i1 i2 l1 l2:Addr}{k1 k2:Nat}{xs ys:Array Value}{x y a b:Value}{Q:Option Value→Shared→Prop}(D:ZipApart z TI TO i1 i2 l1 l2)
  (hz:IsZip s.heap z TI TO .none) (hTI:IsPair s.heap TI (.ref i1) (.ref i2)) (hTO:IsPair s.heap TO a b)
  (h1:SqI b1 s.heap i1 l1 k1) (h2:SqI b2 s.heap i2 l2 k2) (hl1:SqO b1 s.heap l1 xs) (hl2:SqO b2 s.heap l2 ys) (hx:xs[k1]? = some x) (hy:ys[k2]? = some y)
  (hQ:∀h',IsZip h' z TI TO (rawInt s.heap.objs.size)→IsPair h' TO x y→SqI b1 h' i1 l1 (k1+1)→SqI b2 h' i2 l2 (k2+1)→IsPair h' s.heap.objs.size x y→
   (∀c o,c≠z→c≠TO→c≠i1→c≠i2→s.heap.get? c=some o→h'.get? c=some o)→Q (some (.ref s.heap.objs.size)) { s with heap:=h' }) :
  wpAny (model prog w) A (pyNext (.ref z)) Q E s:=by
 have hT:s.TypeIs (.ref z) "zip":=⟨_,hz,rfl⟩
 unfold pyNext
 refine wpAny_bind (wpAny_attempt (wpAny_callSpecial?_slot (name:=Str.ofString "__next__") hT F.slot_zip_next (wpAny_call_entry F.slot_zip_next hT F.entry_zip_next ?_ (F.args_zip_next_1 _))))
 show wpAny _ _ (field (.ref z) 2 >>= _) _ _ _
 refine wpAny_bind (wpAny_field hz rfl (x:=.bool false) rfl ?_)
 show wpAny _ _ (field (.ref z) 3 >>= _) _ _ _
 refine wpAny_bind (wpAny_field hz rfl (x:=.ref TI) rfl ?_)
 refine wpAny_bind (wpAny_seqItems hTI rfl ?_)
 show wpAny _ _ (Builtin.SmallTypes.ownedTupleIsFree (.ref z) >>= _) _ _ _
 refine wpAny_bind ?_
 unfold Builtin.SmallTypes.ownedTupleIsFree
 refine wpAny_bind (wpAny_field hz rfl (x:=.none) rfl (wpAny_pure ?_))
 simp only[if_true]
 refine wpAny_bind (wpAny_rule ?_)
 refine wpAny_bind (wpAny_field hz rfl (x:=.ref TO) rfl ?_)
 refine wpAny_bind (wpAny_setField_rec hz (by simp) fun h₁ hz₁ hs₁=>?_)
 replace hz₁:IsZip h₁ z TI TO .ellipsis:=hz₁
 refine wpAny_bind ?_
 simp only[List.zipIdx_cons,List.zipIdx_nil,List.forIn_cons,List.forIn_nil]
 refine wpAny_bind (wpAny_bind (wpAny_onRaise ?_))
 show wpAny _ _ (Builtin.SmallTypes.nextOf (.ref i1) >>= _) _ _ _
 refine wpAny_bind (next_sq_item (h1.extBut hs₁.extBut D.i1z) (hl1.extBut hs₁.extBut D.l1z) hx fun h₂ h1₂ hs₂=>wpAny_pure ?_)
 have hTO₂:IsPair h₂ TO a b:=hs₂.extBut _ _ D.TOi1 (hs₁.extBut _ _ D.TOz hTO)
 refine wpAny_bind (wpAny_seqItems hTO₂ rfl ?_)
 refine wpAny_bind (wpAny_updateSeq_pair hTO₂ fun h₃ hTO₃ hs₃=>?_)
 replace hTO₃:IsPair h₃ TO x b:=hTO₃
 refine wpAny_bind (wpAny_letGo (wpAny_pure ?_))
 refine wpAny_bind (wpAny_bind (wpAny_onRaise ?_))
 show wpAny _ _ (Builtin.SmallTypes.nextOf (.ref i2) >>= _) _ _ _
 refine wpAny_bind (next_sq_item (((h2.extBut hs₁.extBut D.i2z).extBut hs₂.extBut D.i12.symm).extBut hs₃.extBut D.TOi2.symm)
  (((hl2.extBut hs₁.extBut D.l2z).extBut hs₂.extBut D.l2i1).extBut hs₃.extBut D.l2TO) hy fun h₄ h2₄ hs₄=>wpAny_pure ?_)
 have hTO₄:IsPair h₄ TO x b:=hs₄.extBut _ _ D.TOi2 hTO₃
 refine wpAny_bind (wpAny_seqItems hTO₄ rfl ?_)
 refine wpAny_bind (wpAny_updateSeq_pair hTO₄ fun h₅ hTO₅ hs₅=>?_)
 replace hTO₅:IsPair h₅ TO x y:=hTO₅
 refine wpAny_bind (wpAny_letGo (wpAny_pure (wpAny_pure ?_)))
 refine wpAny_bind (wpAny_seqItems hTO₅ rfl ?_)
 refine wpAny_bind (wpAny_newTuple ?_)
 have hsz:h₅.objs.size=s.heap.objs.size:=by rw[hs₅.1,hs₄.1,hs₃.1,hs₂.1,hs₁.1]
 have hz₅:IsZip h₅ z TI TO .ellipsis:=hs₅.extBut _ _ D.TOz.symm (hs₄.extBut _ _ D.i2z.symm (hs₃.extBut _ _ D.TOz.symm (hs₂.extBut _ _ D.i1z.symm hz₁)))
 have hk₅:∀c o,c≠z→c≠TO→c≠i1→c≠i2→s.heap.get? c=some o→h₅.get? c=some o:=fun c o c1 c2 c3 c4 e=>
  hs₅.extBut _ _ c2 (hs₄.extBut _ _ c4 (hs₃.extBut _ _ c2 (hs₂.extBut _ _ c3 (hs₁.extBut _ _ c1 e))))
 have h1₅:SqI b1 h₅ i1 l1 (k1+1):=((h1₂.extBut hs₃.extBut D.TOi1.symm).extBut hs₄.extBut D.i12).extBut hs₅.extBut D.TOi1.symm
 have h2₅:SqI b2 h₅ i2 l2 (k2+1):=h2₄.extBut hs₅.extBut D.TOi2.symm
 have hzlt:z<h₅.objs.size:=Heap.lt_size hz₅
 show wpAny _ _ (Builtin.SmallTypes.ownedTupleHandOut (.ref z) (.ref h₅.objs.size) >>= _) _ _ _
 refine wpAny_bind ?_
 unfold Builtin.SmallTypes.ownedTupleHandOut
 have hz₆:IsZip (h₅.push { cls:=.type "tuple",data:=.seq #[x,y] }) z TI TO .ellipsis:=Heap.get?_push_of_some _ hz₅
 refine wpAny_bind (wpAny_setField_rec hz₆ (by simp) fun h₇ hz₇ hs₇=>?_)
 replace hz₇:IsZip h₇ z TI TO (rawInt h₅.objs.size):=hz₇
 refine wpAny_setField_rec hz₇ (by simp) fun h₈ hz₈ hs₈=>?_
 replace hz₈:IsZip h₈ z TI TO (rawInt h₅.objs.size):=hz₈
 have up:∀c o,c≠z→h₅.get? c=some o→h₈.get? c=some o:=fun c o c1 e=>hs₈.extBut _ _ c1 (hs₇.extBut _ _ c1 (Heap.get?_push_of_some _ e))
 have hT₈:IsPair h₈ h₅.objs.size x y:=hs₈.extBut _ _ (Nat.ne_of_gt hzlt) (hs₇.extBut _ _ (Nat.ne_of_gt hzlt) (Heap.get?_push_size _ rfl))
 rw[hsz]at hz₈ hT₈
 refine wpAny_pure ⟨_,rfl,?_⟩
 show wpAny _ _ (pure (some (Value.ref h₅.objs.size))) _ _ _
 rw[hsz]
 exact wpAny_pure (hQ h₈ hz₈ (up _ _ D.TOz hTO₅) (h1₅.at' fun o e=>up _ o D.i1z e) (h2₅.at' fun o e=>up _ o D.i2z e) hT₈ fun c o c1 c2 c3 c4 e=>up c o c1 (hk₅ c o c1 c2 c3 c4 e))
theorem zip_sq_end{b1 b2:Bool}{z TI TO i1 i2 l1 l2:Addr}{k1 k2:Nat}{xs ys:Array Value}{a b:Value}{Q:Option Value→Shared→Prop}(hh:A.handled=none)(D:ZipApart z TI TO i1 i2 l1 l2)
  (hz:IsZip s.heap z TI TO .none) (hTI:IsPair s.heap TI (.ref i1) (.ref i2)) (hTO:IsPair s.heap TO a b)
  (h1:SqI b1 s.heap i1 l1 k1) (h2:SqI b2 s.heap i2 l2 k2) (hl1:SqO b1 s.heap l1 xs) (hl2:SqO b2 s.heap l2 ys) (hend:xs[k1]? = none∨ys[k2]? = none)
  (hQ:∀h',(∀c o,c≠z→c≠TO→c≠i1→c≠i2→s.heap.get? c=some o→h'.get? c=some o)→Q none { s with heap:=h' }):wpAny (model prog w) A (pyNext (.ref z)) Q E s:=by
 have hT:s.TypeIs (.ref z) "zip":=⟨_,hz,rfl⟩
 have fin:∀h' e,(∀c o,c≠z→c≠TO→c≠i1→c≠i2→s.heap.get? c=some o→h'.get? c=some o)→(∃o,h'.get? e=some o∧o.cls=.type "StopIteration")→
   wpAny (model prog w) A (do
    if ←isInstance (.ref e) (.type "StopIteration")then pure none else throw (.ref e)) Q E { s with heap:=h' }:=fun h' e hk ⟨o,ho,hc⟩=>by
  refine wpAny_bind (wpAny_isInstance (T:="StopIteration") (b:=true) ⟨o,ho,hc⟩ isSubtype_stop ?_)
  exact wpAny_pure (hQ _ hk)
 unfold pyNext
 refine wpAny_bind (wpAny_attempt (wpAny_callSpecial?_slot (name:=Str.ofString "__next__") hT F.slot_zip_next (wpAny_call_entry F.slot_zip_next hT F.entry_zip_next ?_ (F.args_zip_next_1 _))))
 show wpAny _ _ (field (.ref z) 2 >>= _) _ _ _
 refine wpAny_bind (wpAny_field hz rfl (x:=.bool false) rfl ?_)
 show wpAny _ _ (field (.ref z) 3 >>= _) _ _ _
 refine wpAny_bind (wpAny_field hz rfl (x:=.ref TI) rfl ?_)
 refine wpAny_bind (wpAny_seqItems hTI rfl ?_)
 show wpAny _ _ (Builtin.SmallTypes.ownedTupleIsFree (.ref z) >>= _) _ _ _
 refine wpAny_bind ?_
 unfold Builtin.SmallTypes.ownedTupleIsFree
 refine wpAny_bind (wpAny_field hz rfl (x:=.none) rfl (wpAny_pure ?_))
 simp only[if_true]
 refine wpAny_bind (wpAny_rule ?_)
 refine wpAny_bind (wpAny_field hz rfl (x:=.ref TO) rfl ?_)
 refine wpAny_bind (wpAny_setField_rec hz (by simp) fun h₁ hz₁ hs₁=>?_)
 replace hz₁:IsZip h₁ z TI TO .ellipsis:=hz₁
 refine wpAny_bind ?_
 simp only[List.zipIdx_cons,List.zipIdx_nil,List.forIn_cons,List.forIn_nil]
 refine wpAny_bind (wpAny_bind (wpAny_onRaise ?_))
 show wpAny _ _ (Builtin.SmallTypes.nextOf (.ref i1) >>= _) _ _ _
 cases hx:xs[k1]? with
 |none=>
  refine wpAny_bind (next_sq_end hh (h1.extBut hs₁.extBut D.i1z) (hl1.extBut hs₁.extBut D.l1z) hx fun h₂ e hs₂ he=>?_)
  obtain⟨oe,hoe,hce⟩:=he
  have hz₂:IsZip h₂ z TI TO .ellipsis:=hs₂ _ _ D.i1z.symm hz₁
  have hez:e≠z:=fun x=>by subst x;rw[hz₂]at hoe;cases hoe;simp at hce
  exact wpAny_setField_rec hz₂ (by simp) fun h₃ _ hs₃=>fin h₃ e (fun c o c1 _ c3 _ x=>hs₃.extBut _ _ c1 (hs₂ _ _ c3 (hs₁.extBut _ _ c1 x))) ⟨oe,hs₃.extBut _ _ hez hoe,hce⟩
 |some x=>
  have hy:ys[k2]? = none:=by rcases hend with h | h;rw[hx]at h;cases h;exact h
  refine wpAny_bind (next_sq_item (h1.extBut hs₁.extBut D.i1z) (hl1.extBut hs₁.extBut D.l1z) hx fun h₂ h1₂ hs₂=>wpAny_pure ?_)
  have hTO₂:IsPair h₂ TO a b:=hs₂.extBut _ _ D.TOi1 (hs₁.extBut _ _ D.TOz hTO)
  refine wpAny_bind (wpAny_seqItems hTO₂ rfl ?_)
  refine wpAny_bind (wpAny_updateSeq_pair hTO₂ fun h₃ hTO₃ hs₃=>?_)
  refine wpAny_bind (wpAny_letGo (wpAny_pure ?_))
  refine wpAny_bind (wpAny_bind (wpAny_onRaise ?_))
  show wpAny _ _ (Builtin.SmallTypes.nextOf (.ref i2) >>= _) _ _ _
  refine wpAny_bind (next_sq_end hh (((h2.extBut hs₁.extBut D.i2z).extBut hs₂.extBut D.i12.symm).extBut hs₃.extBut D.TOi2.symm)
   (((hl2.extBut hs₁.extBut D.l2z).extBut hs₂.extBut D.l2i1).extBut hs₃.extBut D.l2TO) hy fun h₄ e hs₄ he=>?_)
  obtain⟨oe,hoe,hce⟩:=he
  have hz₄:IsZip h₄ z TI TO .ellipsis:=hs₄ _ _ D.i2z.symm (hs₃.extBut _ _ D.TOz.symm (hs₂.extBut _ _ D.i1z.symm hz₁))
  have hez:e≠z:=fun x=>by subst x;rw[hz₄]at hoe;cases hoe;simp at hce
  exact wpAny_setField_rec hz₄ (by simp) fun h₅ _ hs₅=>fin h₅ e (fun c o c1 c2 c3 c4 x=>hs₅.extBut _ _ c1 (hs₄ _ _ c4 (hs₃.extBut _ _ c2 (hs₂.extBut _ _ c3 (hs₁.extBut _ _ c1 x))))) ⟨oe,hs₅.extBut _ _ hez hoe,hce⟩
end
section
variable{X:Cx}{pins:PinT}{σ:St}{H H':Hp}{s:Shared}{h':Heap}
theorem Inv.turnedL{t':Nat}{ch:List Addr}(I:Inv X pins σ H s)(k:∀b o,b∉ch→s.heap.get? b=some o→h'.get? b=some o)(hf:∀b∈ch,FpOk X pins H b):Inv X pins σ H { s with heap:=h',toks:=t' }:=by
 have nit:∀b u,H b=some u→b∉ch:=fun b u e z=>by rw[(hf b z).1]at e;cases e
 refine I.step (g':=s.gens) (d':=s.drawn) (ch:=ch) (fun b hb=>?_) (fun b o _ _ hc e _=>k b o hc e) (fun b o _ _ hc e _=>⟨o.slots,k b o hc e⟩) (fun _ _ _ _ n=>n)
  (fun b o hc e=>⟨o,k b o hc e⟩) (fun _ _ e=>e) (fun _ _ _ e=>e) (fun b ps e=>⟨#[],by rw[e];simp⟩) (fun m hm=>?_) (fun b u e=>?_) I.bare
 ·obtain⟨_,f1,_,f3,f4,f5⟩:=hf b hb
  exact⟨f3,f1,f4,f5⟩
 ·obtain⟨o,es,ep,ho,r⟩:=hm
  exact⟨o,es,ep,k _ o (fun z=>(hf _ z).2.1 rfl) ho,r⟩
 ·refine(I.hok b u e).stay (fun c v hc q=>k c v ?_ q) (fun _ q=>q) fun _ _ q=>q
  rcases hc with z | z
  ·rw[z];exact nit b u e
  ·exact nit c _ z
end
def Sq(b:Bool)(K:FrgT)(H:Hp)(a:Addr)(xs:List V):Prop:=match b with
 |true=>SqT K H a xs
 |false=>SqL K H a xs
theorem Inv.sq{X:Cx}{pins:PinT}{σ:St}{H:Hp}{s:Shared}{b:Bool}{a:Addr}{xs:List V}(I:Inv X pins σ H s)(h:Sq b X.K H a xs):∃its:List Value,Vals xs its∧SqO b s.heap a its.toArray:=by
 cases b with
 |true=>obtain⟨its,r,p,_⟩:=I.tuple h;exact⟨its,r,p⟩
 |false=>obtain⟨its,r,p,_⟩:=I.list h;exact⟨its,r,p.isList⟩
theorem Inv.sq_inj{X:Cx}{pins:PinT}{σ:St}{H:Hp}{s:Shared}{b:Bool}{a:Addr}{xs ys:List V}(I:Inv X pins σ H s)(h:Sq b X.K H a xs)(h':Sq b X.K H a ys):xs=ys:=by
 cases b with
 |true=>exact I.tuple_inj h h'
 |false=>exact I.list_inj h h'
noncomputable def Itz(K:FrgT)(b1 b2:Bool)(l1 l2:Addr):It:=
  ⟨fun i H=>(∃xs x,Sq b1 K H l1 xs∧xs[i]? = some x)∧∃ys y,Sq b2 K H l2 ys∧ys[i]? = some y,
   fun i H x H'=>∃u v T,x=.ref T∧H T=none∧H'=upd H T (.tup [u,v])∧(∀xs,Sq b1 K H l1 xs→xs[i]? = some u)∧∀ys,Sq b2 K H l2 ys→ys[i]? = some v,
   fun i H=>∃xs ys,Sq b1 K H l1 xs∧Sq b2 K H l2 ys∧(xs.length≤i∨ys.length≤i)⟩
theorem turn_zip{P:Program}{w:World}{K:FrgT}{elts:List Expr}{kk:Nat}{tpos:Pos}(b1 b2:Bool){z TI TO i1 i2 l1 l2:Addr}(D:ZipApart z TI TO i1 i2 l1 l2):Turn P w K (.Tuple elts kk tpos) (Itz K b1 b2 l1 l2) [z,TI,TO,i1,i2] z
  (fun i h=>IsZip h z TI TO .none∧IsPair h TI (.ref i1) (.ref i2)∧(∃a b,IsPair h TO a b)∧SqI b1 h i1 l1 i∧SqI b2 h i2 l2 i) where
 mem:=by simp
 obj:=fun i h st b hb=>by
  obtain⟨hz,hTI,⟨x,y,hTO⟩,h1,h2⟩:=st
  rcases List.mem_cons.mp hb with rfl | hb
  ·exact⟨_,hz,fun v z=>by cases z⟩
  rcases List.mem_cons.mp hb with rfl | hb
  ·exact⟨_,hTI,fun v z=>by cases z⟩
  rcases List.mem_cons.mp hb with rfl | hb
  ·exact⟨_,hTO,fun v z=>by cases z⟩
  rcases List.mem_cons.mp hb with rfl | hb
  ·obtain⟨o,vs,e,d⟩:=h1.obj;exact⟨o,e,fun v z=>by rw[d]at z;cases z⟩
  rcases List.mem_cons.mp hb with rfl | hb
  ·obtain⟨o,vs,e,d⟩:=h2.obj;exact⟨o,e,fun v z=>by rw[d]at z;cases z⟩
  cases hb
 keep:=fun i h h' ⟨hz,hTI,⟨x,y,hTO⟩,h1,h2⟩ k=>⟨k z (by simp) _ hz,k TI (by simp) _ hTI,⟨x,y,k TO (by simp) _ hTO⟩,h1.at' fun o e=>k i1 (by simp) o e,h2.at' fun o e=>k i2 (by simp) o e⟩
 item:=by
  intro X hP hw hK hc i pins s σ H E I hf ⟨hz,hTI,⟨a0,b0,hTO⟩,h1,h2⟩ ⟨⟨xs,x,hq,hx⟩,⟨ys,y,hr,hy⟩⟩
  subst hP hw hK
  obtain⟨its,rv,p⟩:=Inv.sq I hq
  obtain⟨jts,rw',q⟩:=Inv.sq I hr
  obtain⟨u,hu,ru⟩:=rv.get hx
  obtain⟨v,hv,rv'⟩:=rw'.get hy
  have hf4:∀b∈[z,TO,i1,i2],b∈[z,TI,TO,i1,i2]:=fun b hb=>by simp at hb ⊢;rcases hb with h | h | h | h<;>simp[h]
  refine zip_sq_item D hz hTI hTO h1 h2 p q (x:=u) (y:=v) (by simpa using hu) (by simpa using hv) fun h' a1 a2 a3 a4 a5 hk=>⟨_,rfl,wpAny_letOwnedTupleGo_zip a1 fun h'' hz'' hs''=>?_⟩
  have hn:=I.hok.fresh (Nat.le_refl s.heap.objs.size)
  have ltz:=Heap.lt_size hz
  have ltO:=Heap.lt_size hTO
  have lt1:i1<s.heap.objs.size:=by obtain⟨_,_,e,_⟩:=h1.obj;exact Heap.lt_size e
  have lt2:i2<s.heap.objs.size:=by obtain⟨_,_,e,_⟩:=h2.obj;exact Heap.lt_size e
  have hl2:Vals [x,y] [u,v]:=.cons ru (.cons rv' .nil)
  have I1:Inv X pins σ (upd H s.heap.objs.size (.tup [x,y])) { s with heap:=s.heap.push { cls:=.type "tuple",data:=.seq #[u,v] } }:=
   I.laid (t':=s.toks) (fun b u e=>Heap.get?_push_of_some _ e) (Nat.le_refl _) ⟨by rw[sizeLine_eq];show 2≤_;decide,[u,v],hl2,⟨_,Heap.get?_push_size _ rfl,rfl,_,rfl⟩⟩
  have I2:Inv X pins σ (upd H s.heap.objs.size (.tup [x,y])) { s with heap:=h'' }:=by
   refine Inv.turnedL (s:={ s with heap:=s.heap.push { cls:=.type "tuple",data:=.seq #[u,v] } }) (ch:=[z,TO,i1,i2]) (t':=s.toks) I1 (fun b o hb e=>?_) fun b hb=>?_
   ·have nz:b≠z:=fun q=>hb (by simp[q])
    refine hs''.extBut _ _ nz ?_
    rcases Heap.get?_push_cases e with⟨rfl,rfl⟩ | e
    ·exact a5
    ·exact hk b o nz (fun q=>hb (by simp[q])) (fun q=>hb (by simp[q])) (fun q=>hb (by simp[q])) e
   ·obtain⟨f0,f⟩:=hf b (hf4 b hb)
    refine⟨?_,f⟩
    rw[upd_ne]
    ·exact f0
    ·rintro rfl
     simp at hb
     rcases hb with h | h | h | h
     ·rw[←h]at ltz;exact Nat.lt_irrefl _ ltz
     ·rw[←h]at ltO;exact Nat.lt_irrefl _ ltO
     ·rw[←h]at lt1;exact Nat.lt_irrefl _ lt1
     ·rw[←h]at lt2;exact Nat.lt_irrefl _ lt2
  refine⟨.ref s.heap.objs.size,_,I2,rfl,⟨x,y,_,rfl,hn,rfl,fun xs' h'=>by rw[Inv.sq_inj I h' hq];exact hx,fun ys' h'=>by rw[Inv.sq_inj I h' hr];exact hy⟩,
   ⟨hz'',hs''.extBut _ _ D.TIz (hk _ _ D.TIz D.TITO D.TIi1 D.TIi2 hTI),⟨_,_,hs''.extBut _ _ D.TOz a2⟩,a3.extBut hs''.extBut D.i1z,a4.extBut hs''.extBut D.i2z⟩,fun b hb=>?_⟩
  rw[upd_ne]
  ·exact(hf b hb).1
  ·rintro rfl
   have ltI:=Heap.lt_size hTI
   simp at hb
   rcases hb with h | h | h | h | h
   ·rw[←h]at ltz;exact Nat.lt_irrefl _ ltz
   ·rw[←h]at ltI;exact Nat.lt_irrefl _ ltI
   ·rw[←h]at ltO;exact Nat.lt_irrefl _ ltO
   ·rw[←h]at lt1;exact Nat.lt_irrefl _ lt1
   ·rw[←h]at lt2;exact Nat.lt_irrefl _ lt2
 done:=by
  intro X hP hw hK hc i pins s σ H E I hf ⟨hz,hTI,⟨a0,b0,hTO⟩,h1,h2⟩ ⟨xs,ys,hq,hr,hl⟩
  subst hP hw hK
  obtain⟨its,rv,p⟩:=Inv.sq I hq
  obtain⟨jts,rw',q⟩:=Inv.sq I hr
  have e1:=rv.length
  have e2:=rw'.length
  refine zip_sq_end (I.ok.hd hc) D hz hTI hTO h1 h2 p q ?_ fun h' hk=>⟨rfl,?_⟩
  ·rcases hl with hl | hl
   ·exact .inl (by simp;omega)
   ·exact .inr (by simp;omega)
  ·refine Inv.turnedL (ch:=[z,TO,i1,i2]) (t':=s.toks) I (fun b o hb e=>hk b o (fun q=>hb (by simp[q])) (fun q=>hb (by simp[q])) (fun q=>hb (by simp[q])) (fun q=>hb (by simp[q])) e) fun b hb=>hf b ?_
   simp at hb ⊢
   rcases hb with h | h | h | h<;>simp[h]
 self:=fun _ _ _ _ _ ⟨hz,_⟩ h=>wpAny_pyIter_zip hz h
noncomputable def itO(b:Bool)(l:Addr):Obj:=match b with
 |true=>{ cls:=.type "tuple_iterator",data:=.fields #[.ref l,.int 0 0] }
 |false=>{ cls:=.type "list_iterator",data:=.fields #[.ref l,.int 0 0] }
noncomputable abbrev zqH1(b1:Bool)(h:Heap)(l1:Addr):Heap:=h.push (itO b1 l1)
noncomputable abbrev zqH2(b1 b2:Bool)(h:Heap)(l1 l2:Addr):Heap:=(zqH1 b1 h l1).push (itO b2 l2)
noncomputable abbrev zqH3(b1 b2:Bool)(h:Heap)(l1 l2:Addr):Heap:=(zqH2 b1 b2 h l1 l2).push { cls:=.type "tuple",data:=.seq #[.ref h.objs.size,.ref (zqH1 b1 h l1).objs.size] }
noncomputable abbrev zqH4(b1 b2:Bool)(h:Heap)(l1 l2:Addr):Heap:=(zqH3 b1 b2 h l1 l2).push { cls:=.type "tuple",data:=.seq #[.none,.none] }
noncomputable abbrev zqH5(b1 b2:Bool)(h:Heap)(l1 l2:Addr):Heap:=(zqH4 b1 b2 h l1 l2).push { cls:=.type "zip",data:=.fields #[.none,.bool false,.bool false,.ref (zqH2 b1 b2 h l1 l2).objs.size,.ref (zqH3 b1 b2 h l1 l2).objs.size] }
theorem meets_zip_sq(b1 b2:Bool)(l1 l2:Addr)(xs ys:Array Value) :
  Meets (Builtin.«zip.__new__» ⟨[.type "zip",.ref l1,.ref l2],[]⟩) (fun _ R s=>SqO b1 s.heap l1 xs∧SqO b2 s.heap l2 ys∧
   R (.ok (.ret (.ref (zqH4 b1 b2 s.heap l1 l2).objs.size))) { s with heap:=zqH5 b1 b2 s.heap l1 l2 }):=by
 cases b1 with
 |false=>
  cases b2 with
  |false=>exact meets_zip_new l1 l2 xs ys
  |true=>
   refine .of_wp fun prog w A R s h=>?_
   obtain⟨hp,g,d,tk,os⟩:=s;obtain⟨hl1,hl2,h⟩:=h
   have hsub:=sub_zip
   have hL1:Heap.IsList (Shared.heap ⟨hp,g,d,tk,os⟩) l1 xs:=hl1
   have hL2:Heap.IsTuple (Shared.heap ⟨hp.push { cls:=.type "list_iterator",data:=.fields #[.ref l1,.int 0 0] },g,d,tk,os⟩) l2 ys:=Heap.IsTuple.push hl2 _
   wp_walk using wpAny_pyIter_list hL1,wpAny_pyIter_tuple hL2
   exact⟨_,rfl,h⟩
 |true=>
  cases b2 with
  |false=>
   refine .of_wp fun prog w A R s h=>?_
   obtain⟨hp,g,d,tk,os⟩:=s;obtain⟨hl1,hl2,h⟩:=h
   have hsub:=sub_zip
   have hL1:Heap.IsTuple (Shared.heap ⟨hp,g,d,tk,os⟩) l1 xs:=hl1
   have hL2:Heap.IsList (Shared.heap ⟨hp.push { cls:=.type "tuple_iterator",data:=.fields #[.ref l1,.int 0 0] },g,d,tk,os⟩) l2 ys:=Heap.IsList.push hl2 _
   wp_walk using wpAny_pyIter_tuple hL1,wpAny_pyIter_list hL2
   exact⟨_,rfl,h⟩
  |true=>
   refine .of_wp fun prog w A R s h=>?_
   obtain⟨hp,g,d,tk,os⟩:=s;obtain⟨hl1,hl2,h⟩:=h
   have hsub:=sub_zip
   have hL1:Heap.IsTuple (Shared.heap ⟨hp,g,d,tk,os⟩) l1 xs:=hl1
   have hL2:Heap.IsTuple (Shared.heap ⟨hp.push { cls:=.type "tuple_iterator",data:=.fields #[.ref l1,.int 0 0] },g,d,tk,os⟩) l2 ys:=Heap.IsTuple.push hl2 _
   wp_walk using wpAny_pyIter_tuple hL1,wpAny_pyIter_tuple hL2
   exact⟨_,rfl,h⟩
theorem SqI.new{b:Bool}{h:Heap}{a l:Addr}(e:h.get? a=some (itO b l)):SqI b h a l 0:=by
 cases b with
 |true=>exact⟨_,e,rfl,rfl⟩
 |false=>exact⟨_,e,rfl,rfl⟩
section
variable{prog:Program}{w:World}{A:Around}{E:ExcT}{s:Shared}
theorem call_zip_sq{b1 b2:Bool}{l1 l2:Addr}{xs ys:Array Value}{Q:ExcT}(hl1:SqO b1 s.heap l1 xs)(hl2:SqO b2 s.heap l2 ys)
  (h:∀h',IsZip h' (s.heap.objs.size+4) (s.heap.objs.size+2) (s.heap.objs.size+3) .none→IsPair h' (s.heap.objs.size+2) (.ref s.heap.objs.size) (.ref (s.heap.objs.size+1))→
   IsPair h' (s.heap.objs.size+3) .none .none→SqI b1 h' s.heap.objs.size l1 0→SqI b2 h' (s.heap.objs.size+1) l2 0→
   (∀c o,s.heap.get? c=some o→h'.get? c=some o)→Q (.ref (s.heap.objs.size+4)) { s with heap:=h' }) :
  wpAny (model prog w) A (call (.type "zip") [.ref l1,.ref l2]) Q E s:=by
 refine callType_new F.called_zip (by decide) (F.typeCall_zip_2 _ _) (F.newCall_zip_2 _ _) (fun obj=>F.args_object_init_3 obj _ _) F.entry_zip_new (meets_zip_sq b1 b2 l1 l2 xs ys) ⟨hl1,hl2,?_⟩
 have z1:(zqH1 b1 s.heap l1).objs.size=s.heap.objs.size+1:=Heap.size_push ..
 have z2:(zqH2 b1 b2 s.heap l1 l2).objs.size=s.heap.objs.size+2:=by rw[Heap.size_push,z1]
 have z3:(zqH3 b1 b2 s.heap l1 l2).objs.size=s.heap.objs.size+3:=by rw[Heap.size_push,z2]
 have z4:(zqH4 b1 b2 s.heap l1 l2).objs.size=s.heap.objs.size+4:=by rw[Heap.size_push,z3]
 have f1:∀b l,(itO b l).isFreed=false:=fun b l=>by cases b<;>rfl
 have g5:(zqH5 b1 b2 s.heap l1 l2).get? (zqH4 b1 b2 s.heap l1 l2).objs.size=some _:=Heap.get?_push_size _ rfl
 have g4:(zqH5 b1 b2 s.heap l1 l2).get? (zqH3 b1 b2 s.heap l1 l2).objs.size=some _:=Heap.get?_push_of_some _ (Heap.get?_push_size _ rfl)
 have g3:(zqH5 b1 b2 s.heap l1 l2).get? (zqH2 b1 b2 s.heap l1 l2).objs.size=some _:=Heap.get?_push_of_some _ (Heap.get?_push_of_some _ (Heap.get?_push_size _ rfl))
 have g2:(zqH5 b1 b2 s.heap l1 l2).get? (zqH1 b1 s.heap l1).objs.size=some _:=Heap.get?_push_of_some _ (Heap.get?_push_of_some _ (Heap.get?_push_of_some _ (Heap.get?_push_size _ (f1 _ _))))
 have g1:(zqH5 b1 b2 s.heap l1 l2).get? s.heap.objs.size=some _:=Heap.get?_push_of_some _ (Heap.get?_push_of_some _ (Heap.get?_push_of_some _ (Heap.get?_push_of_some _ (Heap.get?_push_size _ (f1 _ _)))))
 show _∧_
 rw[z2,z3,z4]at g5
 rw[z1,z2]at g3
 rw[z3]at g4
 rw[z1]at g2
 rw[z4]
 exact⟨⟨_,g5,rfl⟩,h _ g5 g3 g4 (.new g1) (.new g2) fun c o x=>
  Heap.get?_push_of_some _ (Heap.get?_push_of_some _ (Heap.get?_push_of_some _ (Heap.get?_push_of_some _ (Heap.get?_push_of_some _ x))))⟩
end
noncomputable def iZip(K:FrgT)(ta:TA):TI:=fun σ H R=>ta σ H fun vs H1=>∃b1 b2 l1 l2,vs=[.ref l1,.ref l2]∧(∃xs,Sq b1 K H1 l1 xs)∧(∃ys,Sq b2 K H1 l2 ys)∧R (Itz K b1 b2 l1 l2) H1
theorem pi_zip{X:Cx}{elts:List Expr}{kk:Nat}{tpos:Pos}{a b:Expr}{ta:TA}{p pos:Pos}(hg:Gl X "zip")(hm:X.mg "zip"=none)(ha:PA X [a,b] ta)(hs:starEach [a,b] X.env=[(false,eval a X.env),(false,eval b X.env)]:=by rfl)(hs2:starEach [b] X.env=[(false,eval b X.env)]:=by rfl) :
  PI X (.Tuple elts kk tpos) (.Call (.Name "zip" p) [a,b] [] pos) (iZip X.K ta):=by
 intro pins s σ H R I h
 refine PyProof.Rows.Call_ (ld_blt I hg hm PyProof.Rows.boot_zip (PyProof.Rows.callWith_type1 (thn (ha pos pins s σ H _ I h) fun us s1 ⟨vs,H1,I1,r1,q1⟩=>?_) (by rw[hs,hs2]) (by rw[hs2];rfl)))
 obtain⟨b1,b2,l1,l2,e,⟨xs,hx⟩,⟨ys,hy⟩,q⟩:=q1
 subst e
 cases r1 with
 |cons r rr=>
  cases rr with
  |cons r' rr=>
   cases rr
   cases r
   cases r'
   obtain⟨its,rv,p1⟩:=Inv.sq I1 hx
   obtain⟨jts,rw',p2⟩:=Inv.sq I1 hy
   have lt1:l1<s1.heap.objs.size:=by obtain⟨_,_,e,_⟩:=p1.obj;exact Heap.lt_size e
   have lt2:l2<s1.heap.objs.size:=by obtain⟨_,_,e,_⟩:=p2.obj;exact Heap.lt_size e
   refine call_zip_sq p1 p2 fun h' a1 a2 a3 a4 a5 hk=>?_
   refine wpAny_pyIter_zip (s:={ s1 with heap:=h' }) a1 ?_
   have D:ZipApart (s1.heap.objs.size+4) (s1.heap.objs.size+2) (s1.heap.objs.size+3) s1.heap.objs.size (s1.heap.objs.size+1) l1 l2:=by
    have up:∀{l:Addr}(k:Nat),l<s1.heap.objs.size→l≠s1.heap.objs.size+k:=fun k h=>Nat.ne_of_lt (Nat.lt_of_lt_of_le h (Nat.le_add_right _ _))
    have l10:l1≠s1.heap.objs.size:=Nat.ne_of_lt lt1
    have l20:l2≠s1.heap.objs.size:=Nat.ne_of_lt lt2
    have u1:=fun k=>up k lt1
    have u2:=fun k=>up k lt2
    generalize s1.heap.objs.size=n at l10 l20 u1 u2 ⊢
    constructor<;>first | exact u1 4 | exact u1 3 | exact l10 | exact u1 1 | exact u2 4 | exact u2 3 | exact l20 | exact u2 1 | (show(_:Nat)≠_;omega)
   refine⟨s1.heap.objs.size+4,[s1.heap.objs.size+4,s1.heap.objs.size+2,s1.heap.objs.size+3,s1.heap.objs.size,s1.heap.objs.size+1],_,_,H1,rfl,I1.kept (t':=s1.toks) hk,turn_zip b1 b2 D,⟨a1,a2,⟨_,_,a3⟩,a4,a5⟩,fun c hc=>?_,q⟩
   have le:s1.heap.objs.size≤c:=by
    simp at hc
    rcases hc with rfl | rfl | rfl | rfl | rfl
    ·exact Nat.le_add_right _ _
    ·exact Nat.le_add_right _ _
    ·exact Nat.le_add_right _ _
    ·exact Nat.le_refl _
    ·exact Nat.le_add_right _ _
   exact I1.fpOk le (I1.hok.fresh le)
end L3
namespace L3
open PySem PySem.Spec L2
variable[L2.TabP]
noncomputable def R.walk:R→Option (List D)
 |.v (.tup xs)=>some xs
 |.v (.lst xs)=>some xs
 |.fr xs=>some xs
 |.vw xs=>some xs
 |_=>none
noncomputable def zipD(xs ys:List D):List D:=(xs.zip ys).map fun p=>.tup [p.1,p.2]
def SqS(b:Bool)(K:FrgT)(O:Ow)(H:Hp)(a:Addr)(ys:List V):Prop:=match b with
 |true=>SqT K H a ys
 |false=>LsV K O H a ys
theorem SqS.sq{b:Bool}{K:FrgT}{O:Ow}{H:Hp}{a:Addr}{ys:List V}(h:SqS b K O H a ys):Sq b K H a ys:=by
 cases b with
 |true=>exact h
 |false=>exact LsV.sq h
theorem SqS.gs{b:Bool}{K:FrgT}{O O':Ow}{H H':Hp}(g:Gs O O' H H'){a:Addr}{ys:List V}(h:SqS b K O H a ys):SqS b K O' H' a ys:=by
 cases b with
 |true=>exact g.sqT h
 |false=>exact g.lsV h
theorem walk_rep{K:FrgT}{mg:BinT}{O:Ow}{H H₀:Hp}{r:R}{v:V}{xs:List D}(h:RepR K mg O H r v)(n:NewR H₀ r v)(e:r.walk=some xs):∃b a ys,v=.ref a∧SqS b K (frz H₀ O) H a ys∧RepAll K mg (frz H₀ O) H xs ys:=by
 unfold R.walk at e
 split at e
 ·cases e;obtain⟨a,ys,q,l,r⟩:=h;exact⟨true,a,ys,q,l,r.fre (frz_fre _ _)⟩
 ·cases e
  obtain⟨a,ys,q,l,r⟩:=h
  exact⟨false,a,ys,q,.inl ⟨.inl l.1,.inl ((frz_fre H₀ O).fr a l.2)⟩,r.fre (frz_fre _ _)⟩
 ·cases e
  obtain⟨a,ys,rfl,l,t,r⟩:=h
  exact⟨false,a,ys,rfl,.inl ⟨.inl l,.inl (frz_tmp (n a rfl) t)⟩,r.fre (frz_fre _ _)⟩
 ·cases e
  obtain⟨a,ys,q,l,r⟩:=h
  refine⟨false,a,ys,q,?_,r.fre (frz_fre _ _)⟩
  rcases l with⟨l,f⟩ | l
  ·refine .inl ⟨l,?_⟩
   rcases f with f | f
   ·exact .inl ((frz_fre H₀ O).fr a f)
   ·exact .inr (by rw[frz_not (by rw[f];intro z;cases z)];exact f)
  ·exact .inr l
 ·cases e
noncomputable def tupB(is:List Nat)(b:MS):D→MS:=fun d σ=>match d with
 |.tup es=>if es.length=is.length then b (setsD is es σ)else bad
 |_=>bad
noncomputable def zipR:List R→Option (List D)
 |[x,y]=>match x.walk,y.walk with
  |some xs,some ys=>some (zipD xs ys)
  |_,_=>none
 |_=>none
noncomputable def cForZ(is:List Nat)(ms:MA)(b:MS):MS:=fun σ=>do
 let rs ←ms σ
 match zipR rs with
 |some ds=>fLoop (tupB is b) ds σ
 |none=>bad
theorem zipR_inv{rs:List R}{ds:List D}(h:zipR rs=some ds):∃x y xs ys,rs=[x,y]∧x.walk=some xs∧y.walk=some ys∧ds=zipD xs ys:=by
 unfold zipR at h
 split at h
 ·rename_i x y
  split at h
  ·rename_i xs ys e1 e2
   cases h
   exact⟨x,y,xs,ys,rfl,e1,e2,rfl⟩
  ·cases h
 ·cases h
theorem zipD_get{xs ys:List D}{k:Nat}{d:D}{ds:List D}(e:(zipD xs ys).drop k=d::ds):∃x y,xs[k]? = some x∧ys[k]? = some y∧d=.tup [x,y]∧(zipD xs ys).drop (k+1)=ds:=by
 have e1:(zipD xs ys)[k]? = some d:=by
  have:=congrArg (·[0]?) e
  simpa using this
 unfold zipD at e1
 rw[List.getElem?_map]at e1
 cases ez:(xs.zip ys)[k]? with
 |none=>rw[ez]at e1;cases e1
 |some p=>
  rw[ez]at e1
  cases e1
  obtain⟨a,b⟩:=List.getElem?_zip_eq_some.mp ez
  refine⟨p.1,p.2,a,b,rfl,?_⟩
  have:=congrArg (List.drop 1) e
  simpa[List.drop_drop]using this
theorem zipD_end{xs ys:List D}{k:Nat}(e:(zipD xs ys).drop k=[]):xs.length≤k∨ys.length≤k:=by
 have:=congrArg List.length e
 unfold zipD at this
 simp only[List.length_drop,List.length_map,List.length_zip,List.length_nil]at this
 omega
theorem forZ_read{K:FrgT}{mg:BinT}{is:List Nat}{ms:MA}{b:MS}:∀D σV H,tsOf K mg (cForZ is ms b) D σV H→tFor (iZip K (taOf K mg ms)) (gTup K is.length (gNames is)) (tsOf K mg b) D σV H:=by
 rintro D σV H ⟨O,σ,S,fl,S',st,h,q⟩
 obtain⟨rs,S1,h1,h⟩:=M.inv h
 cases ez:zipR rs with
 |none=>rw[ez]at h;cases h
 |some ds=>
  ·rw[ez]at h
   obtain⟨x,y,xs,ys,rfl,ex,ey,rfl⟩:=zipR_inv ez
   refine⟨O,σ,S,_,S1,st,h1,fun O1 vs H1 g1 st1 rr nn=>?_⟩
   obtain⟨v1,r1,rfl,rx,v2,r2,rfl,ry,re⟩:=rr
   cases re
   obtain⟨b1,l1,us,rfl,s1,a1⟩:=walk_rep (H₀:=H) rx nn.1 ex
   obtain⟨b2,l2,ws,rfl,s2,a2⟩:=walk_rep (H₀:=H) ry nn.2.1 ey
   have st1':=st1.frz H
   refine⟨b1,b2,l1,l2,rfl,⟨us,s1.sq⟩,⟨ws,s2.sq⟩,?_⟩
   refine⟨fun k m σV' H'=>m=(zipD xs ys).length-k∧∃O' σ' S'',S3 K mg O' σ' S'' σV' H'∧Gs (frz H O1) O' H1 H'∧Kp σ σ' σV σV'∧(fLoop (tupB is b) ((zipD xs ys).drop k) σ').run S''=.ok fl S',⟨_,rfl,_,σ,S1,st1',Gs.refl _ _,Kp.refl _ _,h⟩,?_⟩
   rintro k m σV' H' ⟨rfl,O',σ',S'',st',g',kp,h⟩
   have s1':=SqS.gs g' s1
   have s2':=SqS.gs g' s2
   cases e:(zipD xs ys).drop k with
   |nil=>
    rw[e]at h
    cases h
    refine .inl ⟨⟨us,ws,s1'.sq,s2'.sq,?_⟩,q O' σV' H' (g1.frz.gs.trans g') st' kp⟩
    rw[a1.len,a2.len]
    exact zipD_end e
   |cons d ds'=>
    obtain⟨dx,dy,e1,e2,rfl,e'⟩:=zipD_get e
    obtain⟨u,eu,ru⟩:=(RepAll.gs g' a1).get e1
    obtain⟨v,ev,rv⟩:=(RepAll.gs g' a2).get e2
    have hlt:k<(zipD xs ys).length:=by
     have:=congrArg List.length e
     rw[List.length_drop,List.length_cons]at this
     omega
    rw[e]at h
    obtain⟨f1,S2,h2,h⟩:=M.inv h
    unfold tupB at h2
    dsimp only at h2
    by_cases c:[dx,dy].length=is.length
    ·rw[if_pos c]at h2
     refine .inr ⟨⟨⟨us,u,s1'.sq,eu⟩,⟨ws,v,s2'.sq,ev⟩⟩,fun σV2 H2=>∃O2 σ2 S2,S3 K mg O2 σ2 S2 σV2 H2∧Gs (frz H O1) O2 H1 H2∧Kp σ σ2 σV σV2∧(fLoop (tupB is b) ((zipD xs ys).drop (k+1)) σ2).run S2=.ok fl S',?_,fun x H2 yy=>?_⟩
     ·rintro σV2 H2 ⟨O2,σ2,S2,z1,z2,z3,z4⟩
      exact⟨_,by omega,rfl,O2,σ2,S2,z1,z2,z3,z4⟩
     ·obtain⟨u',v',T,rfl,hT,rfl,hu',hv'⟩:=yy
      have qu:=hu' us s1'.sq
      rw[eu]at qu
      cases qu
      have qv:=hv' ws s2'.sq
      rw[ev]at qv
      cases qv
      have gn:Go O' O' H' (upd H' T (.tup [u,v])):=Go.new0 hT
      refine⟨T,[u,v],rfl,SqT.of upd_same,by rw[←c];rfl,unp_sim (ds:=[dx,dy]) (st'.new0 hT) ⟨u,[v],rfl,ru.go gn,v,[],rfl,rv.go gn,rfl⟩ c fun σVn stn ks=>?_⟩
      refine⟨O',_,S'',f1,S2,stn,h2,?_⟩
      cases f1 with
      | nx σ2=>exact fun O2 σV2 H2 g2 st2 k2=>⟨O2,σ2,S2,st2,g'.trans (gn.gs.trans g2),kp.trans (ks.trans k2),by rw[e'];exact h⟩
      | ct σ2=>exact fun O2 σV2 H2 g2 st2 k2=>⟨O2,σ2,S2,st2,g'.trans (gn.gs.trans g2),kp.trans (ks.trans k2),by rw[e'];exact h⟩
      |bk σ2=>cases h;exact fun O2 σV2 H2 g2 st2 k2=>q O2 σV2 H2 (g1.frz.gs.trans (g'.trans (gn.gs.trans g2))) st2 (kp.trans (ks.trans k2))
      |rt r=>cases h;exact fun O2 v H2 g2 d2 e2 r2=>q O2 v H2 (g1.frz.gs.trans (g'.trans (gn.gs.trans g2))) d2 e2 r2
    ·rw[if_neg c]at h2;cases h2
theorem cs_forZ{X:Cx}{pos tpos:Pos}{is:List Nat}{es:List Expr}{k:Nat}{p cpos:Pos}{a b':Expr}{ms:MA}{body:List Stmt}{b:MS}(hp:PassesOwn (model X.prog X.w) X.A X.env X.xe)(hc:X.calm=true)(hgz:Gl X "zip")(hm:X.mg "zip"=none)(ha:CA X [a,b'] ms)(hg:PGs X es (gNames is))(hb:CSs X body b)
  (hn:(assignEach es X.env).length=is.length:=by rfl) (hst:(assignEach es X.env).findIdx? (·.1)=none:=by rfl)
  (hs:∀x,foldedSetIterable (.Call (.Name "zip" p) [a,b'] [] cpos) X.env x=pure x:=by intro _;rfl) (hs1:starEach [a,b'] X.env=[(false,eval a X.env),(false,eval b' X.env)]:=by rfl) (hs2:starEach [b'] X.env=[(false,eval b' X.env)]:=by rfl) :
  CS X (.For (.Tuple es k tpos) (.Call (.Name "zip" p) [a,b'] [] cpos) body [] pos) (cForZ is ms b):=
 ps_imp (ps_for hp hc (pi_zip hgz hm ha hs1 hs2) (pg_tup hc hg hn hst) hb hs) forZ_read
omit [L2.TabP]in
@[simp] theorem e_forZ{is:List Nat}{ms:MA}{b:MS}{σ:En}:cForZ is ms b σ=(do
 let rs ←ms σ
 match zipR rs with
 |some ds=>fLoop (tupB is b) ds σ
 | none=>bad):=rfl
section
variable{X:Cx}
noncomputable abbrev kdN:List String:=["int","bool","tuple","list","str"]
noncomputable def rIsi2(K:FrgT):List V→Hp→VK→Prop:=fun xs H Q=>∃x a n1 n2 t,xs=[x,.ref a]∧SqT K H a [.ty n1,.ty n2]∧TyW K H x t∧n1∈kdN∧n2∈kdN∧Q (.bl (isiB t n1||isiB t n2)) H
omit [L2.TabP]in
theorem call_isi2(kt:Kit X.K):CallR X (.builtin "isinstance") (rIsi2 X.K):=by
 intro pins s σ H xs us Q I rv h
 obtain⟨x,a,n1,n2,t,rfl,sq,ty,hn1,hn2,q⟩:=h
 obtain⟨u,w',rfl,r1,r2⟩:=vals2 rv
 cases(show w'=Value.ref a from r2)
 obtain⟨its,rv2,⟨o,ho,hc,n,hd⟩,_⟩:=I.tuple sq
 obtain⟨u1,u2,rfl,q1,q2⟩:=vals2 rv2
 cases(show u1=Value.type n1 from q1)
 cases(show u2=Value.type n2 from q2)
 obtain⟨oc,od,odt,osl⟩:=o
 cases hc
 cases hd
 have e:W.kitAny X.K (.type t) [.type n1,.type n2]=some (isiB t n1||isiB t n2):=by
  have e1:W.kitOne X.K (.type t) (.type n1)=some (isiB t n1):=kt.ans t ty.mem n1 hn1
  have e2:W.kitOne X.K (.type t) (.type n2)=some (isiB t n2):=kt.ans t ty.mem n2 hn2
  unfold W.kitAny
  rw[e1]
  cases isiB t n1 with
  |true=>rfl
  |false=>
   show W.kitAny X.K (.type t) [.type n2]=_
   unfold W.kitAny
   rw[e2]
   cases isiB t n2<;>rfl
 have fin:∀tk,EP X pins σ Q (.bool (isiB t n1||isiB t n2)) { s with toks:=tk }:=fun tk=>⟨.bl _,H,I.tok tk,rfl,q⟩
 cases ty with
 |non=>cases(show u=Value.none from r1);exact W.kia_tup W.kitx_none I.kIn True.intro ho e (fun z=>nomatch z) fin
 |bl y=>cases(show u=Value.bool y from r1);exact W.kia_tup W.kitx_bool I.kIn True.intro ho e (fun z=>nomatch z) fin
 |int i=>obtain⟨t,q⟩:=(show ∃t,u=Value.int i t from r1);cases q;exact W.kia_tup W.kitx_int I.kIn True.intro ho e (fun z=>nomatch z) fin
 |str y=>obtain⟨t,q⟩:=(show ∃t,u=Value.str y t from r1);cases q;exact W.kia_tup W.kitx_str I.kIn True.intro ho e (fun z=>nomatch z) fin
 |@lst a xs ea=>
  cases(show u=Value.ref a from r1)
  obtain⟨its,_,⟨o,n',h1,h2,_⟩,_⟩:=I.list ea
  exact W.kia_tup W.kitx_list I.kIn ⟨o,h1,h2⟩ ho e (fun z=>nomatch z) fin
 |@tup a xs ea=>
  cases(show u=Value.ref a from r1)
  obtain⟨its,_,⟨o,h1,h2,_⟩,_⟩:=I.tuple ea
  exact W.kia_tup W.kitx_tuple I.kIn ⟨o,h1,h2⟩ ho e (fun z=>nomatch z) fin
end
noncomputable def fIsi2:List R→M R
 |[x,.v (.tup [.ty n1,.ty n2])]=>match x.kind with
  |some t=>if n1∈kdN∧n2∈kdN then pure (.v (.bl (isiB t n1||isiB t n2)))else bad
  |none=>bad
 |_=>bad
theorem kIsi2{K:FrgT}{mg:BinT}:BinC K mg (rIsi2 K) fIsi2:=fun O σ S σV H vs rs r' S' Q st hr h q=>by
 unfold fIsi2 at h
 split at h
 ·rename_i x n1 n2
  obtain⟨v,u,rfl,hx,hy⟩:=reps2 hr
  obtain⟨a,ys,rfl,sq,y1,r1,rfl,e1,y2,r2,rfl,e2,e3⟩:=hy
  cases e3
  cases(show y1=.ty n1 from e1)
  cases(show y2=.ty n2 from e2)
  split at h
  ·rename_i t e
   by_cases hn:n1∈kdN∧n2∈kdN
   ·rw[if_pos hn]at h
    cases h
    exact⟨v,a,n1,n2,t,rfl,sq,R.kind_rep hx e,hn.1,hn.2,q O _ H (Go.refl _ _) st rfl trivial⟩
   ·rw[if_neg hn]at h;cases h
  ·cases h
 ·cases h
end L3
namespace L3
open PySem PySem.Spec L2 PyProof.Rows
variable[L2.TabP]
noncomputable def kLoop2(t:En→M Bool)(el:ME)(σ:En):List (D×D)→M (List D)
 |[]=>pure []
 |d::ds=>do
  let b ←t ((σ.set 0 (.val d.1)).set 1 (.val d.2))
  if b=true then do
   let r ←el ((σ.set 0 (.val d.1)).set 1 (.val d.2))
   let x ←r.dat
   let xs ←kLoop2 t el σ ds
   pure (x::xs)
  else kLoop2 t el σ ds
noncomputable def zipP:List R→Option (List (D×D))
 |[x,y]=>match x.walk,y.walk with
  |some xs,some ys=>some (xs.zip ys)
  |_,_=>none
 |_=>none
noncomputable def cCompZ(cap:List Nat)(ms:MA)(t:En→M Bool)(el:ME):ME:=fun σ=>do
 let rs ←ms σ
 match zipP rs with
 |some ds=>do
  chk (ds.length<sizeLine)
  let xs ←kLoop2 t el (cpEn 2 cap σ) ds
  pure (.fr xs)
 |none=>bad
theorem zipP_inv{rs:List R}{ds:List (D×D)}(h:zipP rs=some ds):∃x y xs ys,rs=[x,y]∧x.walk=some xs∧y.walk=some ys∧ds=xs.zip ys:=by
 unfold zipP at h
 split at h
 ·rename_i x y
  split at h
  ·rename_i xs ys e1 e2
   cases h
   exact⟨x,y,xs,ys,rfl,e1,e2,rfl⟩
  ·cases h
 ·cases h
theorem Sq.same{b:Bool}{K:FrgT}{H H':Hp}(s:Same H H'){a:Addr}{ys:List V}(h:Sq b K H a ys):Sq b K H' a ys:=by
 cases b with
 |true=>exact s.seqT h
 |false=>exact s.seq h
inductive CompJ(K:FrgT)(mg:BinT)(n:Nat)(cap:List Nat)(loop:Nat→M (List L3.D))(O1:Ow)(σ:En)(S':Store)(σV:L2.St)(H1:Hp)(A:Addr)(xs:List L3.D)(k:Nat)(zs:List V)(H':Hp):Prop
 |mk (O':Ow) (S'':Store) (acc xs':List L3.D) (st':S3 K mg O' (cpEn n cap σ) S'' (cpSt n cap σV) H') (s':Same H1 H') (own':∀b,H1 b≠none→O' b=blk O1 b) (tD:O' A=.tmp) (hH:H' A=some (.lst zs)) (hz:zs.length≤k)
   (rz:RepAll K mg O' H' acc zs) (h:(loop k).run S''=.ok xs' S') (ex:acc++xs'=xs)
theorem zipP_get{xs ys:List D}{k:Nat}{d:D×D}{ds:List (D×D)}(e:(xs.zip ys).drop k=d::ds):xs[k]? = some d.1∧ys[k]? = some d.2∧(xs.zip ys).drop (k+1)=ds:=by
 have e1:(xs.zip ys)[k]? = some d:=by
  have:=congrArg (·[0]?) e
  simpa using this
 obtain⟨a,b⟩:=List.getElem?_zip_eq_some.mp e1
 refine⟨a,b,?_⟩
 have:=congrArg (List.drop 1) e
 simpa[List.drop_drop]using this
theorem compZ_read{K:FrgT}{mg:BinT}{cap:List Nat}{ms:MA}{t:En→M Bool}{el:ME}:∀σV H Q,teOf K mg (cCompZ cap ms t el) σV H Q→tComp 2 cap (iZip K (taOf K mg ms)) (gTup K 2 (gNames [0,1])) (ttOf K mg t) (teOf K mg el) σV H Q:=by
 rintro σV H Q ⟨O,σ,S,r,S',st,h,q⟩
 obtain⟨rs,S1,h1,h⟩:=M.inv h
 cases ez:zipP rs with
 |none=>rw[ez]at h;cases h
 |some ds=>
  rw[ez]at h
  obtain⟨_,S2,h2,h⟩:=M.inv h
  obtain⟨hlen,rfl⟩:=chk_inv h2
  obtain⟨xs,S3',h3,h⟩:=M.inv h
  cases h
  obtain⟨x,y,xs1,xs2,rfl,ex,ey,rfl⟩:=zipP_inv ez
  refine⟨O,σ,S,_,S1,st,h1,fun O1 vs H1 g1 st1 rr nn=>?_⟩
  obtain⟨v1,r1,rfl,rx,v2,r2,rfl,ry,re⟩:=rr
  cases re
  obtain⟨b1,l1,us,rfl,s1,a1⟩:=walk_rep (H₀:=H) rx nn.1 ex
  obtain⟨b2,l2,ws,rfl,s2,a2⟩:=walk_rep (H₀:=H) ry nn.2.1 ey
  have st1':=st1.frz H
  have g1':Go O (frz H O1) H H1:=g1.frz
  generalize hOz:frz H O1=Oz at st1' g1' s1 s2 a1 a2
  refine⟨b1,b2,l1,l2,rfl,⟨us,s1.sq⟩,⟨ws,s2.sq⟩,fun D hD=>?_⟩
  have stb:S3 K mg (updO (blk Oz) D .tmp) (cpEn 2 cap σ) S1 (cpSt 2 cap σV) (upd H1 D (.lst [])):=(st1'.blk 2 cap).new hD
  refine⟨fun k m zs H'=>m=(xs1.zip xs2).length-k∧k≤(xs1.zip xs2).length∧CompJ K mg 2 cap (fun k=>kLoop2 t el (cpEn 2 cap σ) ((xs1.zip xs2).drop k)) Oz σ S' σV H1 D xs k zs H',
   ⟨_,rfl,Nat.zero_le _,_,S1,[],xs,stb,same_new hD _,fun b hb=>updO_ne (by rintro rfl;exact hb hD),updO_same,upd_same,Nat.le_refl _,rfl,h3,rfl⟩,?_⟩
  rintro k m zs H' ⟨rfl,hk,O',S'',acc,xs',st',s',own',tD,hH,hz,rz,h,exx⟩
  have q1:=Sq.same s' s1.sq
  have q2:=Sq.same s' s2.sq
  have raK1:RepAll K mg O' H' xs1 us:=(a1.fre (blk_fre Oz)).go ⟨s',own'⟩
  have raK2:RepAll K mg O' H' xs2 ws:=(a2.fre (blk_fre Oz)).go ⟨s',own'⟩
  cases e:(xs1.zip xs2).drop k with
  |nil=>
   rw[e]at h
   cases h
   rw[List.append_nil]at exx
   subst exx
   refine .inl ⟨⟨us,ws,q1,q2,?_⟩,?_⟩
   ·have:=congrArg List.length e
    rw[List.length_drop,List.length_zip,List.length_nil]at this
    rw[a1.len,a2.len];omega
   let Of:Ow:=fun b=>match H1 b with | none=>O' b | some _=>Oz b
   have ofOld:∀b,H1 b≠none→Of b=Oz b:=fun b hb=>by
    show(match H1 b with | none=>O' b | some _=>Oz b)=Oz b
    cases e:H1 b with
    |none=>exact absurd e hb
    |some _=>rfl
   have ofNew:∀b,H1 b=none→Of b=O' b:=fun b hb=>by
    show(match H1 b with | none=>O' b | some _=>Oz b)=O' b
    rw[hb]
   have fre:Fre O' Of:=⟨fun b hb=>by
     by_cases hb1:H1 b=none
     ·rw[ofNew b hb1];exact hb
     ·rw[ofOld b hb1];exact blk_free.mp ((own' b hb1).symm.trans hb)⟩
   have go:Go Oz Of H1 H':=⟨s',ofOld⟩
   have dom:Dom Of H':=⟨fun b hb=>by
    by_cases hb1:H1 b=none
    ·rw[ofNew b hb1]at hb;exact st'.dom.has b hb
    ·exact s'.some hb1,st'.dom.tabs⟩
   have eS:S1=S':=st1.emp.trans st'.emp.symm
   subst eS
   refine q Of (.ref D) H' (g1'.trans go) (st1'.go go dom) ⟨D,zs,rfl,hH,(ofNew D hD).trans tD,rz.fre fre⟩ fun a ea=>?_
   cases ea
   exact g1.same.free hD
  |cons d ds'=>
   obtain⟨e1,e2,e'⟩:=zipP_get e
   obtain⟨u,eu,ru⟩:=raK1.get e1
   obtain⟨v,ev,rv⟩:=raK2.get e2
   have hlt:k<(xs1.zip xs2).length:=by
    have:=congrArg List.length e
    rw[List.length_drop,List.length_cons]at this
    omega
   rw[e]at h
   obtain⟨b,S2,h2,h⟩:=M.inv h
   refine .inr ⟨⟨⟨us,u,q1,eu⟩,⟨ws,v,q2,ev⟩⟩,fun x H2 yy=>?_⟩
   obtain⟨u',v',T,rfl,hT,rfl,hu',hv'⟩:=yy
   have qu:=hu' us q1
   rw[eu]at qu
   cases qu
   have qv:=hv' ws q2
   rw[ev]at qv
   cases qv
   have gn:Go O' O' H' (upd H' T (.tup [u,v])):=Go.new0 hT
   have nDT:D≠T:=by rintro rfl;rw[hH]at hT;cases hT
   have stn:S3 K mg O' (((cpEn 2 cap σ).set 0 (.val d.1)).set 1 (.val d.2)) S'' (((cpSt 2 cap σV).set 0 (some u)).set 1 (some v)) (upd H' T (.tup [u,v])):=((st'.new0 hT).val (ru.go gn)).val (rv.go gn)
   have fg:Fgt (cpSt 2 cap σV) (((cpSt 2 cap σV).set 0 (some u)).set 1 (some v)):=((Fgt.refl _).set rfl).set rfl
   refine⟨T,[u,v],rfl,SqT.of upd_same,rfl,u,[v],rfl,v,[],rfl,rfl,fg,O',_,S'',b,S2,stn,h2,fun O2 H3 g2' st2=>?_⟩
   have g2:Go O' O2 H' H3:=gn.trans g2'
   cases b with
   |false=>
    rw[if_neg Bool.false_ne_true]at h
    refine iteF ⟨(xs1.zip xs2).length-(k+1),by omega,rfl,hlt,O2,S2,acc,xs',?_,s'.trans g2.same,fun b hb=>(g2.own b (s'.some hb)).trans (own' b hb),(g2.own D (by rw[hH];intro z;cases z)).trans tD,g2.same.at' _ _ hH,by omega,rz.go g2,by rw[e'];exact h,exx⟩
    have eS:S''=S2:=st'.emp.trans st2.emp.symm
    exact eS▸st'.go g2 st2.dom
   |true=>
    rw[if_pos rfl]at h
    obtain⟨r,S4,h4,h⟩:=M.inv h
    obtain⟨x,S5,h5,h⟩:=M.inv h
    obtain⟨xs3,S6,h6,h⟩:=M.inv h
    cases h
    refine iteT ⟨O2,_,S2,r,S4,st2,h4,fun O3 v H4 g3 st3 rr nn=>?_⟩
    obtain⟨rx,rfl⟩:=dat_rep (H₀:=H3) rr nn h5
    have G:Go O' (frz H3 O3) H' H4:=g2.trans g3.frz
    have hD4:H4 D=some (.lst zs):=G.same.at' _ _ hH
    have tD4:frz H3 O3 D=.tmp:=(G.own D (by rw[hH];intro z;cases z)).trans tD
    have eS:S''=S4:=st'.emp.trans st3.emp.symm
    refine⟨hD4,by omega,(xs1.zip xs2).length-(k+1),by omega,rfl,hlt,frz H3 O3,S4,acc++[x],xs3,?_,upd_over hD (s'.trans G.same) hD4 _,fun b hb=>(G.own b (s'.some hb)).trans (own' b hb),tD4,upd_same,
     by rw[List.length_append,List.length_singleton];omega,((rz.go G).append (.one rx)).updL (by rw[tD4];intro z;cases z) hD4,by rw[e'];exact h6,by rw[List.append_assoc];exact exx⟩
    exact eS▸(st'.go G (st3.frz H3).dom).updT tD4 hD4
section
variable{X:Cx}{scope esc:Scope}{EN N:List Str}{cap:List Nat}{elt a b':Expr}{ifs:List Expr}{pos tpos p cpos p1 p2:Pos}{x y:Str}{t:En→M Bool}{el:ME}{ms:MA}{k:Nat}
theorem ce_compZ(S:CpScope esc scope EN N 2 cap)(hgz:Gl X "zip")(hm:X.mg "zip"=none)(ha:CA X [a,b'] ms)(hx:N[0]? = some x)(hy:N[1]? = some y)
  (hlx:∀C fp s H,Loc (cxComp X scope N C fp s H).env.scope x∧(cxComp X scope N C fp s H).env.scope.names.lookup x=some .local) (hly:∀C fp s H,Loc (cxComp X scope N C fp s H).env.scope y∧(cxComp X scope N C fp s H).env.scope.names.lookup y=some .local)
  (ht:∀C fp s H,CFs (cxComp X scope N C fp s H) ifs t) (hel:∀C fp s H,CE (cxComp X scope N C fp s H) elt el)
  (he:X.env.scope=esc:=by rfl) (hN:X.N=EN:=by rfl) (hc:X.calm=true:=by rfl) (hs:∀x,foldedSetIterable (.Call (.Name "zip" p) [a,b'] [] cpos) X.env x=pure x:=by intro _;rfl)
  (hs1:starEach [a,b'] X.env=[(false,eval a X.env),(false,eval b' X.env)]:=by rfl) (hs2:starEach [b'] X.env=[(false,eval b' X.env)]:=by rfl)
  (hnn:∀C fp s H,(assignEach [.Name x p1,.Name y p2] (cxComp X scope N C fp s H).env).length=2∧(assignEach [.Name x p1,.Name y p2] (cxComp X scope N C fp s H).env).findIdx? (·.1)=none∧
   (assignEach [.Name x p1,.Name y p2] (cxComp X scope N C fp s H).env).map (·.2)=assign (.Name x p1) (cxComp X scope N C fp s H).env::(assignEach [.Name y p2] (cxComp X scope N C fp s H).env).map (·.2)∧
   (assignEach [.Name y p2] (cxComp X scope N C fp s H).env).map (·.2)=assign (.Name y p2) (cxComp X scope N C fp s H).env::(assignEach [] (cxComp X scope N C fp s H).env).map (·.2):=by intros;exact⟨rfl,rfl,rfl,rfl⟩) :
  CE X (.ListComp elt [⟨.Tuple [.Name x p1,.Name y p2] k tpos,.Call (.Name "zip" p) [a,b'] [] cpos,ifs,0⟩] scope pos) (cCompZ cap ms t el):=
 pe_imp (pe_comp (wi:=iZip X.K (taOf X.K X.mg ms)) (g:=gTup X.K 2 (gNames [0,1])) (tt:=ttOf X.K X.mg t) (te:=teOf X.K X.mg el) S (pi_zip hgz hm ha hs1 hs2)
  (fun C fp s H=>pg_tup hc (pgs_names_cons S.nd hx (hlx C fp s H).1 (pgs_names_cons S.nd hy (hly C fp s H).1 pgs_names_nil (hnn C fp s H).2.2.2 (.inr (hly C fp s H).2)) (hnn C fp s H).2.2.1 (.inr (hlx C fp s H).2)) (hnn C fp s H).1 (hnn C fp s H).2.1) ht hel he hN hc hs) compZ_read
end
omit [L2.TabP]in
@[simp] theorem e_compZ{cap:List Nat}{ms:MA}{t:En→M Bool}{el:ME}{σ:En}:cCompZ cap ms t el σ=(do
 let rs ←ms σ
 match zipP rs with
 |some ds=>do
  chk (ds.length<sizeLine)
  let xs ←kLoop2 t el (cpEn 2 cap σ) ds
  pure (.fr xs)
 | none=>bad):=rfl
section
variable{X:Cx}{scope esc:Scope}{EN N:List Str}{cap:List Nat}{elt a b':Expr}{ifs:List Expr}{pos tpos p cpos p1 p2:Pos}{x y:Str}{t:En→M Bool}{el:ME}{ms:MA}{k:Nat}
theorem we_compZ(S:CpScope esc scope EN N 2 cap)(hgz:Gl X "zip")(hm:X.mg "zip"=none)(ha:WA X [a,b'] ms)(hx:N[0]? = some x)(hy:N[1]? = some y)
  (hlx:∀C fp s H,Loc (cxComp X scope N C fp s H).env.scope x∧(cxComp X scope N C fp s H).env.scope.names.lookup x=some .local) (hly:∀C fp s H,Loc (cxComp X scope N C fp s H).env.scope y∧(cxComp X scope N C fp s H).env.scope.names.lookup y=some .local)
  (ht:∀C fp s H,WFs (cxComp X scope N C fp s H) ifs t) (hel:∀C fp s H,WE (cxComp X scope N C fp s H) elt el)
  (he:X.env.scope=esc:=by rfl) (hN:X.N=EN:=by rfl) (hc:X.calm=true:=by rfl) (hs:∀x,foldedSetIterable (.Call (.Name "zip" p) [a,b'] [] cpos) X.env x=pure x:=by intro _;rfl)
  (hs1:starEach [a,b'] X.env=[(false,eval a X.env),(false,eval b' X.env)]:=by rfl) (hs2:starEach [b'] X.env=[(false,eval b' X.env)]:=by rfl)
  (hnn:∀C fp s H,(assignEach [.Name x p1,.Name y p2] (cxComp X scope N C fp s H).env).length=2∧(assignEach [.Name x p1,.Name y p2] (cxComp X scope N C fp s H).env).findIdx? (·.1)=none∧
   (assignEach [.Name x p1,.Name y p2] (cxComp X scope N C fp s H).env).map (·.2)=assign (.Name x p1) (cxComp X scope N C fp s H).env::(assignEach [.Name y p2] (cxComp X scope N C fp s H).env).map (·.2)∧
   (assignEach [.Name y p2] (cxComp X scope N C fp s H).env).map (·.2)=assign (.Name y p2) (cxComp X scope N C fp s H).env::(assignEach [] (cxComp X scope N C fp s H).env).map (·.2):=by intros;exact⟨rfl,rfl,rfl,rfl⟩) :
  WE X (.ListComp elt [⟨.Tuple [.Name x p1,.Name y p2] k tpos,.Call (.Name "zip" p) [a,b'] [] cpos,ifs,0⟩] scope pos) (cCompZ cap ms t el):=
 ⟨ce_compZ S hgz hm ha.un hx hy hlx hly (fun C fp s H=>(ht C fp s H).un) (fun C fp s H=>(hel C fp s H).un) he hN hc hs hs1 hs2 hnn⟩
end
theorem ws_forZ{X:Cx}{pos tpos:Pos}{is:List Nat}{es:List Expr}{k:Nat}{p cpos:Pos}{a b':Expr}{ms:MA}{body:List Stmt}{b:MS}(hp:PassesOwn (model X.prog X.w) X.A X.env X.xe)(hc:X.calm=true)(hgz:Gl X "zip")(hm:X.mg "zip"=none)(ha:WA X [a,b'] ms)(hg:PGs X es (gNames is))(hb:WSs X body b)
  (hn:(assignEach es X.env).length=is.length:=by rfl) (hst:(assignEach es X.env).findIdx? (·.1)=none:=by rfl)
  (hs:∀x,foldedSetIterable (.Call (.Name "zip" p) [a,b'] [] cpos) X.env x=pure x:=by intro _;rfl) (hs1:starEach [a,b'] X.env=[(false,eval a X.env),(false,eval b' X.env)]:=by rfl) (hs2:starEach [b'] X.env=[(false,eval b' X.env)]:=by rfl) :
  WS X (.For (.Tuple es k tpos) (.Call (.Name "zip" p) [a,b'] [] cpos) body [] pos) (cForZ is ms b):=⟨cs_forZ hp hc hgz hm ha.un hg hb.un hn hst hs hs1 hs2⟩
section
open HT
variable{prog:Program}{w:World}{A:Around}{E:ExcT}{s:Shared}
omit [L2.TabP]in
theorem getItem_tuple_full{t sl:Addr}{items:Array Value}{vl vu:Value}{lo hi:Option Int}{Q:ExcT}(ht:IsTup s.heap t items)(hs:s.heap.IsSliceOf sl vl vu .none)(pl:IsPart vl lo)(pu:IsPart vu hi)
  (hw:sIx items.size 0 lo=0∧sIx items.size items.size hi=items.size)
  (h:Q (.ref t) s):wpAny (model prog w) A (getItem (.ref t) (.ref sl)) Q E s:=by
 obtain⟨os,hos,hcs,hds⟩:=id hs
 have hTs:s.TypeIs (.ref sl) "slice":=⟨os,hos,hcs⟩
 unfold getItem
 try with_reducible refine wpAny_holding ?_
 first | refine wpAny_bind (wpAny_pure ?_) | skip
 refine wpAny_bind (wpAny_sequenceKey ht.typeIs (by decide) ?_)
 refine wpAny_bind (wpAny_callSpecial?_slot (name:=Str.ofString "__getitem__") ht.typeIs PyProof.Rows.slot_tuple_getitem
  (wpAny_call_entry PyProof.Rows.slot_tuple_getitem ht.typeIs entry_tuple_getitem ?_ (args_tuple_getitem _ _)))
 show wpAny _ _ (Builtin.Tuple.tupleItemsOf (.ref t) >>= _) _ _ s
 refine wpAny_bind (tupleItemsOf_ ht ?_)
 refine wpAny_bind (wpAny_typeOf hTs ?_)
 rw[if_pos (by decide)]
 refine wpAny_bind (sliceApplied_gen hs pl pu ?_)
 rw[hw.1,hw.2]
 show wpAny _ _ (if((((0:Nat):Int))==0&&(1:Int)==1&&(items.size-0)==items.size)=true then _ else _) _ _ s
 rw[if_pos (by simp)]
 refine wpAny_bind (m:=Builtin.Tuple.tupleIsExact _) (wpAny_bind (wpAny_typeOf ht.typeIs (wpAny_pure ?_)))
 rw[if_pos (by decide)]
 refine wpAny_bind (wpAny_rule ?_)
 first
  |exact wpAny_bind (wpAny_pure (wpAny_pure ⟨_,rfl,wpAny_pure h⟩))
  |exact wpAny_bind (wpAny_pure ⟨_,rfl,wpAny_pure h⟩)
  |exact wpAny_pure ⟨_,rfl,wpAny_pure h⟩
end
noncomputable def rSlW(K:FrgT):V→Option Int→Option Int→Hp→VK→Prop:=fun x lo hi H Q=>∃a xs,x=.ref a∧SqT K H a xs∧(HT.sIx xs.length 0 lo=0∧HT.sIx xs.length xs.length hi=xs.length)∧Q (.ref a) H
omit [L2.TabP]in
theorem sl_whole{X:Cx}:SlR X (rSlW X.K):=by
 intro pins s σ H x v vl vu lo hi sl Q I rx hs pl pu h
 obtain⟨a,xs,rfl,hx,hw,q⟩:=h
 cases rx
 obtain⟨its,r,ht,hz⟩:=I.tuple hx
 have hlen:its.toArray.size=xs.length:=by rw[List.size_toArray];exact r.length.symm
 refine⟨"tuple",_,PyProof.Rows.slot_tuple_getitem.lookup,ht.typeIs,?_⟩
 exact getItem_tuple_full ht hs pl pu (by rw[hlen];exact hw) ⟨.ref a,H,I,rfl,q⟩
noncomputable def oSlW(x:R)(lo hi:Option Int):M R:=
 match x with
 |.v (.tup xs)=>pure (.v (.tup (cutD xs lo hi)))
 |_=>bad
noncomputable def cSlW(a:ME)(lo hi:MO):ME:=fun σ=>do
 let x ←a σ
 let l ←lo σ
 let h ←hi σ
 oSlW x l h
theorem cutD_whole{α:Type}{xs:List α}{lo hi:Option Int}(h:HT.sIx xs.length 0 lo=0∧HT.sIx xs.length xs.length hi=xs.length):cutD xs lo hi=xs:=by
 unfold cutD
 rw[h.1,h.2,List.drop_zero,Nat.sub_zero,List.take_of_length_le (Nat.le_refl _)]
section
variable{X:Cx}{e st:Expr}{m ms:ME}{lo hi:Option Expr}{ml mh:MO}{pos p2:Pos}
theorem ce_sliceW(he:CE X e m)(hl:CO X lo ml)(hu:CO X hi mh):CE X (.Subscript e (.Slice lo hi none p2) pos) (cSlW m ml mh):=pe_imp (pe_slice (sl_whole.or sl_tup) he hl hu)<|by
 rintro σV H Q ⟨O,σ,S,r,S',st,h,q⟩
 obtain⟨x,S1,h1,ha⟩:=M.inv h
 clear h
 obtain⟨l,S2,h2,hb⟩:=M.inv ha
 clear ha
 obtain⟨u,S3',h3,h⟩:=M.inv hb
 clear hb
 refine⟨O,σ,S,x,S1,st,h1,fun O1 vx H1 g1 st1 rx nx=>?_⟩
 refine⟨O1,σ,S1,l,S2,st1,h2,fun O2 H2 g2 st2=>?_⟩
 refine⟨O2,σ,S2,u,S3',st2,h3,fun O3 H3 g3 st3=>?_⟩
 have g:=(g1.trans g2).trans g3
 have rx3:=rx.go (g2.trans g3)
 unfold oSlW at h
 split at h
 ·rename_i xs
  cases h
  obtain⟨a,ys,rfl,l1,ra⟩:=rx3
  by_cases c:HT.sIx xs.length 0 l=0∧HT.sIx xs.length xs.length u=xs.length
  ·refine .inl ⟨a,ys,rfl,l1,by rw[ra.len];exact c,?_⟩
   rw[cutD_whole c]at q
   exact q O3 _ _ g st3 ⟨a,ys,rfl,l1,ra⟩ trivial
  ·exact .inr ⟨a,ys,rfl,l1,by rw[ra.len];exact c,fun p hp=>q O3 _ _ (g.trans (Go.new0 hp)) (st3.new0 hp) ⟨p,_,rfl,SqT.of upd_same,(ra.cut l u).go (Go.new0 hp)⟩ trivial⟩
 ·cases h
end
section
variable{X:Cx}{e st:Expr}{m:ME}{lo hi:Option Expr}{ml mh mo:MO}{pos p2 p p' pos':Pos}
theorem we_sliceW(he:WE X e m)(hl:WO X lo ml)(hu:WO X hi mh):WE X (.Subscript e (.Slice lo hi none p2) pos) (cSlW m ml mh):=⟨ce_sliceW he.un hl.un hu.un⟩
end
omit [L2.TabP]in
@[simp] theorem e_slW{a:ME}{lo hi:MO}{σ:En}:cSlW a lo hi σ=(do
 let x ←a σ
 let l ←lo σ
 let h ←hi σ
 oSlW x l h):=rfl
omit [L2.TabP]in
@[simp] theorem e_slWt{xs:List D}{l h:Option Int}:oSlW (.v (.tup xs)) l h=pure (.v (.tup (cutD xs l h))):=rfl
end L3
namespace L3
open PySem PySem.Spec L2
variable[L2.TabP]
inductive Fq where
 |nx (σ:En) | rt (d:D) (σ:En)
end L3
namespace L3
open PySem PySem.Spec L2 PyProof.Rows
variable[L2.TabP]
inductive Rx where
 |ret (d:D) | exc
inductive Fx where
 |nx (σ:En) | rt (d:D) | ex
end L3
namespace L3
open PySem PySem.Spec L2 PyProof.Rows
section
variable{X:Cx}
noncomputable def ch(c:Nat):Str:=⟨#[c]⟩
noncomputable def Its(z:Str):It:=⟨fun i _=>i<z.cps.size,fun i H x H'=>H'=H∧∃c,z.cps[i]? = some c∧x=.str (ch c),fun i _=>z.cps.size≤i⟩
theorem turn_str{P:Program}{w:World}{K:FrgT}{tg:Expr}(z:Str)(t:Tok)(it:Addr):Turn P w K tg (Its z) [it] it (fun i h=>(h.IsStrIter it "str_ascii_iterator" z t i)∨h.IsStrIter it "str_iterator" z t i) where
 mem:=by simp
 obj:=fun i h st b hb=>by
  have e:b=it:=by simpa using hb
  subst e
  rcases st with⟨o,e,c,d⟩ | ⟨o,e,c,d⟩<;>exact⟨o,e,fun v z=>by rw[d]at z;cases z⟩
 keep:=fun i h h' st k=>by
  rcases st with⟨o,e,c,d⟩ | ⟨o,e,c,d⟩
  ·exact .inl ⟨o,k it (by simp) o e,c,d⟩
  ·exact .inr ⟨o,k it (by simp) o e,c,d⟩
 item:=by
  intro X hP hw hK hc i pins s σ H E I hf st hg
  subst hP hw hK
  have hg:i<z.cps.size:=hg
  obtain⟨f0,f1,f2,f3,f4,f5⟩:=hf it (by simp)
  have hx:z.cps[i]? = some z.cps[i]:=by simp[hg]
  rcases st with st | st
  ·refine wpAny_pyNext_ascii_item st hx fun h' st' sb=>?_
   have I1:Inv X pins σ H { s with heap:=h',toks:=s.toks+1 }:=I.turned (t':=s.toks+1) (fun b o hb e=>(sb.2 b hb).trans e) f0 f1 f3 f4 f5
   obtain⟨o,e,c,d⟩:=id st'
   exact⟨_,rfl,go_of (s:={ s with heap:=h',toks:=s.toks+1 }) e c d (by decide) ⟨.str (ch z.cps[i]),H,I1,⟨_,rfl⟩,⟨rfl,_,hx,rfl⟩,.inl st',fun b hb=>(hf b hb).1⟩⟩
  ·refine wpAny_pyNext_wide_item st hx fun h' st' sb=>?_
   have I1:Inv X pins σ H { s with heap:=h',toks:=s.toks+1 }:=I.turned (t':=s.toks+1) (fun b o hb e=>(sb.2 b hb).trans e) f0 f1 f3 f4 f5
   obtain⟨o,e,c,d⟩:=id st'
   exact⟨_,rfl,go_of (s:={ s with heap:=h',toks:=s.toks+1 }) e c d (by decide) ⟨.str (ch z.cps[i]),H,I1,⟨_,rfl⟩,⟨rfl,_,hx,rfl⟩,.inr st',fun b hb=>(hf b hb).1⟩⟩
 done:=by
  intro X hP hw hK hc i pins s σ H E I hf st hg
  subst hP hw hK
  have hg:z.cps.size≤i:=hg
  obtain⟨f0,f1,f2,f3,f4,f5⟩:=hf it (by simp)
  have hx:z.cps[i]? = none:=by simp[hg]
  rcases st with st | st
  ·exact wpAny_pyNext_ascii_end (I.ok.hd hc) st hx fun h' eb=>⟨rfl,I.turned (t':=s.toks) (fun b o hb e=>eb b o hb e) f0 f1 f3 f4 f5⟩
  ·exact wpAny_pyNext_wide_end (I.ok.hd hc) st hx fun h' eb=>⟨rfl,I.turned (t':=s.toks) (fun b o hb e=>eb b o hb e) f0 f1 f3 f4 f5⟩
 self:=fun _ _ _ _ _ st h=>by
  rcases st with st | st
  ·exact wpAny_pyIter_striter_ascii st h
  ·exact wpAny_pyIter_striter_wide st h
theorem pi_str{tg l:Expr}{tl:TE}(hl:PE X l tl):PI X tg l (fun σ H R=>tl σ H fun x H1=>∃z,x=.str z∧R (Its z) H1):=by
 intro pins s σ H R I h
 refine thn (hl pins s σ H _ I h) fun v s1 ⟨x,H1,I1,r1,q1⟩=>?_
 obtain⟨z,e,q⟩:=q1
 subst e
 obtain⟨t,rfl⟩:=r1
 have fin:∀b∈[s1.heap.objs.size],FpOk X pins H1 b:=fun b hb=>by
  have e:b=s1.heap.objs.size:=by simpa using hb
  subst e
  exact I1.fpOk (Nat.le_refl _) (I1.hok.fresh (Nat.le_refl _))
 cases ha:z.cps.all (· < 128)with
 |true=>
  refine wpAny_pyIter_ascii ha ?_
  exact⟨s1.heap.objs.size,[s1.heap.objs.size],_,_,H1,rfl,I1.kept (t':=s1.toks) fun b o e=>Heap.get?_push_of_some _ e,turn_str z t _,.inl ⟨_,Heap.get?_push_size _ rfl,rfl,rfl⟩,fin,q⟩
 |false=>
  refine wpAny_pyIter_wide ha ?_
  exact⟨s1.heap.objs.size,[s1.heap.objs.size],_,_,H1,rfl,I1.kept (t':=s1.toks) fun b o e=>Heap.get?_push_of_some _ e,turn_str z t _,.inr ⟨_,Heap.get?_push_size _ rfl,rfl,rfl⟩,fin,q⟩
end
noncomputable def chD(z:Str):List D:=z.cps.toList.map fun c=>D.str (ch c)
noncomputable def chV(z:Str):List V:=z.cps.toList.map fun c=>V.str (ch c)
theorem its_at(z:Str)(H:Hp)(i:Nat):(i<(chV z).length→(Its z).go i H∧∀x H',(Its z).yld i H x H'→H'=H∧(chV z)[i]? = some x)∧((chV z).length≤i→(Its z).stop i H):=by
 have hl:(chV z).length=z.cps.size:=by unfold chV;rw[List.length_map,Array.length_toList]
 rw[hl]
 refine⟨fun hi=>⟨hi,fun x H' ⟨e,c,h1,h2⟩=>⟨e,?_⟩⟩,fun hi=>hi⟩
 subst h2
 unfold chV
 rw[List.getElem?_map,Array.getElem?_toList,h1]
 rfl
variable[L2.TabP]
theorem chD_rep{K:FrgT}{mg:BinT}{O:Ow}{H:Hp}(z:Str):RepAll K mg O H (chD z) (chV z):=by
 unfold chD chV
 induction z.cps.toList with
 |nil=>rfl
 |cons c r ih=>exact⟨_,_,rfl,rfl,ih⟩
noncomputable def iS(m:ME):MI:=fun σ=>do
 let r ←m σ
 match r with
 |.v (.str z)=>pure (chD z)
 |_=>bad
section
variable{X:Cx}{tg l:Expr}{m:ME}
theorem cc_str(hl:CE X l m):CIc X tg l (iS m):=pi_imp (pi_str hl)<|by
 rintro σV H R ⟨O,σ,S,xs,S',st,h,q⟩
 obtain⟨r,S1,h1,h⟩:=M.inv h
 split at h
 ·rename_i z
  cases h
  refine⟨O,σ,S,_,_,st,h1,fun O1 v H1 g1 st1 rr nn=>⟨z,rr,?_⟩⟩
  exact q O1 H1 (Its z) (chV z) g1 st1 (fun H2 _ i=>its_at z H2 i) (chD_rep z)
 ·cases h
theorem wc_str(hl:WE X l m):WIc X tg l (iS m):=⟨cc_str hl.un⟩
end
section
variable{K:FrgT}{mg:BinT}
noncomputable def txIn(i j:Str):Bool:=!(Builtin.Str.occurrences j i 0 j.length 1).isEmpty
noncomputable def oInS(neg:Bool):R→R→M R
 |.v (.str i),.v (.str j)=>pure (.v (.bl (neg ^^ txIn i j)))
 |_,_=>bad
theorem bInS:Bin K mg (fun x y H Q=>∃i j,x=.str i∧y=.str j∧Q (.bl (!(Builtin.Str.occurrences j i 0 j.length 1).isEmpty)) H) (oInS false):=fun O σ S σV H x y rx ry r' S' Q st hx hy h q=>by
 unfold oInS at h
 split at h
 ·rename_i i j
  cases h
  refine⟨i,j,hx,hy,?_⟩
  have:(!(Builtin.Str.occurrences j i 0 j.length 1).isEmpty)=(false ^^ txIn i j):=by unfold txIn;simp
  rw[this]
  exact q O _ H (Go.refl _ _) st rfl trivial
 ·cases h
end
end L3
namespace L3
open PySem PySem.Spec L2 PyProof.Rows
def KRep(K:FrgT)(mg:BinT)[L2.TabP](d:D)(u:Value):Prop:=∃v,RelV v u∧∀O H,Rep K mg O H d v
structure KTab(P:Program)(w:World)(K:FrgT)(mg:BinT)[L2.TabP](x:Str)(ps:List (Str×D)):Prop where
 ex:∃(a:Addr)(es:Array DictEntry)(n:Nat),(mg x=some (.ref a)∧(a==sysModules)=false)∧List.lookup a K=some { cls:=.type "dict",data:=.dict es n }∧KeysOf (PySem.strKind P w) es∧
  ∀k,match ps.lookup k with
   |some d=>∃u,findBy Value.isStrOf es k=some u∧KRep K mg d u
   |none=>findBy Value.isStrOf es k=none
variable[L2.TabP]
noncomputable def KEnts(K:FrgT)(mg:BinT):List (Str×D)→List DictEntry→Prop
 |[],es=>es=[]
 |p::ps,es=>∃e r,es=e::r∧(∃t,e.key=.str p.1 t)∧KRep K mg p.2 e.val∧KEnts K mg ps r
theorem kents_find{K:FrgT}{mg:BinT}{k:Str}:∀{ps:List (Str×D)}{es:List DictEntry},KEnts K mg ps es→match ps.lookup k with
   |some d=>∃u,(es.find? fun e=>Value.isStrOf k e.key).map (·.val)=some u∧KRep K mg d u
   |none=>(es.find? fun e=>Value.isStrOf k e.key).map (·.val)=none
 | [],es,h=>by cases h;rfl
 |p::ps,es,h=>by
  obtain⟨e,r,rfl,⟨t,ek⟩,kr,hr⟩:=h
  have ih:=kents_find (k:=k) hr
  obtain⟨pk,pd⟩:=p
  rw[List.lookup_cons,List.find?_cons,ek]
  by_cases c:k=pk
  ·subst c
   have e1:(k==k)=true:=by simp
   have e2:Value.isStrOf k (.str k t)=true:=by show(k==k)=true;simp
   rw[e1,e2]
   exact⟨_,rfl,kr⟩
  ·have e1:(k==pk)=false:=by simpa using c
   have e2:Value.isStrOf k (.str pk t)=false:=by
    show(pk==k)=false
    simp only[beq_eq_false_iff_ne,ne_eq]
    exact fun z=>c z.symm
   rw[e1,e2]
   exact ih
theorem ktab_mk{P:Program}{w:World}{K:FrgT}{h:Heap}{mg:BinT}{x:Str}{d:Addr}{es:Array DictEntry}{n:Nat}{ps:List (Str×D)}(X:K.In h)(G:h.Ns mainGlobals mg)
  (a:W.nsIn K mainGlobals x=some (some (.ref d))) (hs:(d==sysModules)=false) (l:List.lookup d K=some { cls:=.type "dict",data:=.dict es n }) (k:∀e∈es.toList,∃s,Value.isStrOf s e.key=true∧e.hash=hashStr w s)
  (f:KEnts K mg ps es.toList):KTab P w K mg x ps:=by
 refine⟨d,es,n,⟨W.mg_of X G a,hs⟩,l,fun e he=>?_,fun k=>?_⟩
 ·obtain⟨s,h1,h2⟩:=k e (by simpa using he)
  exact⟨s,h1,h2⟩
 ·have z:=kents_find (k:=k) f
  have:∀k:Str,findBy Value.isStrOf es k=(es.toList.find? fun e=>Value.isStrOf k e.key).map (·.val):=fun k=>by
   unfold findBy
   obtain⟨l⟩:=es
   rw[List.find?_toArray]
  rw[this]
  exact z
noncomputable def KStrs:List Str→List Value→Prop
 |[],us=>us=[]
 |x::xs,us=>∃t r,us=.str x t::r∧KStrs xs r
theorem kstrs_vals:∀{xs:List Str}{us:List Value},KStrs xs us→Vals (xs.map V.str) us
 | [],us,h=>by cases h;exact .nil
 | x::xs,us,h=>by obtain⟨t,r,rfl,q⟩:=h;exact .cons ⟨t,rfl⟩ (kstrs_vals q)
theorem krep_strs{K:FrgT}{mg:BinT}{xs:List Str}{a:Addr}{its:Array Value}{n:Nat}{od:Option Addr}{osl:Array (Option Value)}(l:List.lookup a K=some ⟨.type "tuple",od,.seq its n,osl⟩)(hz:its.size≤sizeLine)(h:KStrs xs its.toList) :
  KRep K mg (.tup (xs.map D.str)) (.ref a):=by
 refine⟨.ref a,rfl,fun O H=>⟨a,xs.map V.str,rfl,.inr ⟨_,its,n,l,rfl,rfl,hz,kstrs_vals h⟩,?_⟩⟩
 induction xs with
 |nil=>rfl
 | cons x r ih=>exact⟨_,_,rfl,rfl,by
   clear ih h
   induction r with
   |nil=>rfl
   | cons y q ih=>exact⟨_,_,rfl,rfl,ih⟩⟩
noncomputable def cTabIn(neg:Bool)(ps:List (Str×D))(mk:ME):ME:=fun σ=>do
 let k ←mk σ
 match k with
 |.v (.str z)=>pure (.v (.bl (neg ^^ (ps.lookup z).isSome)))
 |_=>bad
section
omit [L2.TabP]
@[simp] theorem e_iS{m:ME}{σ:En}:iS m σ=(do
 let r ←m σ
 match r with
 |.v (.str z)=>pure (chD z)
 | _=>bad):=rfl
@[simp] theorem e_oInS{b:Bool}{i j:Str}:oInS b (.v (.str i)) (.v (.str j))=pure (.v (.bl (b ^^ txIn i j))):=rfl
@[simp] theorem e_cTabIn{neg:Bool}{ps:List (Str×D)}{mk:ME}{σ:En}:cTabIn neg ps mk σ=(do
 let k ←mk σ
 match k with
 |.v (.str z)=>pure (.v (.bl (neg ^^ (ps.lookup z).isSome)))
 | _=>bad):=rfl
end
end L3
namespace L3
open PySem PySem.Spec L2 PyProof.Rows
variable[L2.TabP]
noncomputable def cDGet1(m mk:ME):ME:=fun σ=>do
 let x ←m σ
 let k ←mk σ
 match x,k with
 |.dv kvs,.v kd=>match keyD kd with
  |some key=>pure (.v ((dvalD kvs key).getD .non))
  |none=>bad
 |_,_=>bad
noncomputable def cTabGet(ps:List (Str×D))(mk:ME):ME:=fun σ=>do
 let k ←mk σ
 match k with
 |.v (.str z)=>pure (.v ((ps.lookup z).getD .non))
 |_=>bad
section
variable{X:Cx}{x:Str}{ps:List (Str×D)}{e:Expr}{p apos cpos:Pos}{mk:ME}
theorem ce_tabget(T:KTab X.prog X.w X.K X.mg x ps)(hg:Gl X x)(he:CE X e mk)(m:M1 X (.Name x p) "get" apos e cpos:=by exact⟨rfl,rfl,rfl,rfl⟩)(hdb:(x==("__debug__":Str))=false:=by decide) :
  CE X (.Call (.Attribute (.Name x p) "get" apos) [e] [] cpos) (cTabGet ps mk):=by
 intro pins s σ H Q I ⟨O,σ',S,r,S',st,h,q⟩
 obtain⟨y,S1,h1,h⟩:=M.inv h
 split at h
 ·rename_i z
  cases h
  obtain⟨a,es,n,⟨hm,hsm⟩,hl,hk,hf⟩:=T.ex
  refine wpAny_Call_method m.base m.few m.line PySem.F.plainAttrs_dict PySem.F.slot_dict_get PySem.F.type_dict_get (ld_glob I hg hm ?_ hdb)
  have ha:=I.kIn a _ hl
  refine⟨⟨_,ha,rfl⟩,fun b e=>by cases e;exact⟨_,ha,rfl⟩,?_⟩
  rw[m.trees]
  refine Calls.callWith_builtin rfl (Calls.evalArgs_plain (Calls.spliced_cons (thn (he pins s σ H (fun v H1=>v=.str z∧∃O1,Go O O1 H H1∧S3 X.K X.mg O1 σ' S' σ H1) I ⟨O,σ',S,_,_,st,h1,fun O1 v H1 g1 st1 rr nn=>⟨rr,O1,g1,st1⟩⟩) fun iv s2 ⟨y,H2,I2,ry,ey,O1,g1,st1⟩=>Calls.spliced_nil ?_)))
  subst ey
  obtain⟨t,rfl⟩:=ry
  have ha:=I2.kIn a _ hl
  have mo:s2.heap.MapOf (PySem.strKind X.prog X.w) a (findBy Value.isStrOf es):=⟨_,es,n,ha,⟨rfl,rfl,rfl⟩,rfl,hk,fun _=>rfl⟩
  refine call_meetsIn PySem.F.slot_dict_get mo.typeIs PySem.F.entry_dict_get (PySem.F.args_dict_get_2 _ _) (meets_dict_get (PySem.strKind X.prog X.w) a (k:=z) ?_ hsm) ⟨_,mo,?_⟩
  ·show(z==z)=true
   simp
  ·have:=hf z
   cases e1:ps.lookup z with
   |none=>
    rw[e1]at this q
    rw[this]
    exact⟨.non,H2,I2.tok _,rfl,q O1 _ H2 g1 st1 rfl trivial⟩
   |some d=>
    rw[e1]at this q
    obtain⟨u,e2,v,rv,rp⟩:=this
    rw[e2]
    exact⟨v,H2,I2.tok _,rv,q O1 _ H2 g1 st1 (rp O1 H2) trivial⟩
 ·cases h
theorem we_tabget(T:KTab X.prog X.w X.K X.mg x ps)(hg:Gl X x)(he:WE X e mk)(m:M1 X (.Name x p) "get" apos e cpos:=by exact⟨rfl,rfl,rfl,rfl⟩)(hdb:(x==("__debug__":Str))=false:=by decide) :
  WE X (.Call (.Attribute (.Name x p) "get" apos) [e] [] cpos) (cTabGet ps mk):=⟨ce_tabget T hg he.un m hdb⟩
end
section
omit [L2.TabP]
@[simp] theorem e_cDGet1{m mk:ME}{σ:En}:cDGet1 m mk σ=(do
 let x ←m σ
 let k ←mk σ
 match x,k with
 |.dv kvs,.v kd=>match keyD kd with
  |some key=>pure (.v ((dvalD kvs key).getD .non))
  |none=>bad
 | _,_=>bad):=rfl
@[simp] theorem e_cTabGet{ps:List (Str×D)}{mk:ME}{σ:En}:cTabGet ps mk σ=(do
 let k ←mk σ
 match k with
 |.v (.str z)=>pure (.v ((ps.lookup z).getD .non))
 | _=>bad):=rfl
end
inductive Ry where
 |ret (d:D) | exc (c:Str)
inductive Fy where
 |nx (σ:En) | rt (d:D) | ex (c:Str)
inductive Ya where
 |ok (ds:List D) | ex (c:Str)
inductive Qy where
 |ok (r:R) | ex (c:Str)
inductive Qs where
 |ok (xs:List D) | ex (c:Str)
end L3
namespace L3
open PySem PySem.Spec L2
variable[L2.TabP]
theorem NewR.gs{O O1:Ow}{H H1:Hp}(g:Gs O O1 H H1):∀{r:R}{v:V},NewR H1 r v→NewR H r v
 |.v _,_,_=>trivial
 |.vw _,_,_=>trivial
 |.mv _,_,_=>trivial
 |.dv _,_,_=>trivial
 |.fr _,_,h=>fun a e=>by
  cases q:H a with
  |none=>rfl
  | some o=>exact absurd (h a e) (g.has a (by rw[q];intro z;cases z))
noncomputable abbrev MG:=En→M (R×En)
def PoG(K:FrgT)(mg:BinT)(O:Ow)(σ:En)(S':Store)(σV:St)(H:Hp)(r:R)(σ':En)(Q:VK):Prop:=
 ∀O' v H',Gs O O' H H'→S3 K mg O' σ' S' σV H'→Kp σ σ' σV σV→RepR K mg O' H' r v→NewR H r v→Q v H'
noncomputable def tgOf(K:FrgT)(mg:BinT)(m:MG):TE:=fun σV H Q=>∃O σ S r σ' S',S3 K mg O σ S σV H∧(m σ).run S=.ok (r,σ') S'∧PoG K mg O σ S' σV H r σ' Q
structure WG(X:Cx)(e:Expr)(m:MG):Prop where
 un:PE X e (tgOf X.K X.mg m)
noncomputable def gOf(m:ME):MG:=fun σ=>do
 let r ←m σ
 pure (r,σ)
theorem wg_of{X:Cx}{e:Expr}{m:ME}(h:WE X e m):WG X e (gOf m):=⟨pe_imp h.un<|by
 rintro σV H Q ⟨O,σ,S,r,σ',S',st,h,q⟩
 obtain⟨r1,S1,h1,h⟩:=M.inv h
 cases h
 exact⟨O,σ,S,r,_,st,h1,fun O' v H' g st' rr nn=>q O' v H' g.gs st' (Kp.refl _ _) rr nn⟩⟩
inductive Fr where
 |nx (σ:En) | rt (r:R) (σ:En)
noncomputable abbrev MSr:=En→M Fr
def PoR(K:FrgT)(mg:BinT)(O:Ow)(σ:En)(S':Store)(σV:St)(H:Hp)(f:Fr)(Dn:Ends):Prop:=match f with
 |.nx σ'=>PoN K mg O σ S' σV H σ' Dn.nx
 |.rt r σ'=>∀O' σV' H' v,Gs O O' H H'→S3 K mg O' σ' S' σV' H'→Kp σ σ' σV σV'→RepR K mg O' H' r v→NewR H r v→Dn.rt v H'
theorem PoR.gs{K:FrgT}{mg:BinT}{O O1:Ow}{σ σ1:En}{S':Store}{σV σV1:St}{H H1:Hp}{f:Fr}{Dn:Ends}(h:PoR K mg O σ S' σV H f Dn)(g:Gs O O1 H H1)(k:Kp σ σ1 σV σV1):PoR K mg O1 σ1 S' σV1 H1 f Dn:=by
 cases f with
 |nx σ'=>exact PoN.gs h g k
 |rt d σ'=>exact fun O' σV' H' v g' st k' r n=>h O' σV' H' v (g.trans g') st (k.trans k') r (n.gs g)
noncomputable def trOf(K:FrgT)(mg:BinT)(m:MSr):TS:=fun Dn σV H=>∃O σ S f S',S3 K mg O σ S σV H∧(m σ).run S=.ok f S'∧PoR K mg O σ S' σV H f Dn
structure RQ(X:Cx)(st:Stmt)(m:MSr):Prop where
 un:PS X st (trOf X.K X.mg m)
structure RQs(X:Cx)(sts:List Stmt)(m:MSr):Prop where
 un:PSs X sts (trOf X.K X.mg m)
noncomputable def rOf(a:MS):MSr:=fun σ=>do
 let fl ←a σ
 match fl with
 |.nx σ'=>pure (.nx σ')
 |_=>bad
noncomputable def keepR:R→M R
 |.v d=>pure (.v d)
 |.fr xs=>pure (.fr xs)
 |_=>bad
noncomputable def rRet(m:ME):MSr:=fun σ=>do
 let r ←m σ
 let r ←keepR r
 pure (.rt r σ)
noncomputable def rRetG(m:MG):MSr:=fun σ=>do
 let(r,σ') ←m σ
 let r ←keepR r
 pure (.rt r σ')
noncomputable def rIf(t:En→M Bool)(a b:MSr):MSr:=fun σ=>do
 let t ←t σ
 if t=true then a σ else b σ
noncomputable def rPass:MSr:=fun σ=>pure (.nx σ)
noncomputable def rNev:MSr:=fun _=>bad
noncomputable def rSeq(a b:MSr):MSr:=fun σ=>do
 let f ←a σ
 match f with
 |.nx σ'=>b σ'
 |f=>pure f
omit [L2.TabP]in
theorem keepR_inv{r r':R}{S S':Store}(h:(keepR r).run S=.ok r' S'):r=r'∧S=S':=by
 cases r<;>cases h<;>exact⟨rfl,rfl⟩
section
variable{X:Cx}{st:Stmt}{rest:List Stmt}{pos:Pos}{a b:MSr}
theorem rq_of{m:MS}(h:WS X st m):RQ X st (rOf m):=⟨ps_imp h.un<|by
 rintro D σV H ⟨O,σ,S,fl,S',s3,h,q⟩
 obtain⟨f,S1,h1,h⟩:=M.inv h
 refine⟨O,σ,S,f,S1,s3,h1,?_⟩
 cases f with
 |nx σ'=>cases h;exact q
 |bk _=>cases h
 |ct σ'=>cases h
 | rt r=>cases h⟩
theorem rq_ret{e:Expr}{m:ME}(he:WE X e m):RQ X (.Return (some e) pos) (rRet m):=⟨ps_imp (ps_ret he.un)<|by
 rintro D σV H ⟨O,σ,S,f,S',st,h,q⟩
 obtain⟨r,S1,h1,h⟩:=M.inv h
 obtain⟨r',S2,h2,h⟩:=M.inv h
 cases h
 obtain⟨rfl,rfl⟩:=keepR_inv h2
 exact⟨O,σ,S,r,_,st,h1,fun O1 v H1 g1 st1 rr nn=>q O1 σV H1 v g1.gs st1 (Kp.refl _ _) rr nn⟩⟩
theorem rq_retG{e:Expr}{m:MG}(he:WG X e m):RQ X (.Return (some e) pos) (rRetG m):=⟨ps_imp (ps_ret he.un)<|by
 rintro D σV H ⟨O,σ,S,f,S',st,h,q⟩
 obtain⟨⟨r,σ'⟩,S1,h1,h⟩:=M.inv h
 obtain⟨r',S2,h2,h⟩:=M.inv h
 cases h
 obtain⟨rfl,rfl⟩:=keepR_inv h2
 exact⟨O,σ,S,r,σ',_,st,h1,fun O1 v H1 g1 st1 k1 rr nn=>q O1 σV H1 v g1 st1 k1 rr nn⟩⟩
theorem rq_if{c:Expr}{A B:List Stmt}{t:En→M Bool}(hc:WT X c t)(ha:RQs X A a)(hb:RQs X B b):RQ X (.If c A B pos) (rIf t a b):=⟨ps_imp (ps_if hc.un ha.un hb.un)<|by
 rintro D σV H ⟨O,σ,S,fl,S',st,h,q⟩
 obtain⟨t,S1,h1,h⟩:=M.inv h
 refine⟨O,σ,S,t,S1,st,h1,fun O1 H1 g1 st1=>?_⟩
 cases t with
 |false=>
  rw[if_neg Bool.false_ne_true]at h
  exact iteF ⟨O1,σ,S1,fl,S',st1,h,q.gs g1.gs (Kp.refl _ _)⟩
 |true=>
  rw[if_pos rfl]at h
  exact iteT ⟨O1,σ,S1,fl,S',st1,h,q.gs g1.gs (Kp.refl _ _)⟩⟩
theorem rq_nev:RQ X st rNev:=⟨fun pins s σV H D I ⟨O,σ,S,fl,S',st,h,q⟩=>by cases h⟩
theorem rqs_nil:RQs X [] rPass:=⟨pss_imp pss_nil fun D σV H ⟨O,σ,S,fl,S',st,h,q⟩=>by cases h;exact q O σV H (Gs.refl _ _) st (Kp.refl _ _)⟩
theorem rqs_one(h:RQ X st a):RQs X [st] a:=⟨pss_one h.un⟩
theorem rqs_cons(h1:RQ X st a)(h2:RQs X rest b):RQs X (st::rest) (rSeq a b):=⟨pss_imp (pss_cons h1.un h2.un)<|by
 rintro D σV H ⟨O,σ,S,fl,S',st,h,q⟩
 obtain⟨f1,S1,h1,h⟩:=M.inv h
 refine⟨O,σ,S,f1,S1,st,h1,?_⟩
 cases f1 with
 |nx σ1=>exact fun O1 σV1 H1 g1 st1 k1=>⟨O1,σ1,S1,fl,S',st1,h,q.gs g1 k1⟩
 | rt d σ1=>cases h;exact q⟩
end
noncomputable def keepB:R→Bool
 |.v _=>true
 |.fr _=>true
 |_=>false
noncomputable def ArgV(K:FrgT)(mg:BinT)(O:Ow)(H:Hp):D→V→Prop
 |.lst xs,v=>∃a ys,v=.ref a∧LsV K O H a ys∧RepAll K mg O H xs ys
 |.dic _ _,_=>False
 |d,v=>Rep K mg O H d v
noncomputable def ArgVs(K:FrgT)(mg:BinT)(O:Ow)(H:Hp):List D→List V→Prop
 |[],ys=>ys=[]
 |x::xs,ys=>∃y r,ys=y::r∧ArgV K mg O H x y∧ArgVs K mg O H xs r
section
variable{K:FrgT}{mg:BinT}{O O':Ow}{H H':Hp}
theorem ArgV.of{d:D}{v:V}(h:Rep K mg O H d v):ArgV K mg O H d v:=by
 cases d with
 |lst xs=>obtain⟨a,ys,e,l,r⟩:=h;exact⟨a,ys,e,.inl ⟨.inl l.1,.inl l.2⟩,r⟩
 |dic _ _=>exact h
 |_=>exact h
theorem ArgVs.len:∀{ds:List D}{xs:List V},ArgVs K mg O H ds xs→xs.length=ds.length
 | [],_,h=>by cases h;rfl
 | _::_,_,h=>by obtain⟨x,r,rfl,_,b⟩:=h;rw[List.length_cons,List.length_cons,ArgVs.len b]
theorem ArgVs.get:∀{ds:List D}{xs:List V}{i:Nat}{d:D},ArgVs K mg O H ds xs→ds[i]? = some d→∃x,xs[i]? = some x∧ArgV K mg O H d x
 | [],_,_,_,_,e=>by simp at e
 | _::_,_,0,d,h,e=>by obtain⟨x,r,rfl,a,_⟩:=h;cases(show some _=some d from e);exact⟨x,rfl,a⟩
 |_::ds,_,i+1,d,h,e=>by
  obtain⟨x,r,rfl,_,b⟩:=h
  obtain⟨y,e1,e2⟩:=ArgVs.get (i:=i) b (by simpa using e)
  exact⟨y,by simpa using e1,e2⟩
structure RoO(O O':Ow):Prop where
 fre:Fre O O'
 out:∀b,O b=.out→O' b=.out
theorem inO_ro{ws:List Rt}:RoO O (inO ws O):=⟨inO_fre,fun b h=>by unfold inO;rw[h];rfl⟩
theorem ArgV.slot{w:Own}(g:RoO O O'):∀{d:D}{v:V},ArgV K mg O H d v→SlotR K mg O' H w (slotOf d) (some v)
 |.non,v,h=>⟨v,rfl,Rep.fre g.fre h⟩
 |.bl _,v,h=>⟨v,rfl,Rep.fre g.fre h⟩
 |.int _,v,h=>⟨v,rfl,Rep.fre g.fre h⟩
 |.str _,v,h=>⟨v,rfl,Rep.fre g.fre h⟩
 |.tup _,v,h=>⟨v,rfl,Rep.fre g.fre h⟩
 |.fn _,v,h=>⟨v,rfl,Rep.fre g.fre h⟩
 |.ty _,v,h=>⟨v,rfl,Rep.fre g.fre h⟩
 |.dic _ _,_,h=>h.elim
 |.lst xs,v,h=>by
  obtain⟨a,ys,rfl,l,r⟩:=h
  refine⟨a,ys,rfl,?_,r.fre g.fre⟩
  rcases l with⟨l,f⟩ | l
  ·exact .inl ⟨l,f.elim (fun z=>.inl (g.fre.fr a z)) fun z=>.inr (g.out a z)⟩
  ·exact .inr l
theorem RepR.bk(fre:Fre O O'):∀{r:R}{v:V},RepR K mg O H r v→keepB r=true→(nv:NewR H' r v)→(∀b,H' b=none→O b=.tmp→O' b=.tmp)→RepR K mg O' H r v
 |.v _,_,h,_,_,_=>Rep.fre fre h
 | .fr _,_,h,_,nv,t=>by obtain⟨a,ys,rfl,l,o,r⟩:=h;exact⟨a,ys,rfl,l,t a (nv a rfl) o,r.fre fre⟩
 | .vw _,_,_,k,_,_=>by cases k
 | .mv _,_,_,k,_,_=>by cases k
 | .dv _,_,_,k,_,_=>by cases k
end
noncomputable abbrev MTQ:=List Tr→List D→M (R×List Tr)
noncomputable def fnTQ(nt n N:Nat)(b:MSr):MTQ:=fun ts ds=>if ts.length=nt∧nt+ds.length=n then do
  let fl ←b (ts.map (.tr .par)++ds.map slotOf++List.replicate (N-n) .emp)
  match fl with
  |.rt r σ'=>do
   chk (keepB r=true)
   let ts' ←trEnd nt σ'
   pure (r,ts')
  |.nx σ'=>do
   let ts' ←trEnd nt σ'
   pure (.v .non,ts')
 else bad
noncomputable def spTQ(K:FrgT)(mg:BinT)(mf:MTQ):Sp:=fun vs H Q _=>∃O ws ts ds us us' rd ts' S',vs=us++us'∧Dom O H∧(ts.length=ws.length∧us.length=ws.length)∧(ws.map (·.1)).Nodup∧Roots K mg O H ws ts us∧ArgVs K mg O H ds us'∧
 (mf ts ds).run []=.ok (rd,ts') S'∧∀O' v H',GoT (Un ws) O O' H H'→Dom O' H'→S'=[]→ts'.length=ws.length→Roots K mg O' H' ws ts' us→RepR K mg O' H' rd v→NewR H rd v→Q v H'
structure FunD(K:FrgT)(x qual:Str)(st:Stmt)(f:Addr)(fd:FuncData):Prop where
 ex:∃(oc:Value)(od:Option Addr)(dV kV doc pm:Value)(an:Option Addr)(cdv ct:Value)(osl:Array (Option Value)),
  fd=W.fnOf x qual (defArgs st) (defBody st) (defScope st) dV kV doc pm an cdv ct∧K.lookup f=some ⟨oc,od,.func fd,osl⟩∧W.codeIn K cdv qual=true
 kp:W.keepIn K (.ref f)=true
theorem fun_d{K:FrgT}{x qual:Str}{st:Stmt}{f:Addr}{fd:FuncData}(F:Fun K x qual st f fd):FunD K x qual st f fd:=by
 obtain⟨oc,od,kV,doc,pm,an,cdv,ct,osl,e,lk,hcd⟩:=F.ex
 exact⟨⟨oc,od,_,kV,doc,pm,an,cdv,ct,osl,e,lk,hcd⟩,F.kp⟩
theorem FunD.ok{P:Program}{w:World}{K:FrgT}{mg:BinT}{base:Heap}{x qual:Str}{st:Stmt}{f:Addr}{fd:FuncData}{N ps:List Str}{k:Nat}{sp:Sp}(F:FunD K x qual st f fd)(S:FnScope N ps (defScope st))(len:∀vs H Q E,sp vs H Q E→vs.length=ps.length)
  (hbody:∀(cdv:Value)(A:Around)(outer:List Env)(s:Shared)(H:Hp)(vs:List V)(Q:VK)(E:XK),Room k (A.deeper (PyProof.Rows.envOfC qual (defScope st) s.heap.objs.size f cdv))→sp vs H Q E→
   ∃t,PSs (cxOf CX0 P w K mg base N qual (defScope st) f cdv A outer s H E).nox (defBody st) t∧t { nx:=fun _ H'=>Q .non H',rt:=Q } (start N vs) H):FnOk P w K mg base CX0 (k+1) f fd ps sp:=by
 obtain⟨oc,od,dV,kV,doc,pm,an,cdv,ct,osl,rfl,lk,hcd⟩:=F.ex
 refine fn_of lk hcd S len fun A outer s H vs Q E hr hsp=>?_
 obtain⟨t,h,q⟩:=hbody cdv A outer s H vs Q E hr hsp
 exact⟨t,h.nox,q⟩
theorem tq_ok{P:Program}{w:World}{K:FrgT}{mg:BinT}{base:Heap}{x qual:Str}{st:Stmt}{ps N:List Str}{k:Nat}{mb:MSr}{f:Addr}{fd:FuncData}{nt n nl:Nat}(F:FunD K x qual st f fd)(Sc:FnScope N ps (defScope st))(hn:ps.length=n)(hl:N.length=nl)
  (hb:∀(cdv:Value)(A:Around)(outer:List Env)(s:Shared)(H:Hp)(E:XK),Room k (A.deeper (PyProof.Rows.envOfC qual (defScope st) s.heap.objs.size f cdv))→
   RQs (cxOf CX0 P w K mg base N qual (defScope st) f cdv A outer s H E).nox (defBody st) mb):FnOk P w K mg base CX0 (k+1) f fd ps (spTQ K mg (fnTQ nt n nl mb)):=by
 subst hn hl
 have flen:∀{ts:List Tr}{ds:List D}{ts':R×List Tr}{S S':Store},(fnTQ nt ps.length N.length mb ts ds).run S=.ok ts' S'→ts.length=nt∧nt+ds.length=ps.length:=fun{ts ds ts' S S'} h=>by
  unfold fnTQ at h
  by_cases c:ts.length=nt∧nt+ds.length=ps.length
  ·exact c
  ·rw[if_neg c]at h;cases h
 refine F.ok Sc ?_ ?_
 ·rintro vs H Q E ⟨O,ws,ts,ds,us,us',rd,ts',S',rfl,dm,hl,nd,rt,ra,h,q⟩
  have:=flen h
  rw[List.length_append,ra.len];omega
 rintro cdv A outer s H vs Q E hr ⟨O,ws,ts,ds,us,us',rd,ts',S',rfl,dm,⟨hl1,hl2⟩,nd,rt,ra,h,q⟩
 refine⟨_,(hb cdv A outer s H E hr).un,?_⟩
 obtain⟨c1,c2⟩:=flen h
 have hlu:=ra.len
 unfold fnTQ at h
 rw[if_pos ⟨c1,c2⟩]at h
 obtain⟨fl,S1,h1,h⟩:=M.inv h
 have st0:S3 K mg (inO ws O) (ts.map (.tr .par)++ds.map slotOf++List.replicate (N.length-ps.length) .emp) [] (L2.start N (us++us')) H:=by
  refine⟨⟨fun b hb=>dm.has b fun z=>hb (inO_free.mpr z),dm.tabs⟩,?_,fun j s e=>?_,rfl⟩
  ·unfold L2.start
   simp only[List.length_append,List.length_map,List.length_replicate]
   omega
  ·unfold L2.start
   rw[List.append_assoc]at e
   by_cases hj:j<ts.length
   ·rw[List.getElem?_append_left (by rw[List.length_map];exact hj),List.getElem?_map]at e
    have hw:ws[j]? = some ws[j]:=List.getElem?_eq_getElem _
    obtain⟨t,u,et,eu,tr⟩:=rt j _ hw
    rw[et]at e
    cases e
    have ev:((us++us').map some++List.replicate (N.length-(us++us').length) none)[j]? = some (some u):=by
     rw[List.getElem?_append_left (by simp only[List.length_map,List.length_append];omega),List.getElem?_map,List.getElem?_append_left (by omega),eu]
     rfl
    refine⟨u,by rw[ev];rfl,TreeR.allP (fun _ _ z=>Rep.fre inO_fre z) t (fun b u r ob hb _=>⟨?_,hb⟩) tr⟩
    show inO ws O b=.tr j ([]++r)
    unfold inO
    have ob:O b=.tr ws[j].1 (ws[j].2++r):=ob
    rw[ob]
    have:=look_at (k:=0) (r:=r) nd hw
    rw[Nat.zero_add]at this
    exact this
   ·rw[List.getElem?_append_right (by rw[List.length_map];omega),List.length_map]at e
    by_cases hj2:j-ts.length<ds.length
    ·rw[List.getElem?_append_left (by rw[List.length_map];exact hj2),List.getElem?_map]at e
     cases ed:ds[j-ts.length]? with
     |none=>rw[ed]at e;cases e
     |some d=>
      rw[ed]at e
      cases e
      obtain⟨v,ev,rv⟩:=ra.get ed
      have ev':((us++us').map some++List.replicate (N.length-(us++us').length) none)[j]? = some (some v):=by
       rw[List.getElem?_append_left (by simp only[List.length_map,List.length_append];omega),List.getElem?_map,List.getElem?_append_right (by omega),show us.length=ts.length by omega,ev]
       rfl
      rw[show(((us++us').map some++List.replicate (N.length-(us++us').length) none)[j]?).join=some v by rw[ev'];rfl]
      exact rv.slot inO_ro
    ·rw[List.getElem?_append_right (by rw[List.length_map];omega),List.getElem?_replicate]at e
     split at e
     ·cases e;exact trivial
     ·cases e
 have fin:∀{σ':En},(trEnd nt σ').run S1=.ok ts' S'→keepB rd=true→∀O' σV' H' v,Gs (inO ws O) O' H H'→S3 K mg O' σ' S1 σV' H'→Kp (ts.map (.tr .par)++ds.map slotOf++List.replicate (N.length-ps.length) .emp) σ' (L2.start N (us++us')) σV'→RepR K mg O' H' rd v→NewR H rd v→Q v H':=fun{σ'} h kb O' σV' H' v g st' kp rv nv=>by
  obtain⟨ts2,S2,h2,h⟩:=M.inv h
  obtain⟨_,S3',h3,h⟩:=M.inv h
  obtain⟨hnt,rfl⟩:=chk_inv h3
  cases h
  obtain⟨tl,tk⟩:=trs_len h2
  have eS:S1=S':=by
   have:∀{ss:List Slot}{ts:List Tr}{S S':Store},(trsOf ss).run S=.ok ts S'→S=S':=by
    intro ss
    induction ss with
    |nil=>intro ts S S' h;cases h;rfl
    |cons s r ih=>
     intro ts S S' h
     cases s with
     |tr m t=>
      cases m with
      |par=>obtain⟨ts',S1,h1,h⟩:=M.inv h;cases h;exact ih h1
      |own=>cases h
      |view=>cases h
     |_=>cases h
   exact this h2
  subst eS
  have o2o:∀{b:Addr},H b≠none→¬WOw (Un ws) (O b)→bkO ws H O O' b=O b:=fun a b=>if_pos ⟨a,b⟩
  have o2n:∀{b:Addr},¬(H b≠none∧¬WOw (Un ws) (O b))→bkO ws H O O' b=outO ws H O O' b:=fun a=>if_neg a
  have old:∀{b:Addr},H b≠none→¬WOw (Un ws) (O b)→O' b=inO ws O b:=fun{b} hb hw=>g.own b hb (inO_un hw)
  have fre:Fre O' (bkO ws H O O'):=⟨fun b hb=>by
   by_cases c:H b≠none∧¬WOw (Un ws) (O b)
   ·rw[o2o c.1 c.2];exact inO_free.mp ((old c.1 c.2).symm.trans hb)
   ·rw[o2n c];unfold outO;rw[hb]⟩
  have tmpO:∀b,H b=none→O' b=.tmp→bkO ws H O O' b=.tmp:=fun b hb hO=>by
   rw[o2n fun c=>c.1 hb];unfold outO;rw[hO]
  refine q (bkO ws H O O') v H' ⟨fun b o e h n=>?_,fun b hb hw=>o2o hb hw,g.has,g.tb,g.gd⟩ ⟨fun b hb=>?_,st'.dom.tabs⟩ st'.emp ?_ (fun k r hw=>?_) (rv.bk fre kb nv tmpO) nv
  ·rcases h with h | h
   ·exact g.cells b o e ((inO_un h).elim .inl fun z=>.inr (.inl z)) n
   ·exact g.cells b o e (.inr (.inr h)) n
  ·by_cases c:H b≠none∧¬WOw (Un ws) (O b)
   ·exact g.has b c.1
   ·rw[o2n c]at hb
    refine st'.dom.has b fun z=>hb ?_
    unfold outO
    rw[z]
  ·omega
  ·have hk:k<ws.length:=(List.getElem?_eq_some_iff.mp hw).1
   have hkt:k<ts'.length:=by omega
   obtain⟨t0,u,et0,eu,_⟩:=rt k r hw
   have et:ts'[k]? = some ts'[k]:=List.getElem?_eq_getElem _
   have es:=tk k _ et
   have es':σ'[k]? = some (.tr .par ts'[k]):=by
    rw[List.getElem?_take_of_lt (by omega)]at es
    exact es
   obtain⟨_,ev⟩:=kp.2.2 k .par _ es' (by intro z;cases z)
   have ev0:(L2.start N (us++us'))[k]? = some (some u):=by
    unfold L2.start
    rw[List.getElem?_append_left (by simp only[List.length_map,List.length_append];omega),List.getElem?_map,List.getElem?_append_left (by omega),eu]
    rfl
   obtain⟨v,e1,tr⟩:=st'.loc k _ es'
   rw[ev,ev0]at e1
   cases e1
   refine⟨_,u,et,eu,TreeR.allP (fun _ _ z=>Rep.fre fre z) _ (fun b o q ob hb _=>⟨?_,hb⟩) tr⟩
   have ob:O' b=.tr k q:=ob
   have c:¬(H b≠none∧¬WOw (Un ws) (O b)):=fun c=>by
    have:=old c.1 c.2
    rw[ob]at this
    rcases inO_un c.2 with z | z<;>rw[z]at this<;>cases this
   rw[o2n c]
   unfold outO
   rw[ob]
   dsimp only
   rw[hw]
   rfl
 refine⟨inO ws O,_,[],fl,S1,st0,h1,?_⟩
 cases fl with
 |nx σ'=>
  obtain⟨ts2,S2,h2,h⟩:=M.inv h
  cases h
  exact fun O' σV' H' g st' kp=>fin h2 rfl O' σV' H' .non g st' kp rfl trivial
 |rt d σ'=>
  obtain⟨_,S3',h3,h⟩:=M.inv h
  obtain⟨kb,rfl⟩:=chk_inv h3
  obtain⟨ts2,S2,h2,h⟩:=M.inv h
  cases h
  exact fin h2 kb
section
variable{P:Program}{w:World}{K:FrgT}{mg:BinT}{base:Heap}{x c m qual:Str}{st:Stmt}{ps N:List Str}{k:Nat}{mb:MSr}{nt n nl:Nat}
theorem has_tq(Df:Df K mg x st ps)(Sc:FnScope N ps (defScope st))(hn:ps.length=n)(hl:N.length=nl)
  (hb:∀(f:Addr)(cdv:Value)(A:Around)(outer:List Env)(s:Shared)(H:Hp)(E:XK),Room k (A.deeper (PyProof.Rows.envOfC x (defScope st) s.heap.objs.size f cdv))→
   RQs (cxOf CX0 P w K mg base N x (defScope st) f cdv A outer s H E).nox (defBody st) mb):Has P w K mg base x ps (k+1) (spTQ K mg (fnTQ nt n nl mb)):=by
 obtain⟨f,fd,F,b,m⟩:=Df.ex
 exact⟨f,fd,tq_ok (fun_d F) Sc hn hl (fun cdv=>hb f cdv),b,F.kp,m⟩
theorem hasM_tq(Df:DfM K mg c m qual st ps)(Sc:FnScope N ps (defScope st))(hn:ps.length=n)(hl:N.length=nl)
  (hb:∀(f:Addr)(cdv:Value)(A:Around)(outer:List Env)(s:Shared)(H:Hp)(E:XK),Room k (A.deeper (PyProof.Rows.envOfC qual (defScope st) s.heap.objs.size f cdv))→
   RQs (cxOf CX0 P w K mg base N qual (defScope st) f cdv A outer s H E).nox (defBody st) mb):HasM P w K mg base c m ps (k+1) (spTQ K mg (fnTQ nt n nl mb)):=by
 obtain⟨C,f,fd,mc,cl,me,F,b⟩:=Df.ex
 exact⟨C,f,fd,mc,cl,me,tq_ok (fun_d F) Sc hn hl (fun cdv=>hb f cdv),b⟩
end
noncomputable def datV:R→M D
 |.v d=>pure d
 |.fr xs=>pure (.lst xs)
 |.vw xs=>pure (.lst xs)
 |_=>bad
noncomputable def datVs:List R→M (List D)
 |[]=>pure []
 |r::rs=>do
  let d ←datV r
  let ds ←datVs rs
  pure (d::ds)
section
variable{K:FrgT}{mg:BinT}{O:Ow}{H H₀:Hp}
theorem frz_ro:RoO O (frz H₀ O):=⟨frz_fre _ _,fun b h=>by unfold frz;rw[h];cases H₀ b<;>rfl⟩
theorem datV_rep{r:R}{v:V}{d:D}{S S':Store}(hr:RepR K mg O H r v)(hn:NewR H₀ r v)(h:(datV r).run S=.ok d S'):ArgV K mg (frz H₀ O) H d v∧S=S':=by
 cases r with
 |v d'=>obtain⟨a,b⟩:=dat_rep (H₀:=H₀) (d:=d) hr hn (show(R.dat (.v d')).run S=_ from h);exact⟨ArgV.of a,b⟩
 |fr xs=>obtain⟨a,b⟩:=dat_rep (H₀:=H₀) (d:=d) hr hn (show(R.dat (.fr xs)).run S=_ from h);exact⟨ArgV.of a,b⟩
 |vw xs=>
  cases h
  obtain⟨a,ys,rfl,l,ra⟩:=hr
  refine⟨⟨a,ys,rfl,?_,ra.fre (frz_fre _ _)⟩,rfl⟩
  rcases l with⟨l,f⟩ | l
  ·exact .inl ⟨l,f.elim (fun z=>.inl (frz_ro.fre.fr a z)) fun z=>.inr (frz_ro.out a z)⟩
  ·exact .inr l
 |mv xs=>cases h
 |dv kvs=>cases h
theorem datVs_rep:∀{rs:List R}{vs:List V}{ds:List D}{S S':Store},RepRs K mg O H rs vs→NewRs H₀ rs vs→(datVs rs).run S=.ok ds S'→ArgVs K mg (frz H₀ O) H ds vs∧S=S'
 | [],vs,ds,S,S',hr,_,h=>by cases h;exact⟨hr,rfl⟩
 |r::rs,vs,ds,S,S',hr,hn,h=>by
  obtain⟨d,S1,h1,h⟩:=M.inv h
  obtain⟨ds',S2,h2,h⟩:=M.inv h
  cases h
  obtain⟨v,vr,rfl,r1,r2⟩:=hr
  obtain⟨q1,rfl⟩:=datV_rep (H₀:=H₀) r1 hn.1 h1
  obtain⟨q2,rfl⟩:=datVs_rep r2 hn.2 h2
  exact⟨⟨v,vr,rfl,q1,q2⟩,rfl⟩
end
noncomputable def gput(f:Tr→En):R×List Tr→M (R×En)
 |(r,[t])=>pure (r,f t)
 |_=>bad
noncomputable def gTQ(mp:MP)(c:Str)(A:List Str)(mf:MTQ)(ms:MA):MG:=fun σ=>do
 let x ←mp σ
 let rs ←ms σ
 let ds ←datVs rs
 match x.t,σ[x.i]? with
 |.ob c' ns ts,some (.tr md t0)=>if(c'=c∧ns=A)∧md≠.view then mf [.ob c ns ts] ds >>= gput (fun s'=>σ.set x.i (.tr md (Tr.put x.p t0 s')))else bad
 |_,_=>bad
noncomputable def gFQ(i:Nat)(mf:MTQ)(ms:MA):MG:=fun σ=>do
 let rs ←ms σ
 let ds ←datVs rs
 match σ[i]? with
 |some (.tr m t)=>if m≠.view then mf [t] ds >>= gput (fun s'=>σ.set i (.tr m s'))else bad
 |_=>bad
section
variable{X:Cx}{c m:Str}{ps:List Str}{k i:Nat}{o e:Expr}{es:List Expr}{apos pos pos' p p1:Pos}{mp:MP}{mr:MTQ}{ms:MA}{A:List Str}{x y:Str}
theorem tq_read(hA:m∉A):∀σV H Q,tgOf X.K X.mg (gTQ mp c A mr ms) σV H Q→tMethN X.mg c m (spTQ X.K X.mg mr) (tpOf X.K X.mg mp) (taOf X.K X.mg ms) σV H Q:=by
 rintro σV H Q ⟨O,σ,S,rr0,σ',S',st,h,q⟩
 obtain⟨x,S1,h1,h⟩:=M.inv h
 obtain⟨rs,S2,h2,h⟩:=M.inv h
 obtain⟨ds,S3',h3,h⟩:=M.inv h
 split at h
 ·rename_i c' ns ts md t0 et e0
  by_cases cc:(c'=c∧ns=A)∧md≠.view
  ·rw[if_pos cc]at h
   obtain⟨ts',S4,h4,h⟩:=M.inv h
   unfold gput at h
   split at h
   ·rename_i rq s'
    cases h
    obtain⟨⟨rfl,rfl⟩,cm⟩:=cc
    refine⟨O,σ,S,x,S1,st,h1,fun O1 v H1 g1 st1 pr=>?_⟩
    have em:md=x.m:=by obtain⟨t1,_,e1,_⟩:=pr;rw[e0]at e1;cases e1;rfl
    subst em
    have tr:=pr.tree st1
    rw[et,ow_of cm]at tr
    obtain⟨a,C,dx,ys,ev,o,l,hq,ra⟩:=id tr
    subst ev
    refine⟨a,C,dx,_,rfl,hq.2.2.1,l,zip_look_none hA,O1,σ,S1,rs,S2,st1,h2,fun O2 vs H2 g2 st2 rr nn=>?_⟩
    obtain⟨rd,rfl⟩:=datVs_rep (H₀:=H1) rr nn h3
    have st2':=st2.frz H1
    have eS:=st2'.emp
    subst eS
    have g12:Go O1 (frz H1 O2) H1 H2:=g2.frz
    have tr2:=tr.go g12
    have pr2:=pr.go g12
    refine⟨frz H1 O2,[(x.i,x.p)],[_],ds,[.ref a],vs,rr0,[s'],_,rfl,st2'.dom,⟨rfl,rfl⟩,List.nodup_cons.mpr ⟨by simp,List.nodup_nil⟩,?_,rd,h4,fun O' v' H' gT d eS hl rts rv nv=>?_⟩
    ·intro k r hk
     cases k with
     |zero=>cases hk;exact⟨_,_,rfl,rfl,tr2⟩
     |succ k=>simp at hk
    ·subst eS
     obtain⟨t1,u1,e1,e2,tr'⟩:=rts 0 (x.i,x.p) rfl
     cases e1
     cases e2
     have hlt:x.i<σ.length:=(List.getElem?_eq_some_iff.mp e0).1
     refine q O' v' H' ((g1.trans g12).gs.trans gT.gs) (st2'.goT gT d (List.length_set ..) fun j s e=>?_) (Kp.put e0 (fun xs z=>by cases z) (fun xs z=>by cases z) fun m t z hn=>by cases z;exact⟨cm,_,rfl⟩) rv (nv.gs (g1.trans g12).gs)
     by_cases hj:x.i=j
     ·subst hj
      rw[List.getElem?_set_self hlt]at e
      cases e
      refine .inr ?_
      obtain⟨t1,v0,e1,e2,e3,e4⟩:=pr2
      rw[e0]at e1
      cases e1
      obtain⟨v1,ev,r⟩:=st2'.loc _ _ e0
      rw[e3]at ev
      cases ev
      refine⟨v0,e3,?_⟩
      rw[ow_of cm]at r ⊢
      obtain⟨v',pv,rs,rb⟩:=r.split e2
      cases e4.det pv
      refine rb O' H' s' (fun _ _ z=>Rep.gs gT.gs z) (fun b o r hr ob hb n=>?_) tr'
      have nw:¬WOw (Un [(x.i,x.p)]) (frz H1 O2 b):=by
       rintro⟨i,p',e,P,hP,hp⟩
       rw[show frz H1 O2 b=.tr x.i r from ob]at e
       cases e
       rw[List.mem_singleton]at hP
       cases hP
       exact hr hp
      exact⟨(gT.own b (by rw[hb];intro z;cases z) nw).trans ob,gT.cells b o hb (.inl nw) n⟩
     ·rw[List.getElem?_set_ne hj]at e
      refine .inl ⟨e,fun r ⟨P,hP,_⟩=>?_⟩
      rw[List.mem_singleton]at hP
      cases hP
      exact hj rfl
   ·cases h
  ·rw[if_neg cc]at h;cases h
 ·cases h
theorem wg_tq{pl:Sem Bool}(h:HasM X.prog X.w X.K X.mg X.base c m ps k (spTQ X.K X.mg mr))(A:List Str)(hr:Room k X.A)(he:WP X o mp)(ha:WA X (e::es) ms)(hA:m∉A:=by decide +kernel)
  (hst:starEach (e::es) X.env=(false,eval e X.env)::starEach es X.env:=by rfl) (hpl:(backTo pos (starEach es X.env)).any (·.1)=false:=by rfl)
  (ht:eval (.Call (.Attribute o m apos) (e::es) [] pos) X.env=(do
   let ov ←eval o X.env
   standAt apos.atName
   let(f,first) ←holding [ov] (getMethod ov m pl)
   callWith pos f first (backTo pos (starEach (e::es) X.env)) (backToKw pos (keywordEach [] X.env))):=by rfl) :
  WG X (.Call (.Attribute o m apos) (e::es) [] pos) (gTQ mp c A mr ms):=⟨pe_imp (pe_methN h hr upE_tp he.un ha.un hst hpl ht) (tq_read hA)⟩
theorem wg_tq0{pl:Sem Bool}(h:HasM X.prog X.w X.K X.mg X.base c m ps k (spTQ X.K X.mg mr))(A:List Str)(hr:Room k X.A)(he:WP X o mp)(hA:m∉A:=by decide +kernel)
  (ht:eval (.Call (.Attribute o m apos) [] [] pos) X.env=(do
   let ov ←eval o X.env
   standAt apos.atName
   let(f,first) ←holding [ov] (getMethod ov m pl)
   callWith pos f first (backTo pos (starEach [] X.env)) (backToKw pos (keywordEach [] X.env))):=by rfl) :
  WG X (.Call (.Attribute o m apos) [] [] pos) (gTQ mp c A mr cNil):=⟨pe_imp (pe_methN0 h hr upE_tp he.un ht) fun σV H Q hq=>upE_tp _ _ _ _ (fun v H1 ⟨a,C,dx,fs,e1,e2,e3,e4,O,σ,S,rs,S',st,h,q⟩=>by
   cases h
   exact⟨a,C,dx,fs,e1,e2,e3,e4,q O [] H1 (Go.refl _ _) st rfl trivial⟩) (tq_read (X:=X) (m:=m) hA σV H Q hq)⟩
theorem wg_fq(h:Has X.prog X.w X.K X.mg X.base x ps k (spTQ X.K X.mg mr))(hr:Room k X.A)(hg:Gl X x)(ha:WA X es ms)(hN:X.N[i]? = some y)(hv:Vis X.env.scope y)
  (hd:(y==("__debug__":Str))=false:=by decide) (hcd:(y==("__classdict__":Str))=false:=by decide) (hdb:(x==("__debug__":Str))=false:=by decide)
  (he:starEach (.Name y p1::es) X.env=(false,eval (.Name y p1) X.env)::starEach es X.env:=by rfl) (hpl:(backTo pos (starEach es X.env)).any (·.1)=false:=by rfl) :
  WG X (.Call (.Name x p) (.Name y p1::es) [] pos) (gFQ i mr ms):=
 ⟨pe_imp (pe_fn h hr hg (pa_cons (pe_var hN hv hd hcd) ha.un he) hdb he hpl) fun σV H Q ⟨O,σ,S,r0,σ',S',st,h,q⟩=>by
  obtain⟨rs,S1,h1,h⟩:=M.inv h
  obtain⟨ds,S2,h2,h⟩:=M.inv h
  split at h
  ·rename_i m t e0
   by_cases cm:m≠.view
   ·rw[if_pos cm]at h
    obtain⟨rts,S4,h4,h⟩:=M.inv h
    unfold gput at h
    split at h
    ·rename_i rq s'
     cases h
     obtain⟨v0,e1,tr⟩:=st.loc i _ e0
     rw[ow_of cm]at tr
     refine⟨v0,var_at e1,O,σ,S,rs,S1,st,h1,fun O1 vs H1 g1 st1 rr nn=>?_⟩
     obtain⟨rdd,rfl⟩:=datVs_rep (H₀:=H) rr nn h2
     have st1':=st1.frz H
     have eS:=st1'.emp
     subst eS
     refine⟨frz H O1,[(i,[])],[t],ds,[v0],vs,r0,[s'],_,rfl,st1'.dom,⟨rfl,rfl⟩,List.nodup_cons.mpr ⟨by simp,List.nodup_nil⟩,?_,rdd,h4,fun O' v H' gT d eS hl rts rv nv=>?_⟩
     ·intro k r hk
      cases k with
      |zero=>cases hk;exact⟨_,_,rfl,rfl,tr.go g1.frz⟩
      |succ k=>simp at hk
     ·subst eS
      obtain⟨t1,u1,e1',e2,tr'⟩:=rts 0 (i,[]) rfl
      cases e1'
      cases e2
      have hlt:i<σ.length:=(List.getElem?_eq_some_iff.mp e0).1
      have st2:S3 X.K X.mg O' (σ.set i (.tr m s')) [] σV H':=st1'.goT gT d (List.length_set ..) fun j s e=>by
       by_cases hj:i=j
       ·subst hj
        rw[List.getElem?_set_self hlt]at e
        cases e
        exact .inr ⟨v0,e1,by rw[ow_of cm];exact tr'⟩
       ·rw[List.getElem?_set_ne hj]at e
        refine .inl ⟨e,fun r ⟨P,hP,_⟩=>?_⟩
        rw[List.mem_singleton]at hP
        cases hP
        exact hj rfl
      have kp:Kp σ (σ.set i (.tr m s')) σV σV:=Kp.put e0 (fun xs z=>by cases z) (fun xs z=>by cases z) fun m t z hn=>by cases z;exact⟨cm,_,rfl⟩
      exact q O' v H' (g1.frz.gs.trans gT.gs) st2 kp rv (nv.gs g1.frz.gs)
    ·cases h
   ·rw[if_neg cm]at h;cases h
  ·cases h⟩
end
noncomputable abbrev MGA:=En→M (List D×En)
noncomputable def tgaOf(K:FrgT)(mg:BinT)(m:MGA):TA:=fun σV H Q=>∃O σ S ds σ' S',S3 K mg O σ S σV H∧(m σ).run S=.ok (ds,σ') S'∧∀O' vs H',Gs O O' H H'→S3 K mg O' σ' S' σV H'→Kp σ σ' σV σV→RepAll K mg O' H' ds vs→Q vs H'
structure WGA(X:Cx)(es:List Expr)(m:MGA):Prop where
 un:PA X es (tgaOf X.K X.mg m)
noncomputable def gaNil:MGA:=fun σ=>pure ([],σ)
noncomputable def gaCons(m:MG)(ms:MGA):MGA:=fun σ=>do
 let(r,σ1) ←m σ
 let d ←r.dat
 let(ds,σ2) ←ms σ1
 pure (d::ds,σ2)
noncomputable def gCall(mf:MF)(ms:MGA):MG:=fun σ=>do
 let(ds,σ1) ←ms σ
 let r ←mf ds
 pure (r,σ1)
theorem Gs.frz{O O1:Ow}{H H1:Hp}(g:Gs O O1 H H1):Gs O (frz H O1) H H1:=⟨fun b o e h n=>g.cells b o e h n,fun b hb f=>by
 have e:=g.own b hb f
 unfold L3.frz
 cases q:H b with
 |none=>exact absurd q hb
 | some o=>exact e,g.has,g.tb,g.gd⟩
theorem arg_rep{K:FrgT}{mg:BinT}{O:Ow}{H:Hp}{d:D}{v:V}(h:Rep K mg O H d v):ArgR K mg O H d v:=by
 cases d with
 |lst xs=>obtain⟨a,ys,e,l,r⟩:=h;exact⟨a,ys,e,l.sq,r⟩
 |dic _ _=>exact h.elim
 |_=>exact h
theorem args_rep{K:FrgT}{mg:BinT}{O:Ow}{H:Hp}:∀{ds:List D}{vs:List V},RepAll K mg O H ds vs→ArgAll K mg O H ds vs
 |[],_,h=>h
 | _::_,_,h=>by obtain⟨y,r,q,a,b⟩:=h;exact⟨y,r,q,arg_rep a,args_rep b⟩
section
variable{X:Cx}{e:Expr}{es:List Expr}{m:MG}{ms:MGA}{x:Str}{ps:List Str}{k:Nat}{mf:MF}{p pos:Pos}
theorem wga_nil:WGA X [] gaNil:=⟨pa_imp pa_nil fun σV H Q ⟨O,σ,S,ds,σ',S',st,h,q⟩=>by cases h;exact q O [] H (Gs.refl _ _) st (Kp.refl _ _) rfl⟩
theorem wga_cons(h1:WG X e m)(h2:WGA X es ms)(hs:starEach (e::es) X.env=(false,eval e X.env)::starEach es X.env:=by rfl):WGA X (e::es) (gaCons m ms):=⟨pa_imp (pa_cons h1.un h2.un hs)<|by
 rintro σV H Q ⟨O,σ,S,ds,σ',S',st,h,q⟩
 obtain⟨⟨r,σ1⟩,S1,h1,h⟩:=M.inv h
 obtain⟨d,S2,h2,h⟩:=M.inv h
 obtain⟨⟨ds',σ2⟩,S3',h3,h⟩:=M.inv h
 cases h
 refine⟨O,σ,S,r,σ1,S1,st,h1,fun O1 v H1 g1 st1 k1 rr nn=>?_⟩
 obtain⟨rd,rfl⟩:=dat_rep (H₀:=H) rr nn h2
 refine⟨L3.frz H O1,σ1,S1,ds',σ',_,st1.frz H,h3,fun O2 vs H2 g2 st2 k2 ra=>?_⟩
 exact q O2 (v::vs) H2 (g1.frz.trans g2) st2 (k1.trans k2) ⟨v,vs,rfl,Rep.gs g2 rd,ra⟩⟩
theorem wg_call(h:Has X.prog X.w X.K X.mg X.base x ps k (spF X.K X.mg mf))(hr:Room k X.A)(hg:Gl X x)(ha:WGA X (e::es) ms)(hdb:(x==("__debug__":Str))=false:=by decide)
  (he:starEach (e::es) X.env=(false,eval e X.env)::starEach es X.env:=by rfl) (hpl:(backTo pos (starEach es X.env)).any (·.1)=false:=by rfl):WG X (.Call (.Name x p) (e::es) [] pos) (gCall mf ms):=
 ⟨pe_imp (pe_fn h hr hg ha.un hdb he hpl) fun σV H Q ⟨O,σ,S,r,σ',S',st,h,q⟩=>by
  obtain⟨⟨ds,σ1⟩,S1,h1,h⟩:=M.inv h
  obtain⟨r',S2,h2,h⟩:=M.inv h
  cases h
  refine⟨O,σ,S,ds,σ',S1,st,h1,fun O1 vs H1 g1 st1 k1 ra=>?_⟩
  have eS:=st1.emp
  subst eS
  exact⟨O1,ds,r,S',st1.dom,args_rep ra,h2,fun O' v H' g' d' eS rv nv=>q O' v H' (g1.trans g'.gs) (by subst eS;exact st1.go g' d') k1 rv (nv.gs g1)⟩⟩
end
noncomputable abbrev MTg:=En→M (Bool×En)
noncomputable def ttgOf(K:FrgT)(mg:BinT)(m:MTg):TT:=fun σV H Q=>∃O σ S b σ' S',S3 K mg O σ S σV H∧(m σ).run S=.ok (b,σ') S'∧∀O' H',Gs O O' H H'→S3 K mg O' σ' S' σV H'→Kp σ σ' σV σV→Q b H'
structure WTg(X:Cx)(e:Expr)(m:MTg):Prop where
 un:PT X e (ttgOf X.K X.mg m)
structure WWg(X:Cx)(e:Expr)(m:MTg):Prop where
 un:PW X e (ttgOf X.K X.mg m)
noncomputable def tgE(t:En→M Bool):MTg:=fun σ=>do
 let b ←t σ
 pure (b,σ)
noncomputable def tgV(m:MG):MTg:=fun σ=>do
 let(r,σ') ←m σ
 let b ←r.tru
 pure (b,σ')
noncomputable def tgNot(t:MTg):MTg:=fun σ=>do
 let(b,σ') ←t σ
 pure (!b,σ')
noncomputable def tgOr(a b:MTg):MTg:=fun σ=>do
 let(t,σ1) ←a σ
 if t=true then pure (true,σ1)else b σ1
section
variable{X:Cx}{a b:Expr}{rest:List Expr}{pos:Pos}{ta tb:MTg}{t:En→M Bool}{m:MG}
theorem wtg_of(h:WT X a t):WTg X a (tgE t):=⟨pt_imp h.un<|by
 rintro σV H Q ⟨O,σ,S,b,σ',S',st,h,q⟩
 obtain⟨b',S1,h1,h⟩:=M.inv h
 cases h
 exact⟨O,σ,S,b,_,st,h1,fun O' H' g st'=>q O' H' g.gs st' (Kp.refl _ _)⟩⟩
theorem wtg_val(ha:WG X a m)(he:∀whole,isTrue a X.env whole=(do let v ←whole;standAt a.pos;holding [v] (truthy v)):=by intro _;rfl):WTg X a (tgV m):=⟨pt_imp (pt_val ha.un he)<|by
 rintro σV H Q ⟨O,σ,S,b,σ',S',st,h,q⟩
 obtain⟨⟨r,σ1⟩,S1,h1,h⟩:=M.inv h
 obtain⟨b',S2,h2,h⟩:=M.inv h
 cases h
 obtain⟨rfl,rfl⟩:=tru_inv h2
 exact⟨O,σ,S,_,σ',_,st,h1,fun O' v H' g st' k rr _=>⟨b,rr,q O' H' g st' k⟩⟩⟩
theorem wtg_not(ha:WTg X a ta):WTg X (.UnaryOp .Not a pos) (tgNot ta):=⟨pt_imp (pt_not ha.un)<|by
 rintro σV H Q ⟨O,σ,S,b,σ',S',st,h,q⟩
 obtain⟨⟨t,σ1⟩,S1,h1,h⟩:=M.inv h
 cases h
 exact⟨O,σ,S,t,σ',_,st,h1,fun O1 H1 g1 st1 k1=>q O1 H1 g1 st1 k1⟩⟩
theorem wwg_or1(ha:WTg X a ta):WWg X (.BoolOp .Or [a] pos) ta:=⟨pw_or1 ha.un⟩
theorem wwg_or(ha:WTg X a ta)(hb:WWg X (.BoolOp .Or (b::rest) pos) tb):WWg X (.BoolOp .Or (a::b::rest) pos) (tgOr ta tb):=⟨pw_imp (pw_or ha.un hb.un)<|by
 rintro σV H Q ⟨O,σ,S,r,σ',S',st,h,q⟩
 obtain⟨⟨t,σ1⟩,S1,h1,h⟩:=M.inv h
 refine⟨O,σ,S,t,σ1,S1,st,h1,fun O1 H1 g1 st1 k1=>?_⟩
 dsimp only at h
 cases t with
 |true=>
  rw[if_pos rfl]at h
  cases h
  exact iteT (q O1 H1 g1 st1 k1)
 |false=>
  rw[if_neg Bool.false_ne_true]at h
  exact iteF ⟨O1,σ1,S1,r,σ',S',st1,h,fun O' H' g st' k'=>q O' H' (g1.trans g) st' (k1.trans k')⟩⟩
theorem WWg.ct(h:WWg X a ta):WTg X a ta:=⟨h.un.pt⟩
end
noncomputable def cIfG(t:MTg)(a b:MS):MS:=fun σ=>do
 let(t,σ1) ←t σ
 if t=true then a σ1 else b σ1
noncomputable def cOwnG(i:Nat)(m:MG):MS:=fun σ=>do
 let(r,σ1) ←m σ
 match r with
 |.fr xs=>pure (.nx (σ1.set i (.ow false xs)))
 |_=>bad
noncomputable def rIfG(t:MTg)(a b:MSr):MSr:=fun σ=>do
 let(t,σ1) ←t σ
 if t=true then a σ1 else b σ1
section
variable{X:Cx}{c e:Expr}{A B:List Stmt}{pos pos':Pos}{t:MTg}{a b:MS}{ar br:MSr}{m:MG}{i:Nat}{x:Str}
theorem ws_ifG(hc:WTg X c t)(ha:WSs X A a)(hb:WSs X B b):WS X (.If c A B pos) (cIfG t a b):=⟨ps_imp (ps_if hc.un ha.un hb.un)<|by
 rintro D σV H ⟨O,σ,S,fl,S',st,h,q⟩
 obtain⟨⟨t,σ1⟩,S1,h1,h⟩:=M.inv h
 refine⟨O,σ,S,t,σ1,S1,st,h1,fun O1 H1 g1 st1 k1=>?_⟩
 dsimp only at h
 cases t with
 |false=>
  rw[if_neg Bool.false_ne_true]at h
  exact iteF ⟨O1,σ1,S1,fl,S',st1,h,q.gs g1 k1⟩
 |true=>
  rw[if_pos rfl]at h
  exact iteT ⟨O1,σ1,S1,fl,S',st1,h,q.gs g1 k1⟩⟩
theorem ws_ownG(hN:X.N.Nodup)(hi:X.N[i]? = some x)(hx:Loc X.env.scope x)(he:WG X e m)(hs:swapsWith e (some (.Name x pos')) pos.line X.env=pure false:=by rfl)
  (hf:X.fn x=true∨X.env.scope.names.lookup x=some .local:=by first | exact .inl rfl | exact .inr rfl | assumption):WS X (.Assign [.Name x pos'] e pos) (cOwnG i m):=⟨ps_imp (ps_set hN hi hx he.un hs hf)<|by
 rintro D σV H ⟨O,σ,S,fl,S',st,h,q⟩
 obtain⟨⟨r,σ1⟩,S1,h1,h⟩:=M.inv h
 dsimp only at h
 split at h
 ·rename_i xs
  cases h
  refine⟨O,σ,S,_,σ1,_,st,h1,fun O1 v H1 g1 st1 k1 rr nn=>?_⟩
  obtain⟨a,ys,rfl,l,t,ra⟩:=rr
  exact q _ _ H1 (g1.trans (Gs.tmp t)) (st1.own t l ra) (k1.trans (Kp.set fun xs z=>by cases z))
 ·cases h⟩
end
noncomputable def cpSlotT:Option Slot→Slot
 |some (.tr _ t)=>.tr .view t
 |s=>cpSlot s
noncomputable def cpEnT(n:Nat)(cap:List Nat)(σ:En):En:=List.replicate n .emp++cap.map fun k=>cpSlotT σ[k]?
noncomputable def cCompT(n:Nat)(cap:List Nat)(it:MI)(t:En→M Bool)(el:ME):ME:=fun σ=>do
 let ds ←it σ
 chk (ds.length<sizeLine)
 let xs ←kLoop t el (cpEnT n cap σ) ds
 pure (.fr xs)
theorem S3.blkT{K:FrgT}{mg:BinT}{O:Ow}{σ:En}{S:Store}{σV:St}{H:Hp}(st:S3 K mg O σ S σV H)(n:Nat)(cap:List Nat):S3 K mg (L3.blk O) (cpEnT n cap σ) S (cpSt n cap σV) H:=by
 have sb:=st.blk n cap
 refine⟨sb.dom,?_,fun i s e=>?_,st.emp⟩
 ·rw[←sb.len]
  unfold cpEn cpEnT
  simp
 ·by_cases hi:i<n
  ·refine sb.loc i s ?_
   unfold cpEn
   unfold cpEnT at e
   rw[List.getElem?_append_left (by simpa using hi)]at e ⊢
   exact e
  ·unfold cpEnT at e
   rw[List.getElem?_append_right (by simpa using hi),List.length_replicate,List.getElem?_map]at e
   cases ec:cap[i-n]? with
   |none=>rw[ec]at e;cases e
   |some k=>
    rw[ec]at e
    have e':cpSlotT σ[k]? = s:=Option.some.inj e
    by_cases ht:∃m t,σ[k]? = some (.tr m t)
    ·obtain⟨m,t,es⟩:=ht
     rw[es]at e'
     subst e'
     obtain⟨v,q,r⟩:=st.loc k _ es
     unfold cpSt
     rw[List.getElem?_append_right (by simpa using hi),List.length_replicate,List.getElem?_map,ec]
     refine⟨v,q,TreeR.allP (fun _ _ z=>Rep.fre (blk_fre O) z) t (p':=[]) (fun a u r' o l _=>⟨?_,l⟩) r⟩
     show L3.blk O a=.out
     unfold L3.blk
     rw[o]
     cases m<;>rfl
    ·refine sb.loc i s ?_
     unfold cpEn
     rw[List.getElem?_append_right (by simpa using hi),List.length_replicate,List.getElem?_map,ec]
     refine congrArg some ?_
     show cpSlot σ[k]? = s
     rw[←e']
     cases es:σ[k]? with
     |none=>rfl
     |some s0=>
      cases s0 with
      |tr m t=>exact absurd ⟨m,t,es⟩ ht
      |_=>rfl
section
variable{K:FrgT}{mg:BinT}{n:Nat}{cap:List Nat}{it:MI}{t:En→M Bool}{el:ME}
inductive CompIT(K:FrgT)(mg:BinT)(n:Nat)(cap:List Nat)(t:En→M Bool)(el:ME)(O1:Ow)(σ:En)(S':Store)(σV:St)(H1:Hp)(A:Addr)(ds xs:List L3.D)(k:Nat)(zs:List V)(H':Hp):Prop
 |mk (O':Ow) (S'':Store) (acc xs':List L3.D) (st':S3 K mg O' (cpEnT n cap σ) S'' (cpSt n cap σV) H') (s':Same H1 H') (own':∀b,H1 b≠none→O' b=blk O1 b) (tD:O' A=.tmp) (hH:H' A=some (.lst zs)) (hz:zs.length≤k)
   (rz:RepAll K mg O' H' acc zs) (h:(kLoop t el (cpEnT n cap σ) (ds.drop k)).run S''=.ok xs' S') (ex:acc++xs'=xs)
theorem compT_read(hn:0<n):∀σV H Q,teOf K mg (cCompT n cap it t el) σV H Q→tComp n cap (tcOf K mg it) (gName 0) (ttOf K mg t) (teOf K mg el) σV H Q:=by
 rintro σV H Q ⟨O,σ,S,r,S',st,h,q⟩
 obtain⟨ds,S1,h1,h⟩:=M.inv h
 obtain⟨_,S2,h2,h⟩:=M.inv h
 obtain⟨hlen,rfl⟩:=chk_inv h2
 obtain⟨xs,S3',h3,h⟩:=M.inv h
 cases h
 refine⟨O,σ,S,ds,S1,st,h1,fun O1 H1 J ys g1 st1 its ra=>fun D hD=>?_⟩
 have stb:S3 K mg (updO (blk O1) D .tmp) (cpEnT n cap σ) S1 (cpSt n cap σV) (upd H1 D (.lst [])):=(st1.blkT n cap).new hD
 refine⟨fun k m zs H'=>m=ys.length-k∧k≤ys.length∧CompIT K mg n cap t el O1 σ S' σV H1 D ds xs k zs H',
  ⟨_,rfl,Nat.zero_le _,_,S1,[],xs,stb,same_new hD _,fun b hb=>updO_ne (by rintro rfl;exact hb hD),updO_same,upd_same,Nat.le_refl _,rfl,h3,rfl⟩,?_⟩
 rintro k m zs H' ⟨rfl,hk,O',S'',acc,xs',st',s',own',tD,hH,hz,rz,h,ex⟩
 cases e:ds.drop k with
 |nil=>
  have hl:ys.length≤k:=by
   have:=congrArg List.length e
   rw[List.length_drop,List.length_nil]at this
   rw[ra.len];omega
  rw[e]at h
  cases h
  rw[List.append_nil]at ex
  subst ex
  refine .inl ⟨(its H' s' k).2 hl,?_⟩
  let Of:Ow:=fun b=>match H1 b with | none=>O' b | some _=>O1 b
  have ofOld:∀b,H1 b≠none→Of b=O1 b:=fun b hb=>by
   show(match H1 b with | none=>O' b | some _=>O1 b)=O1 b
   cases e:H1 b with
   |none=>exact absurd e hb
   |some _=>rfl
  have ofNew:∀b,H1 b=none→Of b=O' b:=fun b hb=>by
   show(match H1 b with | none=>O' b | some _=>O1 b)=O' b
   rw[hb]
  have fre:Fre O' Of:=⟨fun b hb=>by
    by_cases hb1:H1 b=none
    ·rw[ofNew b hb1];exact hb
    ·rw[ofOld b hb1];exact blk_free.mp ((own' b hb1).symm.trans hb)⟩
  have go:Go O1 Of H1 H':=⟨s',ofOld⟩
  have dom:Dom Of H':=⟨fun b hb=>by
   by_cases hb1:H1 b=none
   ·rw[ofNew b hb1]at hb;exact st'.dom.has b hb
   ·exact s'.some hb1,st'.dom.tabs⟩
  have eS:S1=S':=st1.emp.trans st'.emp.symm
  subst eS
  refine q Of (.ref D) H' (g1.trans go) (st1.go go dom) ⟨D,zs,rfl,hH,(ofNew D hD).trans tD,rz.fre fre⟩ fun a ea=>?_
  cases ea
  exact g1.same.free hD
 |cons d ds'=>
  have raK:RepAll K mg O' H' ds ys:=(ra.fre (blk_fre O1)).go ⟨s',own'⟩
  obtain⟨y,ey,ry,e'⟩:=raK.get' e
  have hlt:k<ys.length:=(List.getElem?_eq_some_iff.mp ey).1
  obtain⟨go,yl⟩:=(its H' s' k).1 hlt
  rw[e]at h
  obtain⟨b,S2,h2,h⟩:=M.inv h
  refine .inr ⟨go,fun x H2 yy=>?_⟩
  obtain⟨eH,exx⟩:=yl x H2 yy
  have eH':=eH.symm
  subst eH'
  rw[ey]at exx
  cases exx
  have h0:(cpSt n cap σV)[0]? = some none:=by
   cases n with
   |zero=>exact absurd hn (Nat.lt_irrefl _)
   |succ j=>rfl
  refine⟨(Fgt.refl _).set h0,O',_,S'',b,S2,st'.val ry,h2,fun O2 H3 g2 st2=>?_⟩
  cases b with
  |false=>
   rw[if_neg Bool.false_ne_true]at h
   refine iteF ⟨ys.length-(k+1),by omega,rfl,hlt,O2,S2,acc,xs',?_,s'.trans g2.same,fun b hb=>(g2.own b (s'.some hb)).trans (own' b hb),(g2.own D (by rw[hH];intro z;cases z)).trans tD,g2.same.at' _ _ hH,by omega,rz.go g2,by rw[e'];exact h,ex⟩
   have eS:S''=S2:=st'.emp.trans st2.emp.symm
   exact eS▸st'.go g2 st2.dom
  |true=>
   rw[if_pos rfl]at h
   obtain⟨r,S4,h4,h⟩:=M.inv h
   obtain⟨x,S5,h5,h⟩:=M.inv h
   obtain⟨xs2,S6,h6,h⟩:=M.inv h
   cases h
   refine iteT ⟨O2,_,S2,r,S4,st2,h4,fun O3 v H4 g3 st3 rr nn=>?_⟩
   obtain⟨rx,rfl⟩:=dat_rep (H₀:=H3) rr nn h5
   have G:Go O' (frz H3 O3) H' H4:=g2.trans g3.frz
   have hD4:H4 D=some (.lst zs):=G.same.at' _ _ hH
   have tD4:frz H3 O3 D=.tmp:=(G.own D (by rw[hH];intro z;cases z)).trans tD
   have eS:S''=S4:=st'.emp.trans st3.emp.symm
   refine⟨hD4,by rw[ra.len]at hlt;omega,ys.length-(k+1),by omega,rfl,hlt,frz H3 O3,S4,acc++[x],xs2,?_,upd_over hD (s'.trans G.same) hD4 _,fun b hb=>(G.own b (s'.some hb)).trans (own' b hb),tD4,upd_same,
    by rw[List.length_append,List.length_singleton];omega,((rz.go G).append (.one rx)).updL (by rw[tD4];intro z;cases z) hD4,by rw[e'];exact h6,by rw[List.append_assoc];exact ex⟩
   exact eS▸(st'.go G (st3.frz H3).dom).updT tD4 hD4
end
section
variable{X:Cx}{scope esc:Scope}{EN N:List Str}{n:Nat}{cap:List Nat}{elt iter:Expr}{ifs:List Expr}{pos tpos:Pos}{x:Str}{it:MI}{t:En→M Bool}{el:ME}
theorem ce_compT(S:CpScope esc scope EN N n cap)(hn:0<n)(hi:CIc X (.Name x tpos) iter it)(hx:N[0]? = some x)(hlx:∀C fp s H,Loc (cxComp X scope N C fp s H).env.scope x∧(cxComp X scope N C fp s H).env.scope.names.lookup x=some .local)
  (ht:∀C fp s H,CFs (cxComp X scope N C fp s H) ifs t) (hel:∀C fp s H,CE (cxComp X scope N C fp s H) elt el)
  (he:X.env.scope=esc:=by rfl) (hN:X.N=EN:=by rfl) (hc:X.calm=true:=by rfl) (hs:∀x,foldedSetIterable iter X.env x=pure x:=by intro _;rfl):CE X (.ListComp elt [⟨.Name x tpos,iter,ifs,0⟩] scope pos) (cCompT n cap it t el):=
 pe_imp (pe_comp (wi:=tcOf X.K X.mg it) (g:=gName 0) (tt:=ttOf X.K X.mg t) (te:=teOf X.K X.mg el) S hi (fun C fp s H=>pg_name S.nd hx (hlx C fp s H).1 (.inr (hlx C fp s H).2)) ht hel he hN hc hs) (compT_read hn)
theorem we_compT(S:CpScope esc scope EN N n cap)(hn:0<n)(hi:WIc X (.Name x tpos) iter it)(hx:N[0]? = some x)(hlx:∀C fp s H,Loc (cxComp X scope N C fp s H).env.scope x∧(cxComp X scope N C fp s H).env.scope.names.lookup x=some .local)
  (ht:∀C fp s H,WFs (cxComp X scope N C fp s H) ifs t) (hel:∀C fp s H,WE (cxComp X scope N C fp s H) elt el)
  (he:X.env.scope=esc:=by rfl) (hN:X.N=EN:=by rfl) (hc:X.calm=true:=by rfl) (hs:∀x,foldedSetIterable iter X.env x=pure x:=by intro _;rfl):WE X (.ListComp elt [⟨.Name x tpos,iter,ifs,0⟩] scope pos) (cCompT n cap it t el):=
 ⟨ce_compT S hn hi.un hx hlx (fun C fp s H=>(ht C fp s H).un) (fun C fp s H=>(hel C fp s H).un) he hN hc hs⟩
end
noncomputable def cTAnT(i:Nat)(c:Str)(A:List Str)(f:Str)(mt:MT):MS:=fun σ=>do
 let t ←mt σ
 match σ[i]? with
 |some (.tr m (.ob c' ns ts))=>if(c'=c∧ns=A∧ts.length=A.length∧ts.length<900)∧m≠.view then pure (.nx (σ.set i (.tr m (.ob c (A++[f]) (ts++[t])))))else bad
 |_=>bad
noncomputable def cTAtT(i:Nat)(c:Str)(n:Nat)(f:Str)(mt:MT):MS:=fun σ=>do
 let t ←mt σ
 match σ[i]? with
 |some (.tr m (.ob c' ns ts))=>if(c'=c∧ns[n]? = some f∧ts.length<1000)∧m≠.view then pure (.nx (σ.set i (.tr m (.ob c ns (ts.set n t)))))else bad
 |_=>bad
section
variable{X:Cx}{value:Expr}{mt:MT}{pos pos' p1:Pos}{i:Nat}{y:Str}
theorem ws_tatT{c f:Str}{fs:List Str}(n:Nat)(T:ClsT X.K X.mg c fs)(hN:X.N[i]? = some y)(hv:Vis X.env.scope y)(hval:WV X i [n] value mt)(hd:(y==("__debug__":Str))=false:=by decide)(hcd:(y==("__classdict__":Str))=false:=by decide)(hf:f∈fs:=by decide +kernel)(hs:swapsWith value (some (.Attribute (.Name y p1) f pos')) pos.line X.env=pure false:=by rfl) :
  WS X (.Assign [.Attribute (.Name y p1) f pos'] value pos) (cTAtT i c n f mt):=⟨ps_imp (ps_fld (pe_var hN hv hd hcd) hval.un hs)<|by
 rintro D σV H ⟨O,σ,S,fl,S',st,h,q⟩
 obtain⟨t,S1,h1,h⟩:=M.inv h
 split at h
 ·rename_i m c' ns ts e0
  by_cases cc:(c'=c∧ns[n]? = some f∧ts.length<1000)∧m≠.view
  ·rw[if_pos cc]at h
   cases h
   obtain⟨⟨rfl,cn,cl⟩,cm⟩:=cc
   refine⟨O,σ,S,t,_,st,h1,fun O1 v H1 g1 st1 trv=>?_⟩
   obtain⟨v0,e1,r⟩:=st1.loc i _ e0
   rw[ow_of cm]at r
   obtain⟨a,C,dx,ys,ev,o,l,hq,ra⟩:=r
   subst ev
   refine⟨.ref a,var_at e1,?_⟩
   have pr:PthR H1 σ σV ⟨i,[],m,.ob c' ns ts⟩ (.ref a):=⟨_,_,e0,rfl,e1,rfl⟩
   have hln:=ra.len
   have hlt:n<ns.length:=(List.getElem?_eq_some_iff.mp cn).1
   have hlz:(ns.zip ys).length=ts.length:=by rw[List.length_zip];omega
   obtain⟨C',hC,clC,_,na⟩:=T.ex
   have eC:C'=C:=by
    have:=hq.2.2.1
    rw[hC]at this
    cases this
    rfl
   subst eC
   refine⟨a,C',dx,_,rfl,l,clC,na f hf,by rw[hlz];exact cl,?_⟩
   rw[zip_putF hq.2.1 cn (by omega)]
   obtain⟨s1,s2,s3⟩:=st1.putT (x:=⟨i,[],m,.ob c' ns ts⟩) (u':=.ins C' dx (ns.zip (ys.set n v))) (s':=.ob c' ns (ts.set n t)) pr cm e0 o l (by rintro(⟨_,z⟩ | ⟨_,_,z⟩)<;>cases z) (by intro ps z;cases z) (by intro q z;cases z) fun f g=>
    ⟨a,C',dx,_,rfl,o,upd_same,⟨by rw[List.length_set];exact hq.1,hq.2⟩,TreeAll.set f (fun b u i r _ ob hb _=>⟨ob,g b u _ (by intro z;cases z) ob hb⟩) ra (by omega) (by
     rw[Nat.zero_add]
     exact TreeR.allP f t (fun b u r ob hb _=>⟨ob,g b u (n::r) (by intro z;cases z) ob hb⟩) trv)⟩
   exact q O1 σV _ (g1.gs.trans s2) s1 s3
  ·rw[if_neg cc]at h;cases h
 ·cases h⟩
theorem ws_tanT{c f:Str}{fs:List Str}(A:List Str)(T:ClsT X.K X.mg c fs)(hN:X.N[i]? = some y)(hv:Vis X.env.scope y)(hval:WV X i [A.length] value mt)(hd:(y==("__debug__":Str))=false:=by decide)(hcd:(y==("__classdict__":Str))=false:=by decide)(hf:f∈fs:=by decide +kernel)(hA:f∉A:=by decide +kernel)(hs:swapsWith value (some (.Attribute (.Name y p1) f pos')) pos.line X.env=pure false:=by rfl) :
  WS X (.Assign [.Attribute (.Name y p1) f pos'] value pos) (cTAnT i c A f mt):=⟨ps_imp (ps_fld (pe_var hN hv hd hcd) hval.un hs)<|by
 rintro D σV H ⟨O,σ,S,fl,S',st,h,q⟩
 obtain⟨t,S1,h1,h⟩:=M.inv h
 split at h
 ·rename_i m c' ns ts e0
  by_cases cc:(c'=c∧ns=A∧ts.length=A.length∧ts.length<900)∧m≠.view
  ·rw[if_pos cc]at h
   cases h
   obtain⟨⟨rfl,rfl,c1,cl⟩,cm⟩:=cc
   refine⟨O,σ,S,t,_,st,h1,fun O1 v H1 g1 st1 trv=>?_⟩
   obtain⟨v0,e1,r⟩:=st1.loc i _ e0
   rw[ow_of cm]at r
   obtain⟨a,C,dx,ys,ev,o,l,hq,ra⟩:=r
   subst ev
   refine⟨.ref a,var_at e1,?_⟩
   have pr:PthR H1 σ σV ⟨i,[],m,.ob c' ns ts⟩ (.ref a):=⟨_,_,e0,rfl,e1,rfl⟩
   have hln:=ra.len
   have hlz:(ns.zip ys).length=ts.length:=by rw[List.length_zip];omega
   obtain⟨C',hC,clC,_,na⟩:=T.ex
   have eC:C'=C:=by
    have:=hq.2.2.1
    rw[hC]at this
    cases this
    rfl
   subst eC
   refine⟨a,C',dx,_,rfl,l,clC,na f hf,by rw[hlz];omega,?_⟩
   rw[zip_putN hq.1 hA]
   have nd:(ns++[f]).Nodup:=List.nodup_append.mpr ⟨hq.2.1,List.nodup_cons.mpr ⟨by simp,List.nodup_nil⟩,fun b hb d hd=>by
    rw[List.mem_singleton]at hd
    subst hd
    rintro rfl
    exact hA hb⟩
   obtain⟨s1,s2,s3⟩:=st1.putT (x:=⟨i,[],m,.ob c' ns ts⟩) (u':=.ins C' dx ((ns++[f]).zip (ys++[v]))) (s':=.ob c' (ns++[f]) (ts++[t])) pr cm e0 o l (by rintro(⟨_,z⟩ | ⟨_,_,z⟩)<;>cases z) (by intro ps z;cases z) (by intro q z;cases z) fun f g=>
    ⟨a,C',dx,_,rfl,o,upd_same,⟨by rw[List.length_append,List.length_append,hq.1];rfl,nd,hq.2.2⟩,TreeAll.snoc (TreeAll.kids f (fun b u i r ob hb _=>⟨ob,g b u (i::r) (by intro z;cases z) ob hb⟩) ra) (by
     rw[Nat.zero_add,c1]
     exact TreeR.allP f t (fun b u r ob hb _=>⟨ob,g b u (ns.length::r) (by intro z;cases z) ob hb⟩) trv)⟩
   exact q O1 σV _ (g1.gs.trans s2) s1 s3
  ·rw[if_neg cc]at h;cases h
 ·cases h⟩
end
section
variable{P:Program}{w:World}{K:FrgT}{mg:BinT}{base:Heap}{x c m qual:Str}{st:Stmt}{ps N:List Str}{k:Nat}{mb:MS}{n nl:Nat}
theorem has_tv(Df:Df K mg x st ps)(Sc:FnScope N ps (defScope st))(hn:ps.length=n)(hl:N.length=nl)
  (hb:∀(f:Addr)(cdv:Value)(A:Around)(outer:List Env)(s:Shared)(H:Hp)(E:XK),Room k (A.deeper (PyProof.Rows.envOfC x (defScope st) s.heap.objs.size f cdv))→
   CSs (cxOf CX0 P w K mg base N x (defScope st) f cdv A outer s H E).nox (defBody st) mb):Has P w K mg base x ps (k+1) (spTV K mg (fnTV n nl mb)):=by
 obtain⟨f,fd,F,b,m⟩:=Df.ex
 exact⟨f,fd,tv_ok F Sc hn hl (fun cdv=>hb f cdv),b,F.kp,m⟩
end
noncomputable def cTVf(i:Nat)(mf:MTV)(ms:MA):ME:=fun σ=>do
 let rs ←ms σ
 let ds ←dats rs
 match σ[i]? with
 |some (.tr _ t)=>mf t ds
 |_=>bad
section
variable{X:Cx}{x y c m:Str}{ps:List Str}{k i:Nat}{mf:MTV}{p p1 pos apos:Pos}{es:List Expr}{ms:MA}{o:Expr}{mp:MP}{mr:MTQ}
theorem we_tvf(h:Has X.prog X.w X.K X.mg X.base x ps k (spTV X.K X.mg mf))(hr:Room k X.A)(hg:Gl X x)(ha:WA X es ms)(hN:X.N[i]? = some y)(hv:Vis X.env.scope y)
  (hd:(y==("__debug__":Str))=false:=by decide) (hcd:(y==("__classdict__":Str))=false:=by decide) (hdb:(x==("__debug__":Str))=false:=by decide)
  (he:starEach (.Name y p1::es) X.env=(false,eval (.Name y p1) X.env)::starEach es X.env:=by rfl) (hpl:(backTo pos (starEach es X.env)).any (·.1)=false:=by rfl) :
  WE X (.Call (.Name x p) (.Name y p1::es) [] pos) (cTVf i mf ms):=
 ⟨pe_imp (pe_fn h hr hg (pa_cons (pe_var hN hv hd hcd) ha.un he) hdb he hpl) fun σV H Q ⟨O,σ,S,r,S',st,h,q⟩=>by
  obtain⟨rs,S1,h1,h⟩:=M.inv h
  obtain⟨ds,S2,h2,h⟩:=M.inv h
  split at h
  ·rename_i m t e0
   obtain⟨v0,e1,tr⟩:=st.loc i _ e0
   refine⟨v0,var_at e1,O,σ,S,rs,S1,st,h1,fun O1 vs H1 g1 st1 rr nn=>?_⟩
   obtain⟨rdd,rfl⟩:=dats_rep (H₀:=H) rr nn h2
   have st1':=st1.frz H
   have eS:=st1'.emp
   subst eS
   refine⟨frz H O1,_,[],t,v0,ds,vs,r,S',rfl,st1'.dom,?_,tr.go g1.frz,rdd,h,fun O' v H' g d eS rv nv=>?_⟩
   ·cases m with
    |view=>exact .inl rfl
    |own=>exact .inr ⟨_,rfl⟩
    |par=>exact .inr ⟨_,rfl⟩
   ·subst eS
    exact q O' v H' (g1.frz.trans g) (st1'.go g d) rv (nv.back g1.frz.same)
  ·cases h⟩
structure DfMN(K:FrgT)(mg:BinT)(c m qual:Str)(st:Stmt)(ps:List Str):Prop where
 ex:∃C f fd,mg c=some (.ref C)∧Cls K C∧Meth K C m f∧FunD K m qual st f fd∧Binds K fd ps []∧Binds K fd ps [.none]
structure HasMN(P:Program)(w:World)(K:FrgT)(mg:BinT)(base:Heap)(c m:Str)(ps:List Str)(k:Nat)(sp:Sp):Prop where
 all:HasM P w K mg base c m ps k sp
 ex:∃C f fd,mg c=some (.ref C)∧Cls K C∧Meth K C m f∧FnOk P w K mg base CX0 k f fd ps sp∧Binds K fd ps [.none]
theorem hasMN_tq{P:Program}{w:World}{K:FrgT}{mg:BinT}{base:Heap}{c m qual:Str}{st:Stmt}{ps N:List Str}{k:Nat}{mb:MSr}{nt n nl:Nat}(Df:DfMN K mg c m qual st ps)(Sc:FnScope N ps (defScope st))(hn:ps.length=n)(hl:N.length=nl)
  (hb:∀(f:Addr)(cdv:Value)(A:Around)(outer:List Env)(s:Shared)(H:Hp)(E:XK),Room k (A.deeper (PyProof.Rows.envOfC qual (defScope st) s.heap.objs.size f cdv))→
   RQs (cxOf CX0 P w K mg base N qual (defScope st) f cdv A outer s H E).nox (defBody st) mb):HasMN P w K mg base c m ps (k+1) (spTQ K mg (fnTQ nt n nl mb)):=by
 obtain⟨C,f,fd,mc,cl,me,F,b0,b⟩:=Df.ex
 exact⟨⟨C,f,fd,mc,cl,me,tq_ok F Sc hn hl (fun cdv=>hb f cdv),b0⟩,⟨C,f,fd,mc,cl,me,tq_ok F Sc hn hl (fun cdv=>hb f cdv),b⟩⟩
omit [L2.TabP]in
theorem dfmn_mk{K:FrgT}{h:Heap}{mg:BinT}{c m qual:Str}{C f T:Addr}{fs ps:List Str}{st:Stmt}{od an tod:Option Addr}{sl tsl:Array (Option Value)}{oc kV dc pm cd ct toc:Value}{j tn:Nat}(X:K.In h)(G:h.Ns mainGlobals mg)(Tc:ClsT K mg c fs)(a:W.nsIn K mainGlobals c=some (some (.ref C)))
  (e:W.findIn K (.ref C) m=some (some (.ref f))) (i:W.isFn K (.ref f)=true) (l:K.lookup f=some ⟨oc,od,.func (W.fnOf m qual (defArgs st) (defBody st) (defScope st) (.ref T) kV dc pm an cd ct),sl⟩) (t:K.lookup T=some ⟨toc,tod,.seq #[.none] tn,tsl⟩) (cd':W.codeIn K cd qual=true) (k:W.keepIn K (.ref f)=true) (hj:ps.length=j+1)
  (hb:∀(kV doc pm:Value)(an:Option Addr)(cdv ct:Value)(us:List Value),us.length=j+1→∃kk,bindArgs (W.fnOf m qual (defArgs st) (defBody st) (defScope st) (.ref T) kV doc pm an cdv ct) ⟨us,[]⟩=seqItems? (.ref T) >>= kk∧kk (some #[.none])=pure (ps.zip us))
  (hb1:∀(kV doc pm:Value)(an:Option Addr)(cdv ct:Value)(us:List Value),us.length=j→∃kk,bindArgs (W.fnOf m qual (defArgs st) (defBody st) (defScope st) (.ref T) kV doc pm an cdv ct) ⟨us,[]⟩=seqItems? (.ref T) >>= kk∧kk (some #[.none])=pure (ps.zip (us++[.none]))):DfMN K mg c m qual st ps:=by
 obtain⟨C',h1,h2,_⟩:=Tc.ex
 have h3:=W.mg_of X G a
 rw[h1]at h3
 cases h3
 refine⟨_,f,_,h1,h2,⟨e,i,k⟩,⟨⟨oc,od,_,kV,dc,pm,an,cd,ct,sl,rfl,l,cd'⟩,k⟩,fun s us X2 hl=>?_,fun s us X2 hl=>?_⟩
 ·rw[List.append_nil]at hl ⊢
  obtain⟨kk,e1,e2⟩:=hb kV dc pm an cd ct us (hl.trans hj)
  exact BindsTo.of_defaults rfl (X2 _ _ t) rfl e1 e2
 ·rw[List.length_append,hj]at hl
  obtain⟨kk,e1,e2⟩:=hb1 kV dc pm an cd ct us (by simpa using hl)
  exact BindsTo.of_defaults rfl (X2 _ _ t) rfl e1 e2
theorem wg_tqN{pl:Sem Bool}{A:List Str}(h:HasMN X.prog X.w X.K X.mg X.base c m ps k (spTQ X.K X.mg mr))(hr:Room k X.A)(he:WP X o mp)(hA:m∉A:=by decide +kernel)
  (ht:eval (.Call (.Attribute o m apos) [] [] pos) X.env=(do
   let ov ←eval o X.env
   standAt apos.atName
   let(f,first) ←holding [ov] (getMethod ov m pl)
   callWith pos f first (backTo pos (starEach [] X.env)) (backToKw pos (keywordEach [] X.env))):=by rfl) :
  WG X (.Call (.Attribute o m apos) [] [] pos) (gTQ mp c A mr (cCons (cK .non) cNil)):=by
 obtain⟨C,f,fd,mc,cl,me,F,b⟩:=h.ex
 refine⟨pe_imp (pe_meth0 (dvs:=[.non]) (ds:=[.none]) he.un cl me F hr b (.cons rfl .nil) pass0 ht) fun σV H Q hq=>upE_tp _ _ _ _ (fun v H1 z=>?_) (tq_read (X:=X) (m:=m) hA σV H Q hq)⟩
 obtain⟨a,C',dx,fs,ev,mc',hH,hl,O,σ,S,rs,S',st,h,q⟩:=z
 rw[mc]at mc'
 cases mc'
 cases h
 exact⟨a,dx,fs,ev,hH,hl,q O [.non] H1 (Go.refl _ _) st ⟨.non,[],rfl,rfl,rfl⟩ ⟨trivial,trivial⟩⟩
end
section
omit [L2.TabP]
@[simp] theorem e_gOf{m:ME}{σ:En}:gOf m σ=(do
 let r ←m σ
 pure (r,σ)):=rfl
@[simp] theorem e_rOf{a:MS}{σ:En}:rOf a σ=(do
 let fl ←a σ
 match fl with
 |.nx σ'=>pure (.nx σ')
 | _=>bad):=rfl
@[simp] theorem e_keepv{d:D}:keepR (.v d)=pure (.v d):=rfl
@[simp] theorem e_keepf{xs:List D}:keepR (.fr xs)=pure (.fr xs):=rfl
@[simp] theorem e_keepbv{d:D}:keepB (.v d)=true:=rfl
@[simp] theorem e_keepbf{xs:List D}:keepB (.fr xs)=true:=rfl
@[simp] theorem e_rRet{m:ME}{σ:En}:rRet m σ=(do
 let r ←m σ
 let r ←keepR r
 pure (.rt r σ)):=rfl
@[simp] theorem e_rRetG{m:MG}{σ:En}:rRetG m σ=(do
 let(r,σ') ←m σ
 let r ←keepR r
 pure (.rt r σ')):=rfl
@[simp] theorem e_rIf{t:En→M Bool}{a b:MSr}{σ:En}:rIf t a b σ=(do
 let t ←t σ
 if t=true then a σ else b σ):=rfl
@[simp] theorem e_rIfG{t:MTg}{a b:MSr}{σ:En}:rIfG t a b σ=(do
 let(t,σ1) ←t σ
 if t=true then a σ1 else b σ1):=rfl
@[simp] theorem e_rPass{σ:En}:rPass σ=pure (.nx σ):=rfl
@[simp] theorem e_rSeq{a b:MSr}{σ:En}:rSeq a b σ=(do
 let f ←a σ
 match f with
 |.nx σ'=>b σ'
 | f=>pure f):=rfl
@[simp] theorem e_datVs0:datVs []=pure []:=rfl
@[simp] theorem e_datVs{r:R}{rs:List R}:datVs (r::rs)=(do
  let d ←datV r
  let ds ←datVs rs
  pure (d::ds)):=rfl
@[simp] theorem e_datVv{d:D}:datV (.v d)=pure d:=rfl
@[simp] theorem e_datVf{xs:List D}:datV (.fr xs)=pure (.lst xs):=rfl
@[simp] theorem e_datVw{xs:List D}:datV (.vw xs)=pure (.lst xs):=rfl
@[simp] theorem e_gput{f:Tr→En}{r:R}{t:Tr}:gput f (r,[t])=pure (r,f t):=rfl
@[simp] theorem e_gTQ{mp:MP}{c:Str}{A:List Str}{mf:MTQ}{ms:MA}{σ:En}:gTQ mp c A mf ms σ=(do
 let x ←mp σ
 let rs ←ms σ
 let ds ←datVs rs
 match x.t,σ[x.i]? with
 |.ob c' ns ts,some (.tr md t0)=>if(c'=c∧ns=A)∧md≠.view then mf [.ob c ns ts] ds >>= gput (fun s'=>σ.set x.i (.tr md (Tr.put x.p t0 s')))else bad
 | _,_=>bad):=rfl
@[simp] theorem e_gFQ{i:Nat}{mf:MTQ}{ms:MA}{σ:En}:gFQ i mf ms σ=(do
 let rs ←ms σ
 let ds ←datVs rs
 match σ[i]? with
 |some (.tr m t)=>if m≠.view then mf [t] ds >>= gput (fun s'=>σ.set i (.tr m s'))else bad
 | _=>bad):=rfl
@[simp] theorem e_gaNil{σ:En}:gaNil σ=pure ([],σ):=rfl
@[simp] theorem e_gaCons{m:MG}{ms:MGA}{σ:En}:gaCons m ms σ=(do
 let(r,σ1) ←m σ
 let d ←r.dat
 let(ds,σ2) ←ms σ1
 pure (d::ds,σ2)):=rfl
@[simp] theorem e_gCall{mf:MF}{ms:MGA}{σ:En}:gCall mf ms σ=(do
 let(ds,σ1) ←ms σ
 let r ←mf ds
 pure (r,σ1)):=rfl
@[simp] theorem e_tgE{t:En→M Bool}{σ:En}:tgE t σ=(do
 let b ←t σ
 pure (b,σ)):=rfl
@[simp] theorem e_tgV{m:MG}{σ:En}:tgV m σ=(do
 let(r,σ') ←m σ
 let b ←r.tru
 pure (b,σ')):=rfl
@[simp] theorem e_tgNot{t:MTg}{σ:En}:tgNot t σ=(do
 let(b,σ') ←t σ
 pure (!b,σ')):=rfl
@[simp] theorem e_tgOr{a b:MTg}{σ:En}:tgOr a b σ=(do
 let(t,σ1) ←a σ
 if t=true then pure (true,σ1)else b σ1):=rfl
@[simp] theorem e_cIfG{t:MTg}{a b:MS}{σ:En}:cIfG t a b σ=(do
 let(t,σ1) ←t σ
 if t=true then a σ1 else b σ1):=rfl
@[simp] theorem e_cOwnG{i:Nat}{m:MG}{σ:En}:cOwnG i m σ=(do
 let(r,σ1) ←m σ
 match r with
 |.fr xs=>pure (.nx (σ1.set i (.ow false xs)))
 | _=>bad):=rfl
@[simp] theorem e_cTVf{i:Nat}{mf:MTV}{ms:MA}{σ:En}:cTVf i mf ms σ=(do
 let rs ←ms σ
 let ds ←dats rs
 match σ[i]? with
 |some (.tr _ t)=>mf t ds
 | _=>bad):=rfl
@[simp] theorem e_cTAnT{i:Nat}{c:Str}{A:List Str}{f:Str}{mt:MT}{σ:En}:cTAnT i c A f mt σ=(do
 let t ←mt σ
 match σ[i]? with
 |some (.tr m (.ob c' ns ts))=>if(c'=c∧ns=A∧ts.length=A.length∧ts.length<900)∧m≠.view then pure (.nx (σ.set i (.tr m (.ob c (A++[f]) (ts++[t])))))else bad
 | _=>bad):=rfl
@[simp] theorem e_cTAtT{i:Nat}{c:Str}{n:Nat}{f:Str}{mt:MT}{σ:En}:cTAtT i c n f mt σ=(do
 let t ←mt σ
 match σ[i]? with
 |some (.tr m (.ob c' ns ts))=>if(c'=c∧ns[n]? = some f∧ts.length<1000)∧m≠.view then pure (.nx (σ.set i (.tr m (.ob c ns (ts.set n t)))))else bad
 | _=>bad):=rfl
@[simp] theorem e_compT{n:Nat}{cap:List Nat}{it:MI}{t:En→M Bool}{el:ME}{σ:En}:cCompT n cap it t el σ=(do
 let ds ←it σ
 chk (ds.length<sizeLine)
 let xs ←kLoop t el (cpEnT n cap σ) ds
 pure (.fr xs)):=rfl
@[simp] theorem e_cpEnT{n:Nat}{cap:List Nat}{σ:En}:cpEnT n cap σ=List.replicate n .emp++cap.map fun k=>cpSlotT σ[k]?:=rfl
@[simp] theorem e_cpTt{m:TM}{t:Tr}:cpSlotT (some (.tr m t))=.tr .view t:=rfl
@[simp] theorem e_cpTv{d:D}:cpSlotT (some (.val d))=.val d:=rfl
@[simp] theorem e_cpTw{xs:List D}:cpSlotT (some (.vw xs))=.vw xs:=rfl
end
end L3
namespace K32
open PySem PySem.Spec L2 L3
noncomputable def top(i:Nat):Stmt:=PySem.Challenge.pw_oneslate_k32_an_asker_asks.main.body.getD i (.Pass ⟨0,0,0,0⟩)
noncomputable abbrev s_is_whole:Stmt:=top 1
theorem sc_is_whole:FnScope ["thing"] ["thing"] (defScope s_is_whole):=⟨rfl,rfl,rfl,by decide +kernel,rfl,by decide +kernel,by decide +kernel⟩
noncomputable abbrev s_has_keeper:Stmt:=top 2
theorem sc_has_keeper:FnScope ["mask","keeper"] ["mask","keeper"] (defScope s_has_keeper):=⟨rfl,rfl,rfl,by decide +kernel,rfl,by decide +kernel,by decide +kernel⟩
noncomputable abbrev s_mask_of:Stmt:=top 3
theorem sc_mask_of:FnScope ["keepers","mask","keeper"] ["keepers"] (defScope s_mask_of):=⟨rfl,rfl,rfl,by decide +kernel,rfl,by decide +kernel,by decide +kernel⟩
noncomputable abbrev s_keepers_of:Stmt:=top 4
theorem sc_keepers_of:FnScope ["mask"] ["mask"] (defScope s_keepers_of):=⟨rfl,rfl,rfl,by decide +kernel,rfl,by decide +kernel,by decide +kernel⟩
noncomputable abbrev s_masks_within:Stmt:=top 5
theorem sc_masks_within:FnScope ["mask","masks","keeper"] ["mask"] (defScope s_masks_within):=⟨rfl,rfl,rfl,by decide +kernel,rfl,by decide +kernel,by decide +kernel⟩
noncomputable abbrev s_is_keeper:Stmt:=top 20
theorem sc_is_keeper:FnScope ["thing"] ["thing"] (defScope s_is_keeper):=⟨rfl,rfl,rfl,by decide +kernel,rfl,by decide +kernel,by decide +kernel⟩
noncomputable abbrev s_is_pair:Stmt:=top 21
theorem sc_is_pair:FnScope ["thing"] ["thing"] (defScope s_is_pair):=⟨rfl,rfl,rfl,by decide +kernel,rfl,by decide +kernel,by decide +kernel⟩
noncomputable abbrev s_is_choice:Stmt:=top 22
theorem sc_is_choice:FnScope ["thing","many"] ["thing"] (defScope s_is_choice):=⟨rfl,rfl,rfl,by decide +kernel,rfl,by decide +kernel,by decide +kernel⟩
noncomputable abbrev s_is_built:Stmt:=top 23
theorem sc_is_built:FnScope ["thing","deep"] ["thing","deep"] (defScope s_is_built):=⟨rfl,rfl,rfl,by decide +kernel,rfl,by decide +kernel,by decide +kernel⟩
noncomputable abbrev s_namings:Stmt:=top 24
theorem sc_namings:FnScope ["rule","keepers","part"] ["rule"] (defScope s_namings):=⟨rfl,rfl,rfl,by decide +kernel,rfl,by decide +kernel,by decide +kernel⟩
noncomputable abbrev s_is_rule:Stmt:=top 25
theorem sc_is_rule:FnScope ["thing"] ["thing"] (defScope s_is_rule):=⟨rfl,rfl,rfl,by decide +kernel,rfl,by decide +kernel,by decide +kernel⟩
noncomputable abbrev s_named:Stmt:=top 26
theorem sc_named:FnScope ["rule"] ["rule"] (defScope s_named):=⟨rfl,rfl,rfl,by decide +kernel,rfl,by decide +kernel,by decide +kernel⟩
noncomputable abbrev s_fills:Stmt:=top 27
theorem sc_fills:FnScope ["rule","mask"] ["rule","mask"] (defScope s_fills):=⟨rfl,rfl,rfl,by decide +kernel,rfl,by decide +kernel,by decide +kernel⟩
noncomputable abbrev s_is_least:Stmt:=top 28
theorem sc_is_least:FnScope ["mask","filling"] ["mask","filling"] (defScope s_is_least):=⟨rfl,rfl,rfl,by decide +kernel,rfl,by decide +kernel,by decide +kernel⟩
noncomputable abbrev s_least_masks:Stmt:=top 29
theorem sc_least_masks:FnScope ["rule","filling"] ["rule"] (defScope s_least_masks):=⟨rfl,rfl,rfl,by decide +kernel,rfl,by decide +kernel,by decide +kernel⟩
noncomputable abbrev s_first_apart:Stmt:=top 31
theorem sc_first_apart:FnScope ["mask","others","other"] ["mask","others"] (defScope s_first_apart):=⟨rfl,rfl,rfl,by decide +kernel,rfl,by decide +kernel,by decide +kernel⟩
noncomputable abbrev s_parting:Stmt:=top 32
theorem sc_parting:FnScope ["asking","keeping","others","mask","other"] ["asking","keeping"] (defScope s_parting):=⟨rfl,rfl,rfl,by decide +kernel,rfl,by decide +kernel,by decide +kernel⟩
noncomputable abbrev s_is_hall:Stmt:=top 33
theorem sc_is_hall:FnScope ["thing"] ["thing"] (defScope s_is_hall):=⟨rfl,rfl,rfl,by decide +kernel,rfl,by decide +kernel,by decide +kernel⟩
noncomputable abbrev s_members_mask:Stmt:=top 34
theorem sc_members_mask:FnScope ["hall"] ["hall"] (defScope s_members_mask):=⟨rfl,rfl,rfl,by decide +kernel,rfl,by decide +kernel,by decide +kernel⟩
noncomputable abbrev s_members_of:Stmt:=top 35
theorem sc_members_of:FnScope ["hall"] ["hall"] (defScope s_members_of):=⟨rfl,rfl,rfl,by decide +kernel,rfl,by decide +kernel,by decide +kernel⟩
noncomputable abbrev s_is_name:Stmt:=top 40
theorem sc_is_name:FnScope ["thing"] ["thing"] (defScope s_is_name):=⟨rfl,rfl,rfl,by decide +kernel,rfl,by decide +kernel,by decide +kernel⟩
noncomputable abbrev s_is_number:Stmt:=top 41
theorem sc_is_number:FnScope ["thing"] ["thing"] (defScope s_is_number):=⟨rfl,rfl,rfl,by decide +kernel,rfl,by decide +kernel,by decide +kernel⟩
noncomputable abbrev s_is_fence:Stmt:=top 42
theorem sc_is_fence:FnScope ["thing"] ["thing"] (defScope s_is_fence):=⟨rfl,rfl,rfl,by decide +kernel,rfl,by decide +kernel,by decide +kernel⟩
noncomputable abbrev s_form_of:Stmt:=top 43
theorem sc_form_of:FnScope ["word"] ["word"] (defScope s_form_of):=⟨rfl,rfl,rfl,by decide +kernel,rfl,by decide +kernel,by decide +kernel⟩
noncomputable abbrev s_is_part:Stmt:=top 44
theorem sc_is_part:FnScope ["kind","thing"] ["kind","thing"] (defScope s_is_part):=⟨rfl,rfl,rfl,by decide +kernel,rfl,by decide +kernel,by decide +kernel⟩
noncomputable abbrev s_is_deed:Stmt:=top 45
theorem sc_is_deed:FnScope ["thing","form"] ["thing"] (defScope s_is_deed):=⟨rfl,rfl,rfl,by decide +kernel,rfl,by decide +kernel,by decide +kernel⟩
noncomputable abbrev s_blank:Stmt:=top 47
theorem sc_blank:FnScope [] [] (defScope s_blank):=⟨rfl,rfl,rfl,by decide +kernel,rfl,by decide +kernel,by decide +kernel⟩
noncomputable abbrev s_ask_letter:Stmt:=top 74
theorem sc_ask_letter:FnScope ["asker","keeper","epoch","stamp"] ["asker","keeper","epoch","stamp"] (defScope s_ask_letter):=⟨rfl,rfl,rfl,by decide +kernel,rfl,by decide +kernel,by decide +kernel⟩
noncomputable abbrev s_Asker___init__:Stmt:=inClass (top 77) 0
theorem sc_Asker___init__:FnScope ["self","me","hall"] ["self","me","hall"] (defScope s_Asker___init__):=⟨rfl,rfl,rfl,by decide +kernel,rfl,by decide +kernel,by decide +kernel⟩
noncomputable abbrev s_Asker_begin:Stmt:=inClass (top 77) 1
theorem sc_Asker_begin:FnScope ["self","deed"] ["self","deed"] (defScope s_Asker_begin):=⟨rfl,rfl,rfl,by decide +kernel,rfl,by decide +kernel,by decide +kernel⟩
noncomputable abbrev s_Asker_bell:Stmt:=inClass (top 77) 2
theorem sc_Asker_bell:FnScope ["self"] ["self"] (defScope s_Asker_bell):=⟨rfl,rfl,rfl,by decide +kernel,rfl,by decide +kernel,by decide +kernel⟩
noncomputable abbrev s_Asker_hear:Stmt:=inClass (top 77) 3
theorem sc_Asker_hear:FnScope ["self","letter"] ["self","letter"] (defScope s_Asker_hear):=⟨rfl,rfl,rfl,by decide +kernel,rfl,by decide +kernel,by decide +kernel⟩
noncomputable abbrev s_Asker_outcome:Stmt:=inClass (top 77) 4
theorem sc_Asker_outcome:FnScope ["self"] ["self"] (defScope s_Asker_outcome):=⟨rfl,rfl,rfl,by decide +kernel,rfl,by decide +kernel,by decide +kernel⟩
noncomputable abbrev s_Asker_number:Stmt:=inClass (top 77) 5
theorem sc_Asker_number:FnScope ["self"] ["self"] (defScope s_Asker_number):=⟨rfl,rfl,rfl,by decide +kernel,rfl,by decide +kernel,by decide +kernel⟩
noncomputable abbrev s_Asker_stand:Stmt:=inClass (top 77) 6
theorem sc_Asker_stand:FnScope ["self"] ["self"] (defScope s_Asker_stand):=⟨rfl,rfl,rfl,by decide +kernel,rfl,by decide +kernel,by decide +kernel⟩
noncomputable abbrev s_Asker_stamp:Stmt:=inClass (top 77) 7
theorem sc_Asker_stamp:FnScope ["self"] ["self"] (defScope s_Asker_stamp):=⟨rfl,rfl,rfl,by decide +kernel,rfl,by decide +kernel,by decide +kernel⟩
noncomputable abbrev s_Asker_place:Stmt:=inClass (top 77) 8
theorem sc_Asker_place:FnScope ["self"] ["self"] (defScope s_Asker_place):=⟨rfl,rfl,rfl,by decide +kernel,rfl,by decide +kernel,by decide +kernel⟩
noncomputable abbrev s_Asker_knows_over:Stmt:=inClass (top 77) 9
theorem sc_Asker_knows_over:FnScope ["self"] ["self"] (defScope s_Asker_knows_over):=⟨rfl,rfl,rfl,by decide +kernel,rfl,by decide +kernel,by decide +kernel⟩
noncomputable abbrev s_Asker_ask_members:Stmt:=inClass (top 77) 11
theorem sc_Asker_ask_members:FnScope ["self"] ["self"] (defScope s_Asker_ask_members):=⟨rfl,rfl,rfl,by decide +kernel,rfl,by decide +kernel,by decide +kernel⟩
noncomputable abbrev s_law_cell_at:Stmt:=top 79
theorem sc_law_cell_at:FnScope ["script","k"] ["script","k"] (defScope s_law_cell_at):=⟨rfl,rfl,rfl,by decide +kernel,rfl,by decide +kernel,by decide +kernel⟩
noncomputable abbrev s_law_same:Stmt:=top 80
theorem sc_law_same:FnScope ["found","due","one","other"] ["found","due"] (defScope s_law_same):=⟨rfl,rfl,rfl,by decide +kernel,rfl,by decide +kernel,by decide +kernel⟩
noncomputable abbrev s_law_turned:Stmt:=top 81
theorem sc_law_turned:FnScope ["rule","shift"] ["rule","shift"] (defScope s_law_turned):=⟨rfl,rfl,rfl,by decide +kernel,rfl,by decide +kernel,by decide +kernel⟩
noncomputable abbrev s_law_hall:Stmt:=top 82
theorem sc_law_hall:FnScope ["cell","three","rows","columns","some","asking","keeping"] ["cell"] (defScope s_law_hall):=⟨rfl,rfl,rfl,by decide +kernel,rfl,by decide +kernel,by decide +kernel⟩
noncomputable abbrev s_law_named:Stmt:=top 83
theorem sc_law_named:FnScope ["rule","found","part"] ["rule"] (defScope s_law_named):=⟨rfl,rfl,rfl,by decide +kernel,rfl,by decide +kernel,by decide +kernel⟩
noncomputable abbrev s_law_members:Stmt:=top 84
theorem sc_law_members:FnScope ["hall","there"] ["hall"] (defScope s_law_members):=⟨rfl,rfl,rfl,by decide +kernel,rfl,by decide +kernel,by decide +kernel⟩
noncomputable abbrev s_law_name:Stmt:=top 85
theorem sc_law_name:FnScope ["cell","size","at","name","k"] ["cell"] (defScope s_law_name):=⟨rfl,rfl,rfl,by decide +kernel,rfl,by decide +kernel,by decide +kernel⟩
noncomputable abbrev s_law_deed:Stmt:=top 86
theorem sc_law_deed:FnScope ["cell","seed","number"] ["cell","seed"] (defScope s_law_deed):=⟨rfl,rfl,rfl,by decide +kernel,rfl,by decide +kernel,by decide +kernel⟩
noncomputable abbrev s_law_asks:Stmt:=top 87
theorem sc_law_asks:FnScope ["me","hall","stamp"] ["me","hall","stamp"] (defScope s_law_asks):=⟨rfl,rfl,rfl,by decide +kernel,rfl,by decide +kernel,by decide +kernel⟩
noncomputable abbrev s_law_stands:Stmt:=top 88
theorem sc_law_stands:FnScope ["one","hall","stamp","number","stand","place","found"] ["one","hall","stamp","number","stand"] (defScope s_law_stands):=⟨rfl,rfl,rfl,by decide +kernel,rfl,by decide +kernel,by decide +kernel⟩
noncomputable abbrev s_law_begun:Stmt:=top 89
theorem sc_law_begun:FnScope ["one","script","seed","cell"] ["one","script","seed"] (defScope s_law_begun):=⟨rfl,rfl,rfl,by decide +kernel,rfl,by decide +kernel,by decide +kernel⟩
noncomputable abbrev s_law_late:Stmt:=top 90
theorem sc_law_late:FnScope ["me","hall","stamp","cell","members","more","promised"] ["me","hall","stamp","cell"] (defScope s_law_late):=⟨rfl,rfl,rfl,by decide +kernel,rfl,by decide +kernel,by decide +kernel⟩
noncomputable abbrev s_law:Stmt:=top 91
theorem sc_law:FnScope ["script","hall","me","one","letters","top","taken","cell","late"] ["script"] (defScope s_law):=⟨rfl,rfl,rfl,by decide +kernel,rfl,by decide +kernel,by decide +kernel⟩
noncomputable abbrev ns_Asker:List Str:=["me","epoch","hall","opening","over_known","greatest_round","last_stamp","wishes","deed","standing","last_outcome","grants","kept_mask","told_slate"]
noncomputable abbrev ktab_FORMS:List (Str×D):=[("put",.tup [(.str "name"),(.str "number")]),("add",.tup [(.str "name"),(.str "number")]),("swap",.tup [(.str "name"),(.str "number"),(.str "number")]),("take",.tup [(.str "fence")]),("renew",.tup [(.str "fence")]),("free",.tup [(.str "fence")]),("sure",.tup [(.str "fence"),(.str "name"),(.str "number")]),("move",.tup [(.str "hall")]),("end",.tup [])]
structure Txt[L2.TabP](P:Program)(w:World)(K:FrgT)(mg:BinT):Prop where
 d_is_whole:Df K mg "is_whole" s_is_whole ["thing"]
 d_has_keeper:Df K mg "has_keeper" s_has_keeper ["mask","keeper"]
 d_mask_of:Df K mg "mask_of" s_mask_of ["keepers"]
 d_keepers_of:Df K mg "keepers_of" s_keepers_of ["mask"]
 d_masks_within:Df K mg "masks_within" s_masks_within ["mask"]
 d_is_keeper:Df K mg "is_keeper" s_is_keeper ["thing"]
 d_is_pair:Df K mg "is_pair" s_is_pair ["thing"]
 d_is_choice:Df K mg "is_choice" s_is_choice ["thing"]
 d_is_built:Df K mg "is_built" s_is_built ["thing","deep"]
 d_namings:Df K mg "namings" s_namings ["rule"]
 d_is_rule:Df K mg "is_rule" s_is_rule ["thing"]
 d_named:Df K mg "named" s_named ["rule"]
 d_fills:Df K mg "fills" s_fills ["rule","mask"]
 d_is_least:Df K mg "is_least" s_is_least ["mask","filling"]
 d_least_masks:Df K mg "least_masks" s_least_masks ["rule"]
 d_first_apart:Df K mg "first_apart" s_first_apart ["mask","others"]
 d_parting:Df K mg "parting" s_parting ["asking","keeping"]
 d_is_hall:Df K mg "is_hall" s_is_hall ["thing"]
 d_members_mask:Df K mg "members_mask" s_members_mask ["hall"]
 d_members_of:Df K mg "members_of" s_members_of ["hall"]
 d_is_name:Df K mg "is_name" s_is_name ["thing"]
 d_is_number:Df K mg "is_number" s_is_number ["thing"]
 d_is_fence:Df K mg "is_fence" s_is_fence ["thing"]
 d_form_of:Df K mg "form_of" s_form_of ["word"]
 d_is_part:Df K mg "is_part" s_is_part ["kind","thing"]
 d_is_deed:Df K mg "is_deed" s_is_deed ["thing"]
 d_blank:Df K mg "blank" s_blank []
 d_ask_letter:Df K mg "ask_letter" s_ask_letter ["asker","keeper","epoch","stamp"]
 d_Asker___init__:DfM K mg "Asker" "__init__" "Asker.__init__" s_Asker___init__ ["self","me","hall"]
 d_Asker_begin:DfMN K mg "Asker" "begin" "Asker.begin" s_Asker_begin ["self","deed"]
 d_Asker_bell:DfM K mg "Asker" "bell" "Asker.bell" s_Asker_bell ["self"]
 d_Asker_hear:DfM K mg "Asker" "hear" "Asker.hear" s_Asker_hear ["self","letter"]
 d_Asker_outcome:DfM K mg "Asker" "outcome" "Asker.outcome" s_Asker_outcome ["self"]
 d_Asker_number:DfM K mg "Asker" "number" "Asker.number" s_Asker_number ["self"]
 d_Asker_stand:DfM K mg "Asker" "stand" "Asker.stand" s_Asker_stand ["self"]
 d_Asker_stamp:DfM K mg "Asker" "stamp" "Asker.stamp" s_Asker_stamp ["self"]
 d_Asker_place:DfM K mg "Asker" "place" "Asker.place" s_Asker_place ["self"]
 d_Asker_knows_over:DfM K mg "Asker" "knows_over" "Asker.knows_over" s_Asker_knows_over ["self"]
 d_Asker_ask_members:DfM K mg "Asker" "ask_members" "Asker.ask_members" s_Asker_ask_members ["self"]
 d_law_cell_at:Df K mg "_law_cell_at" s_law_cell_at ["script","k"]
 d_law_same:Df K mg "_law_same" s_law_same ["found","due"]
 d_law_turned:Df K mg "_law_turned" s_law_turned ["rule","shift"]
 d_law_hall:Df K mg "_law_hall" s_law_hall ["cell"]
 d_law_named:Df K mg "_law_named" s_law_named ["rule"]
 d_law_members:Df K mg "_law_members" s_law_members ["hall"]
 d_law_name:Df K mg "_law_name" s_law_name ["cell"]
 d_law_deed:Df K mg "_law_deed" s_law_deed ["cell","seed"]
 d_law_asks:Df K mg "_law_asks" s_law_asks ["me","hall","stamp"]
 d_law_stands:Df K mg "_law_stands" s_law_stands ["one","hall","stamp","number","stand"]
 d_law_begun:Df K mg "_law_begun" s_law_begun ["one","script","seed"]
 d_law_late:Df K mg "_law_late" s_law_late ["me","hall","stamp","cell"]
 d_law:Df K mg "law" s_law ["script"]
 c_Asker:ClsT K mg "Asker" ns_Asker
 g_LAST_KEEPER:∃u,mg "LAST_KEEPER"=some u∧RelV (.int 5) u
 g_MOST_PARTS:∃u,mg "MOST_PARTS"=some u∧RelV (.int 6) u
 g_MOST_NAMED:∃u,mg "MOST_NAMED"=some u∧RelV (.int 12) u
 g_MOST_DEEP:∃u,mg "MOST_DEEP"=some u∧RelV (.int 4) u
 g_SMALL_LETTERS:∃u,mg "SMALL_LETTERS"=some u∧RelV (.str "abcdefghijklmnopqrstuvwxyz") u
 g_MOST_LETTERS:∃u,mg "MOST_LETTERS"=some u∧RelV (.int 8) u
 k_FORMS:KTab P w K mg "FORMS" ktab_FORMS
 B:Bl3 mg
 kt:Kit K
section
variable[L2.TabP]{P:Program}{w:World}{K:FrgT}{mg:BinT}{base:Heap}
noncomputable def b_is_whole:MS:=
  (cRet (cAnd (cB fIsi (cCons (cVar 0) (cCons (cK (.ty "int")) cNil))) (cNot (cB fIsi (cCons (cVar 0) (cCons (cK (.ty "bool")) cNil))))))
noncomputable def m_is_whole:MF:=fnOf 1 1 b_is_whole
theorem has_is_whole(T:Txt P w K mg):Has P w K mg base "is_whole" ["thing"] 1 (spF K mg m_is_whole):=by
 show Has P w K mg base _ _ _ (spF K mg (fnOf 1 1 b_is_whole))
 refine has_of (k:=0) T.d_is_whole sc_is_whole rfl rfl fun f cdv A outer s H E hr=>?_
 have hu:=hr.units
 refine @WSs.un _ _ _ _ ?_
 refine @wss_one _ _ _ _ ?_
 ·exact(ws_ret (we_and (we_callB (call_isi T.kt) kIsi rfl T.B.isinstance bt_isinstance (wa_cons (we_var 0) (wa_cons (we_k (pe_bltn (v:=.ty "int") rfl T.B.int' bt_int rfl) fun _ _=>rfl) wa_nil))) (we_one (we_not (we_callB (call_isi T.kt) kIsi rfl T.B.isinstance bt_isinstance (wa_cons (we_var 0) (wa_cons (we_k (pe_bltn (v:=.ty "bool") rfl T.B.bool' bt_bool rfl) fun _ _=>rfl) wa_nil)))))))
noncomputable def b_has_keeper:MS:=
  (cRet (c2 oEq (c2 oBand (c2 oShr (cVar 0) (cVar 1)) (cK (.int 1))) (cK (.int 1))))
noncomputable def m_has_keeper:MF:=fnOf 2 2 b_has_keeper
theorem has_has_keeper(T:Txt P w K mg):Has P w K mg base "has_keeper" ["mask","keeper"] 1 (spF K mg m_has_keeper):=by
 show Has P w K mg base _ _ _ (spF K mg (fnOf 2 2 b_has_keeper))
 refine has_of (k:=0) T.d_has_keeper sc_has_keeper rfl rfl fun f cdv A outer s H E hr=>?_
 have hu:=hr.units
 refine @WSs.un _ _ _ _ ?_
 refine @wss_one _ _ _ _ ?_
 ·exact(ws_ret (we_cmp (op_eqD hu) bEq (we_op op_and bBand (we_op op_shr bShr (we_var 0) (we_var 1)) we_int) we_int (nomark _)))
noncomputable def l_mask_of_0:MS:=
  (cSet 1 (c2 oBor (cVar 1) (c2 oShl (cK (.int 1)) (cVar 2))))
noncomputable def b_mask_of_2:MS:=
  (cRet (cVar 1))
noncomputable def b_mask_of_1:MS:=
  cSeq (cFor 2 (iL (cVar 0)) l_mask_of_0) b_mask_of_2
noncomputable def b_mask_of:MS:=
  cSeq (cSet 1 (cK (.int 0))) b_mask_of_1
noncomputable def m_mask_of:MF:=fnOf 1 3 b_mask_of
theorem has_mask_of(T:Txt P w K mg):Has P w K mg base "mask_of" ["keepers"] 1 (spF K mg m_mask_of):=by
 show Has P w K mg base _ _ _ (spF K mg (fnOf 1 3 b_mask_of))
 refine has_of (k:=0) T.d_mask_of sc_mask_of rfl rfl fun f cdv A outer s H E hr=>?_
 have hu:=hr.units
 refine @WSs.un _ _ _ _ ?_
 refine @wss_cons _ _ _ _ _ _ ?_ (@wss_cons _ _ _ _ _ _ ?_ (@wss_one _ _ _ _ ?_))
 ·exact(ws_set (i:=1) sc_mask_of.nd rfl (Or.inl rfl) we_int)
 ·exact(ws_for (i:=2) PassesOwn.never rfl (wf_list (we_var 0)) sc_mask_of.nd rfl (Or.inl rfl) (wss_one (ws_set (i:=1) sc_mask_of.nd rfl (Or.inl rfl) (we_op op_or bBor (we_var 1) (we_op op_shl bShl we_int (we_var 2))))))
 ·exact(ws_ret (we_var 1))
noncomputable def b_keepers_of:MS:=
  (cRet (cComp 1 [0] (iR1 (cCons (c1 oBits (cVar 0)) cNil)) (cT (cCall m_has_keeper (cCons (cVar 1) (cCons (cVar 0) cNil)))) (cVar 0)))
noncomputable def m_keepers_of:MF:=fnOf 1 1 b_keepers_of
theorem has_keepers_of(T:Txt P w K mg):Has P w K mg base "keepers_of" ["mask"] 2 (spF K mg m_keepers_of):=by
 show Has P w K mg base _ _ _ (spF K mg (fnOf 1 1 b_keepers_of))
 refine has_of (k:=1) T.d_keepers_of sc_keepers_of rfl rfl fun f cdv A outer s H E hr=>?_
 have hu:=hr.units
 refine @WSs.un _ _ _ _ ?_
 refine @wss_one _ _ _ _ ?_
 ·exact(ws_ret (we_comp (esc:=(defScope s_keepers_of)) (EN:=["mask"]) (N:=["keeper","mask"]) (n:=1) (cap:=[0]) ⟨rfl,by decide +kernel,by decide +kernel,by decide +kernel,by decide +kernel,rfl,by decide +kernel⟩ (by decide) (wc_range1 rfl T.B.range (wa_cons (we_bits (we_var 0)) wa_nil)) rfl (fun _ _ _ _=>⟨Or.inl rfl,rfl⟩) (fun _ _ _ _=>(wfs_one (wt_val (we_call (has_has_keeper T) (hr.mono (by omega)) rfl (wa_cons (we_var 1) (wa_cons (we_var 0) wa_nil)))))) (fun _ _ _ _=>(we_var 0))))
noncomputable def l_masks_within_0:MS:=
  (cSet 1 (c2 oCatL (cVar 1) (cComp 1 [2] (iLc (cVar 1)) tYes (c2 oAdd (cVar 0) (cCall m_mask_of (cCons (cLst (cCons (cVar 1) cNil)) cNil))))))
noncomputable def b_masks_within_2:MS:=
  (cRet (cVar 1))
noncomputable def b_masks_within_1:MS:=
  cSeq (cFor 2 (iL (cCall m_keepers_of (cCons (cVar 0) cNil))) l_masks_within_0) b_masks_within_2
noncomputable def b_masks_within:MS:=
  cSeq (cSet 1 (cLst (cCons (cK (.int 0)) cNil))) b_masks_within_1
noncomputable def m_masks_within:MF:=fnOf 1 3 b_masks_within
theorem has_masks_within(T:Txt P w K mg):Has P w K mg base "masks_within" ["mask"] 3 (spF K mg m_masks_within):=by
 show Has P w K mg base _ _ _ (spF K mg (fnOf 1 3 b_masks_within))
 refine has_of (k:=2) T.d_masks_within sc_masks_within rfl rfl fun f cdv A outer s H E hr=>?_
 have hu:=hr.units
 refine @WSs.un _ _ _ _ ?_
 refine @wss_cons _ _ _ _ _ _ ?_ (@wss_cons _ _ _ _ _ _ ?_ (@wss_one _ _ _ _ ?_))
 ·exact(ws_set (i:=1) sc_masks_within.nd rfl (Or.inl rfl) (we_lst (wa_cons we_int wa_nil)))
 ·exact(ws_for (i:=2) PassesOwn.never rfl (wf_list (we_call (has_keepers_of T) (hr.mono (by omega)) rfl (wa_cons (we_var 0) wa_nil))) sc_masks_within.nd rfl (Or.inr rfl) (wss_one (ws_set (i:=1) sc_masks_within.nd rfl (Or.inl rfl) (we_op op_cat bCatL (we_var 1) (we_comp (esc:=(defScope s_masks_within)) (EN:=["mask","masks","keeper"]) (N:=["below","keeper"]) (n:=1) (cap:=[2]) ⟨rfl,by decide +kernel,by decide +kernel,by decide +kernel,by decide +kernel,rfl,by decide +kernel⟩ (by decide) (wc_list (we_var 1)) rfl (fun _ _ _ _=>⟨Or.inl rfl,rfl⟩) (fun _ _ _ _=>wfs_nil) (fun _ _ _ _=>(we_op op_add bAdd (we_var 0) (we_call (has_mask_of T) (hr.mono (by omega)) rfl (wa_cons (we_lst (wa_cons (we_var 1) wa_nil)) wa_nil)))))))))
 ·exact(ws_ret (we_var 1))
noncomputable def b_is_keeper:MS:=
  (cRet (cAnd (cCall m_is_whole (cCons (cVar 0) cNil)) (c3 oLe oLe (cK (.int 0)) (cVar 0) (cK (.int 5)))))
noncomputable def m_is_keeper:MF:=fnOf 1 1 b_is_keeper
theorem has_is_keeper(T:Txt P w K mg):Has P w K mg base "is_keeper" ["thing"] 2 (spF K mg m_is_keeper):=by
 show Has P w K mg base _ _ _ (spF K mg (fnOf 1 1 b_is_keeper))
 refine has_of (k:=1) T.d_is_keeper sc_is_keeper rfl rfl fun f cdv A outer s H E hr=>?_
 have hu:=hr.units
 refine @WSs.un _ _ _ _ ?_
 refine @wss_one _ _ _ _ ?_
 ·exact(ws_ret (we_and (we_call (has_is_whole T) (hr.mono (by omega)) rfl (wa_cons (we_var 0) wa_nil)) (we_one (we_chain op_le bLe op_le bLe we_int (we_var 0) (we_k (pe_globR rfl T.g_LAST_KEEPER) fun _ _=>rfl)))))
noncomputable def b_is_pair:MS:=
  (cRet (cAnd (cB fIsi (cCons (cVar 0) (cCons (cK (.ty "tuple")) cNil))) (c2 oEq (cB fLen (cCons (cVar 0) cNil)) (cK (.int 2)))))
noncomputable def m_is_pair:MF:=fnOf 1 1 b_is_pair
theorem has_is_pair(T:Txt P w K mg):Has P w K mg base "is_pair" ["thing"] 1 (spF K mg m_is_pair):=by
 show Has P w K mg base _ _ _ (spF K mg (fnOf 1 1 b_is_pair))
 refine has_of (k:=0) T.d_is_pair sc_is_pair rfl rfl fun f cdv A outer s H E hr=>?_
 have hu:=hr.units
 refine @WSs.un _ _ _ _ ?_
 refine @wss_one _ _ _ _ ?_
 ·exact(ws_ret (we_and (we_callB (call_isi T.kt) kIsi rfl T.B.isinstance bt_isinstance (wa_cons (we_var 0) (wa_cons (we_k (pe_bltn (v:=.ty "tuple") rfl T.B.tuple' bt_tuple rfl) fun _ _=>rfl) wa_nil))) (we_one (we_cmp (op_eqD hu) bEq (we_callB call_len_seq kLen rfl T.B.len bt_len (wa_cons (we_var 0) wa_nil)) we_int (nomark _)))))
noncomputable def b_is_choice_2:MS:=
  (cRet (cAnd (c2 oLe (cVar 1) (cK (.int 6))) (c3 oLe oLe (cK (.int 1)) (c2 oIx (cVar 0) (cK (.int 0))) (cVar 1))))
noncomputable def b_is_choice_1:MS:=
  cSeq (cSet 1 (cB fLen (cCons (c2 oIx (cVar 0) (cK (.int 1))) cNil))) b_is_choice_2
noncomputable def b_is_choice:MS:=
  cSeq (cIfS (tOrM (tNotM (cT (cCall m_is_pair (cCons (cVar 0) cNil)))) (tOrM (tNotM (cT (cCall m_is_whole (cCons (c2 oIx (cVar 0) (cK (.int 0))) cNil)))) (tNotM (cT (cB fIsi (cCons (c2 oIx (cVar 0) (cK (.int 1))) (cCons (cK (.ty "tuple")) cNil))))))) (cRet (cK (.bl false))) cPass) b_is_choice_1
noncomputable def m_is_choice:MF:=fnOf 1 2 b_is_choice
theorem has_is_choice(T:Txt P w K mg):Has P w K mg base "is_choice" ["thing"] 2 (spF K mg m_is_choice):=by
 show Has P w K mg base _ _ _ (spF K mg (fnOf 1 2 b_is_choice))
 refine has_of (k:=1) T.d_is_choice sc_is_choice rfl rfl fun f cdv A outer s H E hr=>?_
 have hu:=hr.units
 refine @WSs.un _ _ _ _ ?_
 refine @wss_cons _ _ _ _ _ _ ?_ (@wss_cons _ _ _ _ _ _ ?_ (@wss_one _ _ _ _ ?_))
 ·exact(ws_if (WW.ct (ww_or (wt_not (wt_val (we_call (has_is_pair T) (hr.mono (by omega)) rfl (wa_cons (we_var 0) wa_nil)))) (ww_or (wt_not (wt_val (we_call (has_is_whole T) (hr.mono (by omega)) rfl (wa_cons (we_ix ix_seq bIx (we_var 0) we_int (fun _ _=>rfl)) wa_nil)))) (ww_or1 (wt_not (wt_val (we_callB (call_isi T.kt) kIsi rfl T.B.isinstance bt_isinstance (wa_cons (we_ix ix_seq bIx (we_var 0) we_int (fun _ _=>rfl)) (wa_cons (we_k (pe_bltn (v:=.ty "tuple") rfl T.B.tuple' bt_tuple rfl) fun _ _=>rfl) wa_nil))))))))) (wss_one (ws_ret we_bl)) wss_nil)
 ·exact(ws_set (i:=1) sc_is_choice.nd rfl (Or.inl rfl) (we_callB call_len_seq kLen rfl T.B.len bt_len (wa_cons (we_ix ix_seq bIx (we_var 0) we_int (fun _ _=>rfl)) wa_nil)))
 ·exact(ws_ret (we_and (we_cmp op_le bLe (we_var 1) (we_k (pe_globR rfl T.g_MOST_PARTS) fun _ _=>rfl) (nomark _)) (we_one (we_chain op_le bLe op_le bLe we_int (we_ix ix_seq bIx (we_var 0) we_int (fun _ _=>rfl)) (we_var 1)))))
noncomputable def b_is_built_2(self:MF):MS:=
  (cRet (cB fAll (cCons (cComp 1 [1] (iT (c2 oIx (cVar 0) (cK (.int 1)))) tYes (cCall self (cCons (cVar 0) (cCons (c2 oSub (cVar 1) (cK (.int 1))) cNil)))) cNil)))
noncomputable def b_is_built_1(self:MF):MS:=
  cSeq (cIfS (tOrM (cT (c2 oEq (cVar 1) (cK (.int 0)))) (tNotM (cT (cCall m_is_choice (cCons (cVar 0) cNil))))) (cRet (cK (.bl false))) cPass) (b_is_built_2 self)
noncomputable def b_is_built(self:MF):MS:=
  cSeq (cIfS (cT (cCall m_is_keeper (cCons (cVar 0) cNil))) (cRet (cK (.bl true))) cPass) (b_is_built_1 self)
noncomputable def m_is_built:Nat→MF
 |0=>fun _=>bad
 |n+1=>fnOf 2 2 (b_is_built (m_is_built n))
theorem has_is_built(T:Txt P w K mg):∀n,Has P w K mg base "is_built" ["thing","deep"] (n+3) (spF K mg (m_is_built n))
 | 0=>T.d_is_built.none (by rintro vs H Q E ⟨O,ds,r,S',_,_,h,_⟩;cases h)
 |n+1=>by
  have ih:Has P w K mg base "is_built" ["thing","deep"] (n+3) (spF K mg (m_is_built n)):=has_is_built T n
  show Has P w K mg base _ _ _ (spF K mg (fnOf 2 2 (b_is_built (m_is_built n))))
  refine(has_of (k:=n+3) T.d_is_built sc_is_built rfl rfl fun f cdv A outer s H E hr=>?_).mono (by omega)
  have hu:=hr.units
  refine @WSs.un _ _ _ _ ?_
  refine @wss_cons _ _ _ _ _ _ ?_ (@wss_cons _ _ _ _ _ _ ?_ (@wss_one _ _ _ _ ?_))
  ·exact(ws_if (wt_val (we_call (has_is_keeper T) (hr.mono (by omega)) rfl (wa_cons (we_var 0) wa_nil))) (wss_one (ws_ret we_bl)) wss_nil)
  ·exact(ws_if (WW.ct (ww_or (wt_cmp (op_eqD hu) bEq (we_var 1) we_int (nomark _)) (ww_or1 (wt_not (wt_val (we_call (has_is_choice T) (hr.mono (by omega)) rfl (wa_cons (we_var 0) wa_nil))))))) (wss_one (ws_ret we_bl)) wss_nil)
  ·exact(ws_ret (we_callB (call_all rfl) kAll rfl T.B.all bt_all (wa_cons (we_comp (esc:=(defScope s_is_built)) (EN:=["thing","deep"]) (N:=["part","deep"]) (n:=1) (cap:=[1]) ⟨rfl,by decide +kernel,by decide +kernel,by decide +kernel,by decide +kernel,rfl,by decide +kernel⟩ (by decide) (wc_tup (we_ix ix_seq bIx (we_var 0) we_int (fun _ _=>rfl))) rfl (fun _ _ _ _=>⟨Or.inl rfl,rfl⟩) (fun _ _ _ _=>wfs_nil) (fun _ _ _ _=>(we_call ih (hr.mono (by omega)) rfl (wa_cons (we_var 0) (wa_cons (we_op op_sub bSub (we_var 1) we_int) wa_nil))))) wa_nil)))
noncomputable def l_namings_0(self:MF):MS:=
  (cMutS 1 uExtend (cCons (cCall self (cCons (cVar 2) cNil)) cNil))
noncomputable def b_namings_3(self:MF):MS:=
  (cRetO 1)
noncomputable def b_namings_2(self:MF):MS:=
  cSeq (cFor 2 (iT (c2 oIx (cVar 0) (cK (.int 1)))) (l_namings_0 self)) (b_namings_3 self)
noncomputable def b_namings_1(self:MF):MS:=
  cSeq (cOwn 1 (cLst cNil)) (b_namings_2 self)
noncomputable def b_namings(self:MF):MS:=
  cSeq (cIfS (cT (cCall m_is_whole (cCons (cVar 0) cNil))) (cRet (cLst (cCons (cVar 0) cNil))) cPass) (b_namings_1 self)
noncomputable def m_namings:Nat→MF
 |0=>fun _=>bad
 |n+1=>fnOf 1 3 (b_namings (m_namings n))
theorem has_namings(T:Txt P w K mg):∀n,Has P w K mg base "namings" ["rule"] (n+2) (spF K mg (m_namings n))
 | 0=>T.d_namings.none (by rintro vs H Q E ⟨O,ds,r,S',_,_,h,_⟩;cases h)
 |n+1=>by
  have ih:Has P w K mg base "namings" ["rule"] (n+2) (spF K mg (m_namings n)):=has_namings T n
  show Has P w K mg base _ _ _ (spF K mg (fnOf 1 3 (b_namings (m_namings n))))
  refine(has_of (k:=n+2) T.d_namings sc_namings rfl rfl fun f cdv A outer s H E hr=>?_).mono (by omega)
  have hu:=hr.units
  refine @WSs.un _ _ _ _ ?_
  refine @wss_cons _ _ _ _ _ _ ?_ (@wss_cons _ _ _ _ _ _ ?_ (@wss_cons _ _ _ _ _ _ ?_ (@wss_one _ _ _ _ ?_)))
  ·exact(ws_if (wt_val (we_call (has_is_whole T) (hr.mono (by omega)) rfl (wa_cons (we_var 0) wa_nil))) (wss_one (ws_ret (we_lst (wa_cons (we_var 0) wa_nil)))) wss_nil)
  ·exact(ws_own (i:=1) sc_namings.nd rfl (Or.inl rfl) (we_lst wa_nil))
  ·exact(ws_for (i:=2) PassesOwn.never rfl (wf_tup (we_ix ix_seq bIx (we_var 0) we_int (fun _ _=>rfl))) sc_namings.nd rfl (Or.inl rfl) (wss_one (ws_mut (i:=1) PySem.F.slot_list_extend PySem.F.type_list_extend mt_extend mExtend (wa_cons (we_call ih (hr.mono (by omega)) rfl (wa_cons (we_var 2) wa_nil)) wa_nil) rfl (Or.inl rfl))))
  ·exact(ws_retO 1)
noncomputable def b_is_rule:MS:=
  (cRet (cAnd (cCall (m_is_built 12) (cCons (cVar 0) (cCons (cK (.int 4)) cNil))) (c2 oLe (cB fLen (cCons (cCall (m_namings 12) (cCons (cVar 0) cNil)) cNil)) (cK (.int 12)))))
noncomputable def m_is_rule:MF:=fnOf 1 1 b_is_rule
theorem has_is_rule(T:Txt P w K mg):Has P w K mg base "is_rule" ["thing"] 16 (spF K mg m_is_rule):=by
 show Has P w K mg base _ _ _ (spF K mg (fnOf 1 1 b_is_rule))
 refine has_of (k:=15) T.d_is_rule sc_is_rule rfl rfl fun f cdv A outer s H E hr=>?_
 have hu:=hr.units
 refine @WSs.un _ _ _ _ ?_
 refine @wss_one _ _ _ _ ?_
 ·exact(ws_ret (we_and (we_call (has_is_built T 12) (hr.mono (by omega)) rfl (wa_cons (we_var 0) (wa_cons (we_k (pe_globR rfl T.g_MOST_DEEP) fun _ _=>rfl) wa_nil))) (we_one (we_cmp op_le bLe (we_callB call_len_seq kLen rfl T.B.len bt_len (wa_cons (we_call (has_namings T 12) (hr.mono (by omega)) rfl (wa_cons (we_var 0) wa_nil)) wa_nil)) (we_k (pe_globR rfl T.g_MOST_NAMED) fun _ _=>rfl) (nomark _)))))
noncomputable def b_named:MS:=
  (cRet (cCall m_mask_of (cCons (cCall (m_namings 12) (cCons (cVar 0) cNil)) cNil)))
noncomputable def m_named:MF:=fnOf 1 1 b_named
theorem has_named(T:Txt P w K mg):Has P w K mg base "named" ["rule"] 15 (spF K mg m_named):=by
 show Has P w K mg base _ _ _ (spF K mg (fnOf 1 1 b_named))
 refine has_of (k:=14) T.d_named sc_named rfl rfl fun f cdv A outer s H E hr=>?_
 have hu:=hr.units
 refine @WSs.un _ _ _ _ ?_
 refine @wss_one _ _ _ _ ?_
 ·exact(ws_ret (we_call (has_mask_of T) (hr.mono (by omega)) rfl (wa_cons (we_call (has_namings T 12) (hr.mono (by omega)) rfl (wa_cons (we_var 0) wa_nil)) wa_nil)))
noncomputable def b_fills_1(self:MF):MS:=
  (cRet (c2 oGe (cB fLen (cCons (cComp 1 [1] (iT (c2 oIx (cVar 0) (cK (.int 1)))) (cT (cCall self (cCons (cVar 0) (cCons (cVar 1) cNil)))) (cVar 0)) cNil)) (c2 oIx (cVar 0) (cK (.int 0)))))
noncomputable def b_fills(self:MF):MS:=
  cSeq (cIfS (cT (cCall m_is_whole (cCons (cVar 0) cNil))) (cRet (cCall m_has_keeper (cCons (cVar 1) (cCons (cVar 0) cNil)))) cPass) (b_fills_1 self)
noncomputable def m_fills:Nat→MF
 |0=>fun _=>bad
 |n+1=>fnOf 2 2 (b_fills (m_fills n))
theorem has_fills(T:Txt P w K mg):∀n,Has P w K mg base "fills" ["rule","mask"] (n+2) (spF K mg (m_fills n))
 | 0=>T.d_fills.none (by rintro vs H Q E ⟨O,ds,r,S',_,_,h,_⟩;cases h)
 |n+1=>by
  have ih:Has P w K mg base "fills" ["rule","mask"] (n+2) (spF K mg (m_fills n)):=has_fills T n
  show Has P w K mg base _ _ _ (spF K mg (fnOf 2 2 (b_fills (m_fills n))))
  refine(has_of (k:=n+2) T.d_fills sc_fills rfl rfl fun f cdv A outer s H E hr=>?_).mono (by omega)
  have hu:=hr.units
  refine @WSs.un _ _ _ _ ?_
  refine @wss_cons _ _ _ _ _ _ ?_ (@wss_one _ _ _ _ ?_)
  ·exact(ws_if (wt_val (we_call (has_is_whole T) (hr.mono (by omega)) rfl (wa_cons (we_var 0) wa_nil))) (wss_one (ws_ret (we_call (has_has_keeper T) (hr.mono (by omega)) rfl (wa_cons (we_var 1) (wa_cons (we_var 0) wa_nil))))) wss_nil)
  ·exact(ws_ret (we_cmp op_ge bGe (we_callB call_len_seq kLen rfl T.B.len bt_len (wa_cons (we_comp (esc:=(defScope s_fills)) (EN:=["rule","mask"]) (N:=["part","mask"]) (n:=1) (cap:=[1]) ⟨rfl,by decide +kernel,by decide +kernel,by decide +kernel,by decide +kernel,rfl,by decide +kernel⟩ (by decide) (wc_tup (we_ix ix_seq bIx (we_var 0) we_int (fun _ _=>rfl))) rfl (fun _ _ _ _=>⟨Or.inl rfl,rfl⟩) (fun _ _ _ _=>(wfs_one (wt_val (we_call ih (hr.mono (by omega)) rfl (wa_cons (we_var 0) (wa_cons (we_var 1) wa_nil)))))) (fun _ _ _ _=>(we_var 0))) wa_nil)) (we_ix ix_seq bIx (we_var 0) we_int (fun _ _=>rfl)) (nomark _)))
noncomputable def b_is_least:MS:=
  (cRet (cNot (cB fAny (cCons (cComp 1 [0,1] (iLc (cCall m_keepers_of (cCons (cVar 0) cNil))) tYes (c2 (oIn false) (c2 oSub (cVar 1) (cCall m_mask_of (cCons (cLst (cCons (cVar 0) cNil)) cNil))) (cVar 2))) cNil))))
noncomputable def m_is_least:MF:=fnOf 2 2 b_is_least
theorem has_is_least(T:Txt P w K mg):Has P w K mg base "is_least" ["mask","filling"] 3 (spF K mg m_is_least):=by
 show Has P w K mg base _ _ _ (spF K mg (fnOf 2 2 b_is_least))
 refine has_of (k:=2) T.d_is_least sc_is_least rfl rfl fun f cdv A outer s H E hr=>?_
 have hu:=hr.units
 refine @WSs.un _ _ _ _ ?_
 refine @wss_one _ _ _ _ ?_
 ·exact(ws_ret (we_not (we_callB (call_any rfl) kAny rfl T.B.any bt_any (wa_cons (we_comp (esc:=(defScope s_is_least)) (EN:=["mask","filling"]) (N:=["keeper","mask","filling"]) (n:=1) (cap:=[0,1]) ⟨rfl,by decide +kernel,by decide +kernel,by decide +kernel,by decide +kernel,rfl,by decide +kernel⟩ (by decide) (wc_list (we_call (has_keepers_of T) (hr.mono (by omega)) rfl (wa_cons (we_var 0) wa_nil))) rfl (fun _ _ _ _=>⟨Or.inl rfl,rfl⟩) (fun _ _ _ _=>wfs_nil) (fun _ _ _ _=>(we_cmp op_in_seq (bIn false) (we_op op_sub bSub (we_var 1) (we_call (has_mask_of T) (hr.mono (by omega)) rfl (wa_cons (we_lst (wa_cons (we_var 0) wa_nil)) wa_nil))) (we_var 2) rfl))) wa_nil))))
noncomputable def b_least_masks_1:MS:=
  (cRet (cComp 1 [1] (iLc (cVar 1)) (cT (cCall m_is_least (cCons (cVar 0) (cCons (cVar 1) cNil)))) (cVar 0)))
noncomputable def b_least_masks:MS:=
  cSeq (cSet 1 (cComp 1 [0] (iLc (cCall m_masks_within (cCons (cCall m_named (cCons (cVar 0) cNil)) cNil))) (cT (cCall (m_fills 12) (cCons (cVar 1) (cCons (cVar 0) cNil)))) (cVar 0))) b_least_masks_1
noncomputable def m_least_masks:MF:=fnOf 1 2 b_least_masks
theorem has_least_masks(T:Txt P w K mg):Has P w K mg base "least_masks" ["rule"] 16 (spF K mg m_least_masks):=by
 show Has P w K mg base _ _ _ (spF K mg (fnOf 1 2 b_least_masks))
 refine has_of (k:=15) T.d_least_masks sc_least_masks rfl rfl fun f cdv A outer s H E hr=>?_
 have hu:=hr.units
 refine @WSs.un _ _ _ _ ?_
 refine @wss_cons _ _ _ _ _ _ ?_ (@wss_one _ _ _ _ ?_)
 ·exact(ws_set (i:=1) sc_least_masks.nd rfl (Or.inr rfl) (we_comp (esc:=(defScope s_least_masks)) (EN:=["rule","filling"]) (N:=["mask","rule"]) (n:=1) (cap:=[0]) ⟨rfl,by decide +kernel,by decide +kernel,by decide +kernel,by decide +kernel,rfl,by decide +kernel⟩ (by decide) (wc_list (we_call (has_masks_within T) (hr.mono (by omega)) rfl (wa_cons (we_call (has_named T) (hr.mono (by omega)) rfl (wa_cons (we_var 0) wa_nil)) wa_nil))) rfl (fun _ _ _ _=>⟨Or.inl rfl,rfl⟩) (fun _ _ _ _=>(wfs_one (wt_val (we_call (has_fills T 12) (hr.mono (by omega)) rfl (wa_cons (we_var 1) (wa_cons (we_var 0) wa_nil)))))) (fun _ _ _ _=>(we_var 0))))
 ·exact(ws_ret (we_comp (esc:=(defScope s_least_masks)) (EN:=["rule","filling"]) (N:=["mask","filling"]) (n:=1) (cap:=[1]) ⟨rfl,by decide +kernel,by decide +kernel,by decide +kernel,by decide +kernel,rfl,by decide +kernel⟩ (by decide) (wc_list (we_var 1)) rfl (fun _ _ _ _=>⟨Or.inl rfl,rfl⟩) (fun _ _ _ _=>(wfs_one (wt_val (we_call (has_is_least T) (hr.mono (by omega)) rfl (wa_cons (we_var 0) (wa_cons (we_var 1) wa_nil)))))) (fun _ _ _ _=>(we_var 0))))
noncomputable def l_first_apart_0:MS:=
  (cIfS (cT (c2 oEq (c2 oBand (cVar 0) (cVar 2)) (cK (.int 0)))) (cRet (cVar 2)) cPass)
noncomputable def b_first_apart_1:MS:=
  (cRet (cK (.non)))
noncomputable def b_first_apart:MS:=
  cSeq (cFor 2 (iL (cVar 1)) l_first_apart_0) b_first_apart_1
noncomputable def m_first_apart:MF:=fnOf 2 3 b_first_apart
theorem has_first_apart(T:Txt P w K mg):Has P w K mg base "first_apart" ["mask","others"] 1 (spF K mg m_first_apart):=by
 show Has P w K mg base _ _ _ (spF K mg (fnOf 2 3 b_first_apart))
 refine has_of (k:=0) T.d_first_apart sc_first_apart rfl rfl fun f cdv A outer s H E hr=>?_
 have hu:=hr.units
 refine @WSs.un _ _ _ _ ?_
 refine @wss_cons _ _ _ _ _ _ ?_ (@wss_one _ _ _ _ ?_)
 ·exact(ws_for (i:=2) PassesOwn.never rfl (wf_list (we_var 1)) sc_first_apart.nd rfl (Or.inl rfl) (wss_one (ws_if (wt_cmp (op_eqD hu) bEq (we_op op_and bBand (we_var 0) (we_var 2)) we_int (nomark _)) (wss_one (ws_ret (we_var 2))) wss_nil)))
 ·exact(ws_ret we_non)
noncomputable def l_parting_0:MS:=
  (cSeq (cSet 4 (cCall m_first_apart (cCons (cVar 3) (cCons (cVar 2) cNil))))
  (cIfS (cT (c2 oNotN (cVar 4) (cK (.non)))) (cRet (cTup (cCons (cVar 3) (cCons (cVar 4) cNil)))) cPass))
noncomputable def b_parting_2:MS:=
  (cRet (cK (.non)))
noncomputable def b_parting_1:MS:=
  cSeq (cFor 3 (iL (cCall m_least_masks (cCons (cVar 0) cNil))) l_parting_0) b_parting_2
noncomputable def b_parting:MS:=
  cSeq (cSet 2 (cCall m_least_masks (cCons (cVar 1) cNil))) b_parting_1
noncomputable def m_parting:MF:=fnOf 2 5 b_parting
theorem has_parting(T:Txt P w K mg):Has P w K mg base "parting" ["asking","keeping"] 17 (spF K mg m_parting):=by
 show Has P w K mg base _ _ _ (spF K mg (fnOf 2 5 b_parting))
 refine has_of (k:=16) T.d_parting sc_parting rfl rfl fun f cdv A outer s H E hr=>?_
 have hu:=hr.units
 refine @WSs.un _ _ _ _ ?_
 refine @wss_cons _ _ _ _ _ _ ?_ (@wss_cons _ _ _ _ _ _ ?_ (@wss_one _ _ _ _ ?_))
 ·exact(ws_set (i:=2) sc_parting.nd rfl (Or.inl rfl) (we_call (has_least_masks T) (hr.mono (by omega)) rfl (wa_cons (we_var 1) wa_nil)))
 ·exact(ws_for (i:=3) PassesOwn.never rfl (wf_list (we_call (has_least_masks T) (hr.mono (by omega)) rfl (wa_cons (we_var 0) wa_nil))) sc_parting.nd rfl (Or.inl rfl) (wss_cons (ws_set (i:=4) sc_parting.nd rfl (Or.inl rfl) (we_call (has_first_apart T) (hr.mono (by omega)) rfl (wa_cons (we_var 3) (wa_cons (we_var 2) wa_nil))))
  (wss_one (ws_if (wt_cmp op_notN bNotN (we_var 4) we_non (nomark _)) (wss_one (ws_ret (we_tup (wa_cons (we_var 3) (wa_cons (we_var 4) wa_nil))))) wss_nil))))
 ·exact(ws_ret we_non)
noncomputable def b_is_hall_1:MS:=
  (cRet (c2 oIsN (cCall m_parting (cCons (c2 oIx (cVar 0) (cK (.int 0))) (cCons (c2 oIx (cVar 0) (cK (.int 1))) cNil))) (cK (.non))))
noncomputable def b_is_hall:MS:=
  cSeq (cIfS (tOrM (tNotM (cT (cCall m_is_pair (cCons (cVar 0) cNil)))) (tOrM (tNotM (cT (cCall m_is_rule (cCons (c2 oIx (cVar 0) (cK (.int 0))) cNil)))) (tNotM (cT (cCall m_is_rule (cCons (c2 oIx (cVar 0) (cK (.int 1))) cNil)))))) (cRet (cK (.bl false))) cPass) b_is_hall_1
noncomputable def m_is_hall:MF:=fnOf 1 1 b_is_hall
theorem has_is_hall(T:Txt P w K mg):Has P w K mg base "is_hall" ["thing"] 18 (spF K mg m_is_hall):=by
 show Has P w K mg base _ _ _ (spF K mg (fnOf 1 1 b_is_hall))
 refine has_of (k:=17) T.d_is_hall sc_is_hall rfl rfl fun f cdv A outer s H E hr=>?_
 have hu:=hr.units
 refine @WSs.un _ _ _ _ ?_
 refine @wss_cons _ _ _ _ _ _ ?_ (@wss_one _ _ _ _ ?_)
 ·exact(ws_if (WW.ct (ww_or (wt_not (wt_val (we_call (has_is_pair T) (hr.mono (by omega)) rfl (wa_cons (we_var 0) wa_nil)))) (ww_or (wt_not (wt_val (we_call (has_is_rule T) (hr.mono (by omega)) rfl (wa_cons (we_ix ix_seq bIx (we_var 0) we_int (fun _ _=>rfl)) wa_nil)))) (ww_or1 (wt_not (wt_val (we_call (has_is_rule T) (hr.mono (by omega)) rfl (wa_cons (we_ix ix_seq bIx (we_var 0) we_int (fun _ _=>rfl)) wa_nil)))))))) (wss_one (ws_ret we_bl)) wss_nil)
 ·exact(ws_ret (we_cmp op_isN bIsN (we_call (has_parting T) (hr.mono (by omega)) rfl (wa_cons (we_ix ix_seq bIx (we_var 0) we_int (fun _ _=>rfl)) (wa_cons (we_ix ix_seq bIx (we_var 0) we_int (fun _ _=>rfl)) wa_nil))) we_non (nomark _)))
noncomputable def b_members_mask:MS:=
  (cRet (c2 oBor (cCall m_named (cCons (c2 oIx (cVar 0) (cK (.int 0))) cNil)) (cCall m_named (cCons (c2 oIx (cVar 0) (cK (.int 1))) cNil))))
noncomputable def m_members_mask:MF:=fnOf 1 1 b_members_mask
theorem has_members_mask(T:Txt P w K mg):Has P w K mg base "members_mask" ["hall"] 16 (spF K mg m_members_mask):=by
 show Has P w K mg base _ _ _ (spF K mg (fnOf 1 1 b_members_mask))
 refine has_of (k:=15) T.d_members_mask sc_members_mask rfl rfl fun f cdv A outer s H E hr=>?_
 have hu:=hr.units
 refine @WSs.un _ _ _ _ ?_
 refine @wss_one _ _ _ _ ?_
 ·exact(ws_ret (we_op op_or bBor (we_call (has_named T) (hr.mono (by omega)) rfl (wa_cons (we_ix ix_seq bIx (we_var 0) we_int (fun _ _=>rfl)) wa_nil)) (we_call (has_named T) (hr.mono (by omega)) rfl (wa_cons (we_ix ix_seq bIx (we_var 0) we_int (fun _ _=>rfl)) wa_nil))))
noncomputable def b_members_of:MS:=
  (cRet (cCall m_keepers_of (cCons (cCall m_members_mask (cCons (cVar 0) cNil)) cNil)))
noncomputable def m_members_of:MF:=fnOf 1 1 b_members_of
theorem has_members_of(T:Txt P w K mg):Has P w K mg base "members_of" ["hall"] 17 (spF K mg m_members_of):=by
 show Has P w K mg base _ _ _ (spF K mg (fnOf 1 1 b_members_of))
 refine has_of (k:=16) T.d_members_of sc_members_of rfl rfl fun f cdv A outer s H E hr=>?_
 have hu:=hr.units
 refine @WSs.un _ _ _ _ ?_
 refine @wss_one _ _ _ _ ?_
 ·exact(ws_ret (we_call (has_keepers_of T) (hr.mono (by omega)) rfl (wa_cons (we_call (has_members_mask T) (hr.mono (by omega)) rfl (wa_cons (we_var 0) wa_nil)) wa_nil)))
noncomputable def b_is_name_1:MS:=
  (cRet (cB fAll (cCons (cComp 1 [] (iS (cVar 0)) tYes (c2 (oInS false) (cVar 0) (cK (.str "abcdefghijklmnopqrstuvwxyz")))) cNil)))
noncomputable def b_is_name:MS:=
  cSeq (cIfS (tOrM (tNotM (cT (cB fIsi (cCons (cVar 0) (cCons (cK (.ty "str")) cNil))))) (tNotM (cT (c3 oLe oLe (cK (.int 1)) (cB fLenS (cCons (cVar 0) cNil)) (cK (.int 8)))))) (cRet (cK (.bl false))) cPass) b_is_name_1
noncomputable def m_is_name:MF:=fnOf 1 1 b_is_name
theorem has_is_name(T:Txt P w K mg):Has P w K mg base "is_name" ["thing"] 1 (spF K mg m_is_name):=by
 show Has P w K mg base _ _ _ (spF K mg (fnOf 1 1 b_is_name))
 refine has_of (k:=0) T.d_is_name sc_is_name rfl rfl fun f cdv A outer s H E hr=>?_
 have hu:=hr.units
 refine @WSs.un _ _ _ _ ?_
 refine @wss_cons _ _ _ _ _ _ ?_ (@wss_one _ _ _ _ ?_)
 ·exact(ws_if (WW.ct (ww_or (wt_not (wt_val (we_callB (call_isi T.kt) kIsi rfl T.B.isinstance bt_isinstance (wa_cons (we_var 0) (wa_cons (we_k (pe_bltn (v:=.ty "str") rfl T.B.str' bt_str rfl) fun _ _=>rfl) wa_nil))))) (ww_or1 (wt_not (wt_chain op_le bLe op_le bLe we_int (we_callB call_len_str kLenS rfl T.B.len bt_len (wa_cons (we_var 0) wa_nil)) (we_k (pe_globR rfl T.g_MOST_LETTERS) fun _ _=>rfl)))))) (wss_one (ws_ret we_bl)) wss_nil)
 ·exact(ws_ret (we_callB (call_all rfl) kAll rfl T.B.all bt_all (wa_cons (we_comp (esc:=(defScope s_is_name)) (EN:=["thing"]) (N:=["sign"]) (n:=1) (cap:=[]) ⟨rfl,by decide +kernel,by decide +kernel,by decide +kernel,by decide +kernel,rfl,by decide +kernel⟩ (by decide) (wc_str (we_var 0)) rfl (fun _ _ _ _=>⟨Or.inl rfl,rfl⟩) (fun _ _ _ _=>wfs_nil) (fun _ _ _ _=>(we_cmp op_in_str bInS (we_var 0) (we_k (pe_globR rfl T.g_SMALL_LETTERS) fun _ _=>rfl) rfl))) wa_nil)))
noncomputable def b_is_number:MS:=
  (cRet (cAnd (cCall m_is_whole (cCons (cVar 0) cNil)) (c2 oLt (cB fAbs (cCons (cVar 0) cNil)) (c2 oPow (cK (.int 10)) (cK (.int 60))))))
noncomputable def m_is_number:MF:=fnOf 1 1 b_is_number
theorem has_is_number(T:Txt P w K mg):Has P w K mg base "is_number" ["thing"] 2 (spF K mg m_is_number):=by
 show Has P w K mg base _ _ _ (spF K mg (fnOf 1 1 b_is_number))
 refine has_of (k:=1) T.d_is_number sc_is_number rfl rfl fun f cdv A outer s H E hr=>?_
 have hu:=hr.units
 refine @WSs.un _ _ _ _ ?_
 refine @wss_one _ _ _ _ ?_
 ·exact(ws_ret (we_and (we_call (has_is_whole T) (hr.mono (by omega)) rfl (wa_cons (we_var 0) wa_nil)) (we_one (we_cmp op_lt bLt (we_callB call_abs kAbs rfl T.B.abs bt_abs (wa_cons (we_var 0) wa_nil)) (we_op op_pow bPow we_int we_int) (nomark _)))))
noncomputable def b_is_fence:MS:=
  (cRet (cAnd (cCall m_is_number (cCons (cVar 0) cNil)) (c2 oGe (cVar 0) (cK (.int 0)))))
noncomputable def m_is_fence:MF:=fnOf 1 1 b_is_fence
theorem has_is_fence(T:Txt P w K mg):Has P w K mg base "is_fence" ["thing"] 3 (spF K mg m_is_fence):=by
 show Has P w K mg base _ _ _ (spF K mg (fnOf 1 1 b_is_fence))
 refine has_of (k:=2) T.d_is_fence sc_is_fence rfl rfl fun f cdv A outer s H E hr=>?_
 have hu:=hr.units
 refine @WSs.un _ _ _ _ ?_
 refine @wss_one _ _ _ _ ?_
 ·exact(ws_ret (we_and (we_call (has_is_number T) (hr.mono (by omega)) rfl (wa_cons (we_var 0) wa_nil)) (we_one (we_cmp op_ge bGe (we_var 0) we_int (nomark _)))))
noncomputable def b_form_of:MS:=
  (cRet (cTabGet ktab_FORMS (cVar 0)))
noncomputable def m_form_of:MF:=fnOf 1 1 b_form_of
theorem has_form_of(T:Txt P w K mg):Has P w K mg base "form_of" ["word"] 1 (spF K mg m_form_of):=by
 show Has P w K mg base _ _ _ (spF K mg (fnOf 1 1 b_form_of))
 refine has_of (k:=0) T.d_form_of sc_form_of rfl rfl fun f cdv A outer s H E hr=>?_
 have hu:=hr.units
 refine @WSs.un _ _ _ _ ?_
 refine @wss_one _ _ _ _ ?_
 ·exact(ws_ret (we_tabget T.k_FORMS rfl (we_var 0)))
noncomputable def b_is_part_3:MS:=
  (cRet (cCall m_is_hall (cCons (cVar 1) cNil)))
noncomputable def b_is_part_2:MS:=
  cSeq (cIfS (cT (c2 oEq (cVar 0) (cK (.str "fence")))) (cRet (cCall m_is_fence (cCons (cVar 1) cNil))) cPass) b_is_part_3
noncomputable def b_is_part_1:MS:=
  cSeq (cIfS (cT (c2 oEq (cVar 0) (cK (.str "number")))) (cRet (cCall m_is_number (cCons (cVar 1) cNil))) cPass) b_is_part_2
noncomputable def b_is_part:MS:=
  cSeq (cIfS (cT (c2 oEq (cVar 0) (cK (.str "name")))) (cRet (cCall m_is_name (cCons (cVar 1) cNil))) cPass) b_is_part_1
noncomputable def m_is_part:MF:=fnOf 2 2 b_is_part
theorem has_is_part(T:Txt P w K mg):Has P w K mg base "is_part" ["kind","thing"] 19 (spF K mg m_is_part):=by
 show Has P w K mg base _ _ _ (spF K mg (fnOf 2 2 b_is_part))
 refine has_of (k:=18) T.d_is_part sc_is_part rfl rfl fun f cdv A outer s H E hr=>?_
 have hu:=hr.units
 refine @WSs.un _ _ _ _ ?_
 refine @wss_cons _ _ _ _ _ _ ?_ (@wss_cons _ _ _ _ _ _ ?_ (@wss_cons _ _ _ _ _ _ ?_ (@wss_one _ _ _ _ ?_)))
 ·exact(ws_if (wt_cmp (op_eqD hu) bEq (we_var 0) we_str (nomark _)) (wss_one (ws_ret (we_call (has_is_name T) (hr.mono (by omega)) rfl (wa_cons (we_var 1) wa_nil)))) wss_nil)
 ·exact(ws_if (wt_cmp (op_eqD hu) bEq (we_var 0) we_str (nomark _)) (wss_one (ws_ret (we_call (has_is_number T) (hr.mono (by omega)) rfl (wa_cons (we_var 1) wa_nil)))) wss_nil)
 ·exact(ws_if (wt_cmp (op_eqD hu) bEq (we_var 0) we_str (nomark _)) (wss_one (ws_ret (we_call (has_is_fence T) (hr.mono (by omega)) rfl (wa_cons (we_var 1) wa_nil)))) wss_nil)
 ·exact(ws_ret (we_call (has_is_hall T) (hr.mono (by omega)) rfl (wa_cons (we_var 1) wa_nil)))
noncomputable def b_is_deed_3:MS:=
  (cRet (cB fAll (cCons (cCompZ [] (cCons (cVar 1) (cCons (cSlW (cVar 0) (cPart (cK (.int 1))) cNoPart) cNil)) tYes (cCall m_is_part (cCons (cVar 0) (cCons (cVar 1) cNil)))) cNil)))
noncomputable def b_is_deed_2:MS:=
  cSeq (cIfS (tOrM (cT (c2 oIsN (cVar 1) (cK (.non)))) (cT (c2 oNe (cB fLen (cCons (cVar 0) cNil)) (c2 oAdd (cB fLen (cCons (cVar 1) cNil)) (cK (.int 1)))))) (cRet (cK (.bl false))) cPass) b_is_deed_3
noncomputable def b_is_deed_1:MS:=
  cSeq (cSet 1 (cCall m_form_of (cCons (c2 oIx (cVar 0) (cK (.int 0))) cNil))) b_is_deed_2
noncomputable def b_is_deed:MS:=
  cSeq (cIfS (tOrM (tNotM (cT (cB fIsi (cCons (cVar 0) (cCons (cK (.ty "tuple")) cNil))))) (tOrM (cT (c2 oEq (cB fLen (cCons (cVar 0) cNil)) (cK (.int 0)))) (tNotM (cT (cB fIsi (cCons (c2 oIx (cVar 0) (cK (.int 0))) (cCons (cK (.ty "str")) cNil))))))) (cRet (cK (.bl false))) cPass) b_is_deed_1
noncomputable def m_is_deed:MF:=fnOf 1 2 b_is_deed
theorem has_is_deed(T:Txt P w K mg):Has P w K mg base "is_deed" ["thing"] 20 (spF K mg m_is_deed):=by
 show Has P w K mg base _ _ _ (spF K mg (fnOf 1 2 b_is_deed))
 refine has_of (k:=19) T.d_is_deed sc_is_deed rfl rfl fun f cdv A outer s H E hr=>?_
 have hu:=hr.units
 refine @WSs.un _ _ _ _ ?_
 refine @wss_cons _ _ _ _ _ _ ?_ (@wss_cons _ _ _ _ _ _ ?_ (@wss_cons _ _ _ _ _ _ ?_ (@wss_one _ _ _ _ ?_)))
 ·exact(ws_if (WW.ct (ww_or (wt_not (wt_val (we_callB (call_isi T.kt) kIsi rfl T.B.isinstance bt_isinstance (wa_cons (we_var 0) (wa_cons (we_k (pe_bltn (v:=.ty "tuple") rfl T.B.tuple' bt_tuple rfl) fun _ _=>rfl) wa_nil))))) (ww_or (wt_cmp (op_eqD hu) bEq (we_callB call_len_seq kLen rfl T.B.len bt_len (wa_cons (we_var 0) wa_nil)) we_int (nomark _)) (ww_or1 (wt_not (wt_val (we_callB (call_isi T.kt) kIsi rfl T.B.isinstance bt_isinstance (wa_cons (we_ix ix_seq bIx (we_var 0) we_int (fun _ _=>rfl)) (wa_cons (we_k (pe_bltn (v:=.ty "str") rfl T.B.str' bt_str rfl) fun _ _=>rfl) wa_nil))))))))) (wss_one (ws_ret we_bl)) wss_nil)
 ·exact(ws_set (i:=1) sc_is_deed.nd rfl (Or.inl rfl) (we_call (has_form_of T) (hr.mono (by omega)) rfl (wa_cons (we_ix ix_seq bIx (we_var 0) we_int (fun _ _=>rfl)) wa_nil)))
 ·exact(ws_if (WW.ct (ww_or (wt_cmp op_isN bIsN (we_var 1) we_non (nomark _)) (ww_or1 (wt_cmp (op_neD hu) bNe (we_callB call_len_seq kLen rfl T.B.len bt_len (wa_cons (we_var 0) wa_nil)) (we_op op_add bAdd (we_callB call_len_seq kLen rfl T.B.len bt_len (wa_cons (we_var 1) wa_nil)) we_int) (nomark _))))) (wss_one (ws_ret we_bl)) wss_nil)
 ·exact(ws_ret (we_callB (call_all rfl) kAll rfl T.B.all bt_all (wa_cons (we_compZ (esc:=(defScope s_is_deed)) (EN:=["thing","form"]) (N:=["kind","part"]) (cap:=[]) ⟨rfl,by decide +kernel,by decide +kernel,by decide +kernel,by decide +kernel,rfl,by decide +kernel⟩ rfl T.B.zip (wa_cons (we_var 1) (wa_cons (we_sliceW (we_var 0) (wo_some we_int) wo_none) wa_nil)) rfl rfl (fun _ _ _ _=>⟨Or.inl rfl,rfl⟩) (fun _ _ _ _=>⟨Or.inl rfl,rfl⟩) (fun _ _ _ _=>wfs_nil) (fun _ _ _ _=>(we_call (has_is_part T) (hr.mono (by omega)) rfl (wa_cons (we_var 0) (wa_cons (we_var 1) wa_nil))))) wa_nil)))
noncomputable def b_blank:MS:=
  (cRet (cTup (cCons (cTup cNil) (cCons (cTup cNil) (cCons (cTup (cCons (cK (.int 0)) (cCons (cK (.non)) cNil))) (cCons (cK (.non)) cNil))))))
noncomputable def m_blank:MF:=fnOf 0 0 b_blank
theorem has_blank(T:Txt P w K mg):Has P w K mg base "blank" [] 1 (spF K mg m_blank):=by
 show Has P w K mg base _ _ _ (spF K mg (fnOf 0 0 b_blank))
 refine has_of (k:=0) T.d_blank sc_blank rfl rfl fun f cdv A outer s H E hr=>?_
 have hu:=hr.units
 refine @WSs.un _ _ _ _ ?_
 refine @wss_one _ _ _ _ ?_
 ·exact(ws_ret (we_tup (wa_cons (we_tup wa_nil) (wa_cons (we_tup wa_nil) (wa_cons (we_tup (wa_cons we_int (wa_cons we_non wa_nil))) (wa_cons we_non wa_nil))))))
noncomputable def b_ask_letter:MS:=
  (cRet (cTup (cCons (cK (.str "ask")) (cCons (cVar 0) (cCons (cVar 1) (cCons (cVar 2) (cCons (cVar 3) (cCons (cTup cNil) cNil))))))))
noncomputable def m_ask_letter:MF:=fnOf 4 4 b_ask_letter
theorem has_ask_letter(T:Txt P w K mg):Has P w K mg base "ask_letter" ["asker","keeper","epoch","stamp"] 1 (spF K mg m_ask_letter):=by
 show Has P w K mg base _ _ _ (spF K mg (fnOf 4 4 b_ask_letter))
 refine has_of (k:=0) T.d_ask_letter sc_ask_letter rfl rfl fun f cdv A outer s H E hr=>?_
 have hu:=hr.units
 refine @WSs.un _ _ _ _ ?_
 refine @wss_one _ _ _ _ ?_
 ·exact(ws_ret (we_tup (wa_cons we_str (wa_cons (we_var 0) (wa_cons (we_var 1) (wa_cons (we_var 2) (wa_cons (we_var 3) (wa_cons (we_tup wa_nil) wa_nil))))))))
noncomputable def b_Asker___init___13:MS:=
  (cNoB (cTAn (pVar 0) "Asker" ["me","epoch","hall","opening","over_known","greatest_round","last_stamp","wishes","deed","standing","last_outcome","grants","kept_mask"] "told_slate" (cK (.non))))
noncomputable def b_Asker___init___12:MS:=
  cSeq (cNoB (cTAn (pVar 0) "Asker" ["me","epoch","hall","opening","over_known","greatest_round","last_stamp","wishes","deed","standing","last_outcome","grants"] "kept_mask" (cK (.int 0)))) b_Asker___init___13
noncomputable def b_Asker___init___11:MS:=
  cSeq (cNoB (cTAnT 0 "Asker" ["me","epoch","hall","opening","over_known","greatest_round","last_stamp","wishes","deed","standing","last_outcome"] "grants" (vOwn (cLst cNil)))) b_Asker___init___12
noncomputable def b_Asker___init___10:MS:=
  cSeq (cNoB (cTAn (pVar 0) "Asker" ["me","epoch","hall","opening","over_known","greatest_round","last_stamp","wishes","deed","standing"] "last_outcome" (cK (.non)))) b_Asker___init___11
noncomputable def b_Asker___init___9:MS:=
  cSeq (cNoB (cTAn (pVar 0) "Asker" ["me","epoch","hall","opening","over_known","greatest_round","last_stamp","wishes","deed"] "standing" (cK (.str "calm")))) b_Asker___init___10
noncomputable def b_Asker___init___8:MS:=
  cSeq (cNoB (cTAn (pVar 0) "Asker" ["me","epoch","hall","opening","over_known","greatest_round","last_stamp","wishes"] "deed" (cK (.non)))) b_Asker___init___9
noncomputable def b_Asker___init___7:MS:=
  cSeq (cNoB (cTAn (pVar 0) "Asker" ["me","epoch","hall","opening","over_known","greatest_round","last_stamp"] "wishes" (cK (.int 0)))) b_Asker___init___8
noncomputable def b_Asker___init___6:MS:=
  cSeq (cNoB (cTAn (pVar 0) "Asker" ["me","epoch","hall","opening","over_known","greatest_round"] "last_stamp" (cTup (cCons (cK (.int 0)) (cCons (cK (.int 0)) cNil))))) b_Asker___init___7
noncomputable def b_Asker___init___5:MS:=
  cSeq (cNoB (cTAn (pVar 0) "Asker" ["me","epoch","hall","opening","over_known"] "greatest_round" (cK (.int 0)))) b_Asker___init___6
noncomputable def b_Asker___init___4:MS:=
  cSeq (cNoB (cTAn (pVar 0) "Asker" ["me","epoch","hall","opening"] "over_known" (cK (.bl false)))) b_Asker___init___5
noncomputable def b_Asker___init___3:MS:=
  cSeq (cNoB (cTAn (pVar 0) "Asker" ["me","epoch","hall"] "opening" (cCall m_blank cNil))) b_Asker___init___4
noncomputable def b_Asker___init___2:MS:=
  cSeq (cNoB (cTAn (pVar 0) "Asker" ["me","epoch"] "hall" (cVar 2))) b_Asker___init___3
noncomputable def b_Asker___init___1:MS:=
  cSeq (cNoB (cTAn (pVar 0) "Asker" ["me"] "epoch" (cK (.int 0)))) b_Asker___init___2
noncomputable def b_Asker___init__:MS:=
  cSeq (cNoB (cTAn (pVar 0) "Asker" [] "me" (cVar 1))) b_Asker___init___1
noncomputable def m_Asker___init__:MTR:=fnTR 1 3 3 b_Asker___init__
theorem has_Asker___init__(T:Txt P w K mg):HasM P w K mg base "Asker" "__init__" ["self","me","hall"] 2 (spTR K mg m_Asker___init__):=by
 show HasM P w K mg base _ _ _ _ (spTR K mg (fnTR 1 3 3 b_Asker___init__))
 refine hasM_tr (k:=1) T.d_Asker___init__ sc_Asker___init__ rfl rfl fun f cdv A outer s H E hr=>?_
 have hu:=hr.units
 refine @WRs.un _ _ _ _ ?_
 refine @wrs_cons _ _ _ _ _ _ ?_ (@wrs_cons _ _ _ _ _ _ ?_ (@wrs_cons _ _ _ _ _ _ ?_ (@wrs_cons _ _ _ _ _ _ ?_ (@wrs_cons _ _ _ _ _ _ ?_ (@wrs_cons _ _ _ _ _ _ ?_ (@wrs_cons _ _ _ _ _ _ ?_ (@wrs_cons _ _ _ _ _ _ ?_ (@wrs_cons _ _ _ _ _ _ ?_ (@wrs_cons _ _ _ _ _ _ ?_ (@wrs_cons _ _ _ _ _ _ ?_ (@wrs_cons _ _ _ _ _ _ ?_ (@wrs_cons _ _ _ _ _ _ ?_ (@wrs_one _ _ _ _ ?_)))))))))))))
 ·exact(wr_of (ws_tan [] T.c_Asker (wp_var 0) (we_var 1)))
 ·exact(wr_of (ws_tan ["me"] T.c_Asker (wp_var 0) we_int))
 ·exact(wr_of (ws_tan ["me","epoch"] T.c_Asker (wp_var 0) (we_var 2)))
 ·exact(wr_of (ws_tan ["me","epoch","hall"] T.c_Asker (wp_var 0) (we_call0 (has_blank T) (hr.mono (by omega)) rfl)))
 ·exact(wr_of (ws_tan ["me","epoch","hall","opening"] T.c_Asker (wp_var 0) we_bl))
 ·exact(wr_of (ws_tan ["me","epoch","hall","opening","over_known"] T.c_Asker (wp_var 0) we_int))
 ·exact(wr_of (ws_tan ["me","epoch","hall","opening","over_known","greatest_round"] T.c_Asker (wp_var 0) (we_tup (wa_cons we_int (wa_cons we_int wa_nil)))))
 ·exact(wr_of (ws_tan ["me","epoch","hall","opening","over_known","greatest_round","last_stamp"] T.c_Asker (wp_var 0) we_int))
 ·exact(wr_of (ws_tan ["me","epoch","hall","opening","over_known","greatest_round","last_stamp","wishes"] T.c_Asker (wp_var 0) we_non))
 ·exact(wr_of (ws_tan ["me","epoch","hall","opening","over_known","greatest_round","last_stamp","wishes","deed"] T.c_Asker (wp_var 0) we_str))
 ·exact(wr_of (ws_tan ["me","epoch","hall","opening","over_known","greatest_round","last_stamp","wishes","deed","standing"] T.c_Asker (wp_var 0) we_non))
 ·exact(wr_of (ws_tanT (i:=0) ["me","epoch","hall","opening","over_known","greatest_round","last_stamp","wishes","deed","standing","last_outcome"] T.c_Asker rfl (by first | exact Or.inl rfl | exact Or.inr (Or.inl rfl) | exact Or.inr (Or.inr rfl)) (wv_own (we_lst wa_nil))))
 ·exact(wr_of (ws_tan ["me","epoch","hall","opening","over_known","greatest_round","last_stamp","wishes","deed","standing","last_outcome","grants"] T.c_Asker (wp_var 0) we_int))
 ·exact(wr_of (ws_tan ["me","epoch","hall","opening","over_known","greatest_round","last_stamp","wishes","deed","standing","last_outcome","grants","kept_mask"] T.c_Asker (wp_var 0) we_non))
noncomputable def b_Asker_ask_members:MSr:=
  (rSeq (rOf (cTAt (pVar 0) "Asker" 5 "greatest_round" (c2 oAdd (cLeaf (pAt (pVar 0) "Asker" 5 "greatest_round")) (cK (.int 1)))))
  (rSeq (rOf (cTAt (pVar 0) "Asker" 6 "last_stamp" (cTup (cCons (cLeaf (pAt (pVar 0) "Asker" 5 "greatest_round")) (cCons (cLeaf (pAt (pVar 0) "Asker" 0 "me")) cNil)))))
  (rSeq (rOf (cTAt (pVar 0) "Asker" 9 "standing" (cK (.str "asking"))))
  (rSeq (rOf (cTAtT 0 "Asker" 11 "grants" (vOwn (cLst cNil))))
  (rRet (cCompT 1 [0] (iLc (cCall m_members_of (cCons (cLeaf (pAt (pVar 0) "Asker" 2 "hall")) cNil))) tYes (cCall m_ask_letter (cCons (cLeaf (pAt (pVar 1) "Asker" 0 "me")) (cCons (cVar 0) (cCons (cLeaf (pAt (pVar 1) "Asker" 1 "epoch")) (cCons (cLeaf (pAt (pVar 1) "Asker" 6 "last_stamp")) cNil)))))))))))
noncomputable def m_Asker_ask_members:MTQ:=fnTQ 1 1 1 b_Asker_ask_members
theorem has_Asker_ask_members(T:Txt P w K mg):HasM P w K mg base "Asker" "ask_members" ["self"] 18 (spTQ K mg m_Asker_ask_members):=by
 show HasM P w K mg base _ _ _ _ (spTQ K mg (fnTQ 1 1 1 b_Asker_ask_members))
 refine hasM_tq (k:=17) T.d_Asker_ask_members sc_Asker_ask_members rfl rfl fun f cdv A outer s H E hr=>?_
 have hu:=hr.units
 exact(rqs_cons (rq_of (ws_tat 5 T.c_Asker (wp_var 0) (we_op op_add bAdd (we_leaf (wp_at 5 T.c_Asker (wp_var 0))) we_int)))
  (rqs_cons (rq_of (ws_tat 6 T.c_Asker (wp_var 0) (we_tup (wa_cons (we_leaf (wp_at 5 T.c_Asker (wp_var 0))) (wa_cons (we_leaf (wp_at 0 T.c_Asker (wp_var 0))) wa_nil)))))
  (rqs_cons (rq_of (ws_tat 9 T.c_Asker (wp_var 0) we_str))
  (rqs_cons (rq_of (ws_tatT (i:=0) 11 T.c_Asker rfl (by first | exact Or.inl rfl | exact Or.inr (Or.inl rfl) | exact Or.inr (Or.inr rfl)) (wv_own (we_lst wa_nil))))
  (rqs_one (rq_ret (we_compT (esc:=(defScope s_Asker_ask_members)) (EN:=["self"]) (N:=["keeper","self"]) (n:=1) (cap:=[0]) ⟨rfl,by decide +kernel,by decide +kernel,by decide +kernel,by decide +kernel,rfl,by decide +kernel⟩ (by decide) (wc_list (we_call (has_members_of T) (hr.mono (by omega)) rfl (wa_cons (we_leaf (wp_at 2 T.c_Asker (wp_var 0))) wa_nil))) rfl (fun _ _ _ _=>⟨Or.inl rfl,rfl⟩) (fun _ _ _ _=>wfs_nil) (fun _ _ _ _=>(we_call (has_ask_letter T) (hr.mono (by omega)) rfl (wa_cons (we_leaf (wp_at 0 T.c_Asker (wp_var 1))) (wa_cons (we_var 0) (wa_cons (we_leaf (wp_at 1 T.c_Asker (wp_var 1))) (wa_cons (we_leaf (wp_at 6 T.c_Asker (wp_var 1))) wa_nil)))))))))))))
noncomputable def b_Asker_begin:MSr:=
  (rSeq (rIf (tAndM (cT (c2 oNotN (cVar 1) (cK (.non)))) (tNotM (cT (cCall m_is_deed (cCons (cVar 1) cNil))))) rNev rPass)
  (rSeq (rIf (cT (cLeaf (pAt (pVar 0) "Asker" 4 "over_known"))) rNev rPass)
  (rSeq (rIf (cT (c2 oNe (cLeaf (pAt (pVar 0) "Asker" 9 "standing")) (cK (.str "calm")))) rNev rPass)
  (rSeq (rOf (cTAt (pVar 0) "Asker" 7 "wishes" (c2 oAdd (cLeaf (pAt (pVar 0) "Asker" 7 "wishes")) (cK (.int 1)))))
  (rSeq (rOf (cTAt (pVar 0) "Asker" 8 "deed" (cVar 1)))
  (rSeq (rOf (cTAt (pVar 0) "Asker" 10 "last_outcome" (cK (.non))))
  (rRetG (gTQ (pVar 0) "Asker" ns_Asker m_Asker_ask_members cNil))))))))
noncomputable def m_Asker_begin:MTQ:=fnTQ 1 2 2 b_Asker_begin
theorem has_Asker_begin(T:Txt P w K mg):HasMN P w K mg base "Asker" "begin" ["self","deed"] 21 (spTQ K mg m_Asker_begin):=by
 show HasMN P w K mg base _ _ _ _ (spTQ K mg (fnTQ 1 2 2 b_Asker_begin))
 refine hasMN_tq (k:=20) T.d_Asker_begin sc_Asker_begin rfl rfl fun f cdv A outer s H E hr=>?_
 have hu:=hr.units
 exact(rqs_cons (rq_if (WW.ct (ww_and (wt_cmp op_notN bNotN (we_var 1) we_non (nomark _)) (ww_and1 (wt_not (wt_val (we_call (has_is_deed T) (hr.mono (by omega)) rfl (wa_cons (we_var 1) wa_nil))))))) (rqs_one rq_nev) rqs_nil)
  (rqs_cons (rq_if (wt_val (we_leaf (wp_at 4 T.c_Asker (wp_var 0)))) (rqs_one rq_nev) rqs_nil)
  (rqs_cons (rq_if (wt_cmp (op_neD hu) bNe (we_leaf (wp_at 9 T.c_Asker (wp_var 0))) we_str (nomark _)) (rqs_one rq_nev) rqs_nil)
  (rqs_cons (rq_of (ws_tat 7 T.c_Asker (wp_var 0) (we_op op_add bAdd (we_leaf (wp_at 7 T.c_Asker (wp_var 0))) we_int)))
  (rqs_cons (rq_of (ws_tat 8 T.c_Asker (wp_var 0) (we_var 1)))
  (rqs_cons (rq_of (ws_tat 10 T.c_Asker (wp_var 0) we_non))
  (rqs_one (rq_retG (wg_tq0 (has_Asker_ask_members T) ns_Asker (hr.mono (by omega)) (wp_var 0))))))))))
noncomputable def b_Asker_bell:MSr:=
  (rSeq (rIf (cT (c2 oEq (cLeaf (pAt (pVar 0) "Asker" 9 "standing")) (cK (.str "calm")))) (rRet (cLst cNil)) rPass)
  (rRetG (gTQ (pVar 0) "Asker" ns_Asker m_Asker_ask_members cNil)))
noncomputable def m_Asker_bell:MTQ:=fnTQ 1 1 1 b_Asker_bell
theorem has_Asker_bell(T:Txt P w K mg):HasM P w K mg base "Asker" "bell" ["self"] 19 (spTQ K mg m_Asker_bell):=by
 show HasM P w K mg base _ _ _ _ (spTQ K mg (fnTQ 1 1 1 b_Asker_bell))
 refine hasM_tq (k:=18) T.d_Asker_bell sc_Asker_bell rfl rfl fun f cdv A outer s H E hr=>?_
 have hu:=hr.units
 exact(rqs_cons (rq_if (wt_cmp (op_eqD hu) bEq (we_leaf (wp_at 9 T.c_Asker (wp_var 0))) we_str (nomark _)) (rqs_one (rq_ret (we_lst wa_nil))) rqs_nil)
  (rqs_one (rq_retG (wg_tq0 (has_Asker_ask_members T) ns_Asker (hr.mono (by omega)) (wp_var 0)))))
noncomputable def b_Asker_hear:MSr:=
  (rSeq (rIf (cT (c2 oNe (c2 oIx (cVar 1) (cK (.int 2))) (cLeaf (pAt (pVar 0) "Asker" 0 "me")))) (rRet (cLst cNil)) rPass)
  (rSeq (rIf (cT (c2 oEq (c2 oIx (cVar 1) (cK (.int 0))) (cK (.str "late")))) (rSeq (rOf (cTAt (pVar 0) "Asker" 5 "greatest_round" (cB fMax2 (cCons (cLeaf (pAt (pVar 0) "Asker" 5 "greatest_round")) (cCons (c2 oIx (c2 oIx (c2 oIx (cVar 1) (cK (.int 5))) (cK (.int 0))) (cK (.int 0))) cNil)))))
  (rRet (cLst cNil))) rPass)
  (rSeq rNev
  (rSeq (rIf (tAndM (cT (c2 oEq (c2 oIx (cVar 1) (cK (.int 0))) (cK (.str "grant")))) (cT (c2 oEq (cLeaf (pAt (pVar 0) "Asker" 9 "standing")) (cK (.str "asking"))))) rNev rPass)
  (rSeq (rIf (tAndM (cT (c2 oEq (c2 oIx (cVar 1) (cK (.int 0))) (cK (.str "kept")))) (cT (c2 oEq (cLeaf (pAt (pVar 0) "Asker" 9 "standing")) (cK (.str "telling"))))) rNev rPass)
  (rRet (cLst cNil)))))))
noncomputable def m_Asker_hear:MTQ:=fnTQ 1 2 2 b_Asker_hear
theorem has_Asker_hear(T:Txt P w K mg):HasM P w K mg base "Asker" "hear" ["self","letter"] 1 (spTQ K mg m_Asker_hear):=by
 show HasM P w K mg base _ _ _ _ (spTQ K mg (fnTQ 1 2 2 b_Asker_hear))
 refine hasM_tq (k:=0) T.d_Asker_hear sc_Asker_hear rfl rfl fun f cdv A outer s H E hr=>?_
 have hu:=hr.units
 exact(rqs_cons (rq_if (wt_cmp (op_neD hu) bNe (we_ix ix_seq bIx (we_var 1) we_int (fun _ _=>rfl)) (we_leaf (wp_at 0 T.c_Asker (wp_var 0))) (nomark _)) (rqs_one (rq_ret (we_lst wa_nil))) rqs_nil)
  (rqs_cons (rq_if (wt_cmp (op_eqD hu) bEq (we_ix ix_seq bIx (we_var 1) we_int (fun _ _=>rfl)) we_str (nomark _)) (rqs_cons (rq_of (ws_tat 5 T.c_Asker (wp_var 0) (we_callB (call_max2 rfl) k2I rfl T.B.max bt_max (wa_cons (we_leaf (wp_at 5 T.c_Asker (wp_var 0))) (wa_cons (we_ix ix_seq bIx (we_ix ix_seq bIx (we_ix ix_seq bIx (we_var 1) we_int (fun _ _=>rfl)) we_int (fun _ _=>rfl)) we_int (fun _ _=>rfl)) wa_nil)))))
  (rqs_one (rq_ret (we_lst wa_nil)))) rqs_nil)
  (rqs_cons rq_nev
  (rqs_cons (rq_if (WW.ct (ww_and (wt_cmp (op_eqD hu) bEq (we_ix ix_seq bIx (we_var 1) we_int (fun _ _=>rfl)) we_str (nomark _)) (ww_and1 (wt_cmp (op_eqD hu) bEq (we_leaf (wp_at 9 T.c_Asker (wp_var 0))) we_str (nomark _))))) (rqs_one rq_nev) rqs_nil)
  (rqs_cons (rq_if (WW.ct (ww_and (wt_cmp (op_eqD hu) bEq (we_ix ix_seq bIx (we_var 1) we_int (fun _ _=>rfl)) we_str (nomark _)) (ww_and1 (wt_cmp (op_eqD hu) bEq (we_leaf (wp_at 9 T.c_Asker (wp_var 0))) we_str (nomark _))))) (rqs_one rq_nev) rqs_nil)
  (rqs_one (rq_ret (we_lst wa_nil))))))))
noncomputable def b_Asker_outcome:MS:=
  (cRet (cLeaf (pAt (pVar 0) "Asker" 10 "last_outcome")))
noncomputable def m_Asker_outcome:MTV:=fnTV 1 1 b_Asker_outcome
theorem has_Asker_outcome(T:Txt P w K mg):HasM P w K mg base "Asker" "outcome" ["self"] 1 (spTV K mg m_Asker_outcome):=by
 show HasM P w K mg base _ _ _ _ (spTV K mg (fnTV 1 1 b_Asker_outcome))
 refine hasM_tv (k:=0) T.d_Asker_outcome sc_Asker_outcome rfl rfl fun f cdv A outer s H E hr=>?_
 have hu:=hr.units
 refine @WSs.un _ _ _ _ ?_
 refine @wss_one _ _ _ _ ?_
 ·exact(ws_ret (we_leaf (wp_at 10 T.c_Asker (wp_var 0))))
noncomputable def b_Asker_number:MS:=
  (cRet (cLeaf (pAt (pVar 0) "Asker" 7 "wishes")))
noncomputable def m_Asker_number:MTV:=fnTV 1 1 b_Asker_number
theorem has_Asker_number(T:Txt P w K mg):HasM P w K mg base "Asker" "number" ["self"] 1 (spTV K mg m_Asker_number):=by
 show HasM P w K mg base _ _ _ _ (spTV K mg (fnTV 1 1 b_Asker_number))
 refine hasM_tv (k:=0) T.d_Asker_number sc_Asker_number rfl rfl fun f cdv A outer s H E hr=>?_
 have hu:=hr.units
 refine @WSs.un _ _ _ _ ?_
 refine @wss_one _ _ _ _ ?_
 ·exact(ws_ret (we_leaf (wp_at 7 T.c_Asker (wp_var 0))))
noncomputable def b_Asker_stand:MS:=
  (cRet (cLeaf (pAt (pVar 0) "Asker" 9 "standing")))
noncomputable def m_Asker_stand:MTV:=fnTV 1 1 b_Asker_stand
theorem has_Asker_stand(T:Txt P w K mg):HasM P w K mg base "Asker" "stand" ["self"] 1 (spTV K mg m_Asker_stand):=by
 show HasM P w K mg base _ _ _ _ (spTV K mg (fnTV 1 1 b_Asker_stand))
 refine hasM_tv (k:=0) T.d_Asker_stand sc_Asker_stand rfl rfl fun f cdv A outer s H E hr=>?_
 have hu:=hr.units
 refine @WSs.un _ _ _ _ ?_
 refine @wss_one _ _ _ _ ?_
 ·exact(ws_ret (we_leaf (wp_at 9 T.c_Asker (wp_var 0))))
noncomputable def b_Asker_stamp:MS:=
  (cRet (cLeaf (pAt (pVar 0) "Asker" 6 "last_stamp")))
noncomputable def m_Asker_stamp:MTV:=fnTV 1 1 b_Asker_stamp
theorem has_Asker_stamp(T:Txt P w K mg):HasM P w K mg base "Asker" "stamp" ["self"] 1 (spTV K mg m_Asker_stamp):=by
 show HasM P w K mg base _ _ _ _ (spTV K mg (fnTV 1 1 b_Asker_stamp))
 refine hasM_tv (k:=0) T.d_Asker_stamp sc_Asker_stamp rfl rfl fun f cdv A outer s H E hr=>?_
 have hu:=hr.units
 refine @WSs.un _ _ _ _ ?_
 refine @wss_one _ _ _ _ ?_
 ·exact(ws_ret (we_leaf (wp_at 6 T.c_Asker (wp_var 0))))
noncomputable def b_Asker_place:MS:=
  (cRet (cTup (cCons (cLeaf (pAt (pVar 0) "Asker" 1 "epoch")) (cCons (cLeaf (pAt (pVar 0) "Asker" 2 "hall")) (cCons (cLeaf (pAt (pVar 0) "Asker" 3 "opening")) cNil)))))
noncomputable def m_Asker_place:MTV:=fnTV 1 1 b_Asker_place
theorem has_Asker_place(T:Txt P w K mg):HasM P w K mg base "Asker" "place" ["self"] 1 (spTV K mg m_Asker_place):=by
 show HasM P w K mg base _ _ _ _ (spTV K mg (fnTV 1 1 b_Asker_place))
 refine hasM_tv (k:=0) T.d_Asker_place sc_Asker_place rfl rfl fun f cdv A outer s H E hr=>?_
 have hu:=hr.units
 refine @WSs.un _ _ _ _ ?_
 refine @wss_one _ _ _ _ ?_
 ·exact(ws_ret (we_tup (wa_cons (we_leaf (wp_at 1 T.c_Asker (wp_var 0))) (wa_cons (we_leaf (wp_at 2 T.c_Asker (wp_var 0))) (wa_cons (we_leaf (wp_at 3 T.c_Asker (wp_var 0))) wa_nil)))))
noncomputable def b_Asker_knows_over:MS:=
  (cRet (cLeaf (pAt (pVar 0) "Asker" 4 "over_known")))
noncomputable def m_Asker_knows_over:MTV:=fnTV 1 1 b_Asker_knows_over
theorem has_Asker_knows_over(T:Txt P w K mg):HasM P w K mg base "Asker" "knows_over" ["self"] 1 (spTV K mg m_Asker_knows_over):=by
 show HasM P w K mg base _ _ _ _ (spTV K mg (fnTV 1 1 b_Asker_knows_over))
 refine hasM_tv (k:=0) T.d_Asker_knows_over sc_Asker_knows_over rfl rfl fun f cdv A outer s H E hr=>?_
 have hu:=hr.units
 refine @WSs.un _ _ _ _ ?_
 refine @wss_one _ _ _ _ ?_
 ·exact(ws_ret (we_leaf (wp_at 4 T.c_Asker (wp_var 0))))
noncomputable def b_law_cell_at_1:MS:=
  (cRet (cK (.int 0)))
noncomputable def b_law_cell_at:MS:=
  cSeq (cIfS (cT (c2 oLt (cVar 1) (cB fLen (cCons (cVar 0) cNil)))) (cRet (c2 oIx (cVar 0) (cVar 1))) cPass) b_law_cell_at_1
noncomputable def m_law_cell_at:MF:=fnOf 2 2 b_law_cell_at
theorem has_law_cell_at(T:Txt P w K mg):Has P w K mg base "_law_cell_at" ["script","k"] 1 (spF K mg m_law_cell_at):=by
 show Has P w K mg base _ _ _ (spF K mg (fnOf 2 2 b_law_cell_at))
 refine has_of (k:=0) T.d_law_cell_at sc_law_cell_at rfl rfl fun f cdv A outer s H E hr=>?_
 have hu:=hr.units
 refine @WSs.un _ _ _ _ ?_
 refine @wss_cons _ _ _ _ _ _ ?_ (@wss_one _ _ _ _ ?_)
 ·exact(ws_if (wt_cmp op_lt bLt (we_var 1) (we_callB call_len_seq kLen rfl T.B.len bt_len (wa_cons (we_var 0) wa_nil)) (nomark _)) (wss_one (ws_ret (we_ix ix_seq bIx (we_var 0) (we_var 1) (fun _ _=>rfl)))) wss_nil)
 ·exact(ws_ret we_int)
noncomputable def l_law_same_0(self:MF):MS:=
  (cIfS (tNotM (cT (cCall self (cCons (cVar 2) (cCons (cVar 3) cNil))))) (cRet (cK (.bl false))) cPass)
noncomputable def b_law_same_4(self:MF):MS:=
  (cRet (cAnd (cB fIsi (cCons (cVar 0) (cCons (cK (.ty "str")) cNil))) (c2 oEq (cVar 0) (cVar 1))))
noncomputable def b_law_same_3(self:MF):MS:=
  cSeq (cIfS (cT (cB fIsi (cCons (cVar 1) (cCons (cK (.ty "int")) cNil)))) (cRet (cAnd (cB fIsi (cCons (cVar 0) (cCons (cK (.ty "int")) cNil))) (cAnd (cNot (cB fIsi (cCons (cVar 0) (cCons (cK (.ty "bool")) cNil)))) (c2 oEq (cVar 0) (cVar 1))))) cPass) (b_law_same_4 self)
noncomputable def b_law_same_2(self:MF):MS:=
  cSeq (cIfS (cT (cB fIsi (cCons (cVar 1) (cCons (cK (.ty "bool")) cNil)))) (cRet (cAnd (cB fIsi (cCons (cVar 0) (cCons (cK (.ty "bool")) cNil))) (c2 oEq (cVar 0) (cVar 1)))) cPass) (b_law_same_3 self)
noncomputable def b_law_same_1(self:MF):MS:=
  cSeq (cIfS (cT (c2 oIsN (cVar 1) (cK (.non)))) (cRet (c2 oIsN (cVar 0) (cK (.non)))) cPass) (b_law_same_2 self)
noncomputable def b_law_same(self:MF):MS:=
  cSeq (cIfS (cT (cB fIsi2 (cCons (cVar 1) (cCons (cTup (cCons (cK (.ty "tuple")) (cCons (cK (.ty "list")) cNil))) cNil)))) (cSeq (cIfS (tOrM (tNotM (cT (cB fIsi2 (cCons (cVar 0) (cCons (cTup (cCons (cK (.ty "tuple")) (cCons (cK (.ty "list")) cNil))) cNil))))) (cT (c2 oNe (cB fIsi (cCons (cVar 0) (cCons (cK (.ty "tuple")) cNil))) (cB fIsi (cCons (cVar 1) (cCons (cK (.ty "tuple")) cNil)))))) (cRet (cK (.bl false))) cPass)
  (cSeq (cIfS (cT (c2 oNe (cB fLen (cCons (cVar 0) cNil)) (cB fLen (cCons (cVar 1) cNil)))) (cRet (cK (.bl false))) cPass)
  (cSeq (cForZ [2,3] (cCons (cVar 0) (cCons (cVar 1) cNil)) (l_law_same_0 self))
  (cRet (cK (.bl true)))))) cPass) (b_law_same_1 self)
noncomputable def m_law_same:Nat→MF
 |0=>fun _=>bad
 |n+1=>fnOf 2 4 (b_law_same (m_law_same n))
theorem has_law_same(T:Txt P w K mg):∀n,Has P w K mg base "_law_same" ["found","due"] (n+1) (spF K mg (m_law_same n))
 | 0=>T.d_law_same.none (by rintro vs H Q E ⟨O,ds,r,S',_,_,h,_⟩;cases h)
 |n+1=>by
  have ih:Has P w K mg base "_law_same" ["found","due"] (n+1) (spF K mg (m_law_same n)):=has_law_same T n
  show Has P w K mg base _ _ _ (spF K mg (fnOf 2 4 (b_law_same (m_law_same n))))
  refine(has_of (k:=n+1) T.d_law_same sc_law_same rfl rfl fun f cdv A outer s H E hr=>?_).mono (by omega)
  have hu:=hr.units
  refine @WSs.un _ _ _ _ ?_
  refine @wss_cons _ _ _ _ _ _ ?_ (@wss_cons _ _ _ _ _ _ ?_ (@wss_cons _ _ _ _ _ _ ?_ (@wss_cons _ _ _ _ _ _ ?_ (@wss_one _ _ _ _ ?_))))
  ·exact(ws_if (wt_val (we_callB (call_isi2 T.kt) kIsi2 rfl T.B.isinstance bt_isinstance (wa_cons (we_var 1) (wa_cons (we_tup (wa_cons (we_k (pe_bltn (v:=.ty "tuple") rfl T.B.tuple' bt_tuple rfl) fun _ _=>rfl) (wa_cons (we_k (pe_bltn (v:=.ty "list") rfl T.B.list' bt_list rfl) fun _ _=>rfl) wa_nil))) wa_nil)))) (wss_cons (ws_if (WW.ct (ww_or (wt_not (wt_val (we_callB (call_isi2 T.kt) kIsi2 rfl T.B.isinstance bt_isinstance (wa_cons (we_var 0) (wa_cons (we_tup (wa_cons (we_k (pe_bltn (v:=.ty "tuple") rfl T.B.tuple' bt_tuple rfl) fun _ _=>rfl) (wa_cons (we_k (pe_bltn (v:=.ty "list") rfl T.B.list' bt_list rfl) fun _ _=>rfl) wa_nil))) wa_nil))))) (ww_or1 (wt_cmp (op_neD hu) bNe (we_callB (call_isi T.kt) kIsi rfl T.B.isinstance bt_isinstance (wa_cons (we_var 0) (wa_cons (we_k (pe_bltn (v:=.ty "tuple") rfl T.B.tuple' bt_tuple rfl) fun _ _=>rfl) wa_nil))) (we_callB (call_isi T.kt) kIsi rfl T.B.isinstance bt_isinstance (wa_cons (we_var 1) (wa_cons (we_k (pe_bltn (v:=.ty "tuple") rfl T.B.tuple' bt_tuple rfl) fun _ _=>rfl) wa_nil))) (nomark _))))) (wss_one (ws_ret we_bl)) wss_nil)
  (wss_cons (ws_if (wt_cmp (op_neD hu) bNe (we_callB call_len_seq kLen rfl T.B.len bt_len (wa_cons (we_var 0) wa_nil)) (we_callB call_len_seq kLen rfl T.B.len bt_len (wa_cons (we_var 1) wa_nil)) (nomark _)) (wss_one (ws_ret we_bl)) wss_nil)
  (wss_cons (ws_forZ PassesOwn.never rfl rfl T.B.zip (wa_cons (we_var 0) (wa_cons (we_var 1) wa_nil)) (pgs_names_cons sc_law_same.nd rfl (Or.inl rfl) (pgs_names_cons sc_law_same.nd rfl (Or.inl rfl) pgs_names_nil)) (wss_one (ws_if (wt_not (wt_val (we_call ih (hr.mono (by omega)) rfl (wa_cons (we_var 2) (wa_cons (we_var 3) wa_nil))))) (wss_one (ws_ret we_bl)) wss_nil)))
  (wss_one (ws_ret we_bl))))) wss_nil)
  ·exact(ws_if (wt_cmp op_isN bIsN (we_var 1) we_non (nomark _)) (wss_one (ws_ret (we_cmp op_isN bIsN (we_var 0) we_non (nomark _)))) wss_nil)
  ·exact(ws_if (wt_val (we_callB (call_isi T.kt) kIsi rfl T.B.isinstance bt_isinstance (wa_cons (we_var 1) (wa_cons (we_k (pe_bltn (v:=.ty "bool") rfl T.B.bool' bt_bool rfl) fun _ _=>rfl) wa_nil)))) (wss_one (ws_ret (we_and (we_callB (call_isi T.kt) kIsi rfl T.B.isinstance bt_isinstance (wa_cons (we_var 0) (wa_cons (we_k (pe_bltn (v:=.ty "bool") rfl T.B.bool' bt_bool rfl) fun _ _=>rfl) wa_nil))) (we_one (we_cmp (op_eqD hu) bEq (we_var 0) (we_var 1) (nomark _)))))) wss_nil)
  ·exact(ws_if (wt_val (we_callB (call_isi T.kt) kIsi rfl T.B.isinstance bt_isinstance (wa_cons (we_var 1) (wa_cons (we_k (pe_bltn (v:=.ty "int") rfl T.B.int' bt_int rfl) fun _ _=>rfl) wa_nil)))) (wss_one (ws_ret (we_and (we_callB (call_isi T.kt) kIsi rfl T.B.isinstance bt_isinstance (wa_cons (we_var 0) (wa_cons (we_k (pe_bltn (v:=.ty "int") rfl T.B.int' bt_int rfl) fun _ _=>rfl) wa_nil))) (we_and (we_not (we_callB (call_isi T.kt) kIsi rfl T.B.isinstance bt_isinstance (wa_cons (we_var 0) (wa_cons (we_k (pe_bltn (v:=.ty "bool") rfl T.B.bool' bt_bool rfl) fun _ _=>rfl) wa_nil)))) (we_one (we_cmp (op_eqD hu) bEq (we_var 0) (we_var 1) (nomark _))))))) wss_nil)
  ·exact(ws_ret (we_and (we_callB (call_isi T.kt) kIsi rfl T.B.isinstance bt_isinstance (wa_cons (we_var 0) (wa_cons (we_k (pe_bltn (v:=.ty "str") rfl T.B.str' bt_str rfl) fun _ _=>rfl) wa_nil))) (we_one (we_cmp (op_eqD hu) bEq (we_var 0) (we_var 1) (nomark _)))))
noncomputable def b_law_turned_1(self:MF):MS:=
  (cRet (cTup (cCons (c2 oIx (cVar 0) (cK (.int 0))) (cCons (cB fTuple (cCons (cComp 1 [1] (iT (c2 oIx (cVar 0) (cK (.int 1)))) tYes (cCall self (cCons (cVar 0) (cCons (cVar 1) cNil)))) cNil)) cNil))))
noncomputable def b_law_turned(self:MF):MS:=
  cSeq (cIfS (tNotM (cT (cB fIsi (cCons (cVar 0) (cCons (cK (.ty "tuple")) cNil))))) (cRet (c2 oMod (c2 oAdd (cVar 0) (cVar 1)) (cK (.int 6)))) cPass) (b_law_turned_1 self)
noncomputable def m_law_turned:Nat→MF
 |0=>fun _=>bad
 |n+1=>fnOf 2 2 (b_law_turned (m_law_turned n))
theorem has_law_turned(T:Txt P w K mg):∀n,Has P w K mg base "_law_turned" ["rule","shift"] (n+1) (spF K mg (m_law_turned n))
 | 0=>T.d_law_turned.none (by rintro vs H Q E ⟨O,ds,r,S',_,_,h,_⟩;cases h)
 |n+1=>by
  have ih:Has P w K mg base "_law_turned" ["rule","shift"] (n+1) (spF K mg (m_law_turned n)):=has_law_turned T n
  show Has P w K mg base _ _ _ (spF K mg (fnOf 2 2 (b_law_turned (m_law_turned n))))
  refine(has_of (k:=n+1) T.d_law_turned sc_law_turned rfl rfl fun f cdv A outer s H E hr=>?_).mono (by omega)
  have hu:=hr.units
  refine @WSs.un _ _ _ _ ?_
  refine @wss_cons _ _ _ _ _ _ ?_ (@wss_one _ _ _ _ ?_)
  ·exact(ws_if (wt_not (wt_val (we_callB (call_isi T.kt) kIsi rfl T.B.isinstance bt_isinstance (wa_cons (we_var 0) (wa_cons (we_k (pe_bltn (v:=.ty "tuple") rfl T.B.tuple' bt_tuple rfl) fun _ _=>rfl) wa_nil))))) (wss_one (ws_ret (we_op op_mod bMod (we_op op_add bAdd (we_var 0) (we_var 1)) we_int))) wss_nil)
  ·exact(ws_ret (we_tup (wa_cons (we_ix ix_seq bIx (we_var 0) we_int (fun _ _=>rfl)) (wa_cons (we_callTy call_tuple_of kTuple rfl T.B.tuple' bt_tuple (wa_cons (we_comp (esc:=(defScope s_law_turned)) (EN:=["rule","shift"]) (N:=["part","shift"]) (n:=1) (cap:=[1]) ⟨rfl,by decide +kernel,by decide +kernel,by decide +kernel,by decide +kernel,rfl,by decide +kernel⟩ (by decide) (wc_tup (we_ix ix_seq bIx (we_var 0) we_int (fun _ _=>rfl))) rfl (fun _ _ _ _=>⟨Or.inl rfl,rfl⟩) (fun _ _ _ _=>wfs_nil) (fun _ _ _ _=>(we_call ih (hr.mono (by omega)) rfl (wa_cons (we_var 0) (wa_cons (we_var 1) wa_nil))))) wa_nil)) wa_nil))))
noncomputable def b_law_hall_8:MS:=
  (cRet (cTup (cCons (cCall (m_law_turned 12) (cCons (cVar 5) (cCons (c2 oMod (c2 oDivB (cVar 0) (cK (.int 10))) (cK (.int 6))) cNil))) (cCons (cCall (m_law_turned 12) (cCons (cVar 6) (cCons (c2 oMod (c2 oDivB (cVar 0) (cK (.int 10))) (cK (.int 6))) cNil))) cNil))))
noncomputable def b_law_hall_7:MS:=
  cSeq (cUnp [5,6] (c2 oIx (cVar 4) (c2 oMod (cVar 0) (cK (.int 10))))) b_law_hall_8
noncomputable def b_law_hall_6:MS:=
  cSeq (cSet 4 (c2 oCatL (cVar 4) (cLst (cCons (cTup (cCons (cTup (cCons (cK (.int 2)) (cCons (cTup (cCons (cK (.int 0)) (cCons (cTup (cCons (cK (.int 1)) (cCons (cTup (cCons (cK (.int 1)) (cCons (cK (.int 2)) cNil))) cNil))) cNil))) cNil))) (cCons (cTup (cCons (cK (.int 1)) (cCons (cTup (cCons (cK (.int 0)) (cCons (cTup (cCons (cK (.int 2)) (cCons (cTup (cCons (cK (.int 1)) (cCons (cK (.int 2)) cNil))) cNil))) cNil))) cNil))) cNil))) cNil)))) b_law_hall_7
noncomputable def b_law_hall_5:MS:=
  cSeq (cSet 4 (c2 oCatL (cVar 4) (cLst (cCons (cTup (cCons (cTup (cCons (cK (.int 2)) (cCons (cTup (cCons (cK (.int 0)) (cCons (cK (.int 0)) (cCons (cK (.int 1)) (cCons (cK (.int 2)) cNil))))) cNil))) (cCons (cTup (cCons (cK (.int 3)) (cCons (cTup (cCons (cK (.int 0)) (cCons (cK (.int 0)) (cCons (cK (.int 1)) (cCons (cK (.int 2)) cNil))))) cNil))) cNil))) (cCons (cTup (cCons (cTup (cCons (cK (.int 2)) (cCons (cTup (cCons (cK (.int 0)) (cCons (cK (.int 1)) cNil))) cNil))) (cCons (cTup (cCons (cK (.int 1)) (cCons (cTup (cCons (cK (.int 0)) (cCons (cK (.int 1)) cNil))) cNil))) cNil))) cNil))))) b_law_hall_6
noncomputable def b_law_hall_4:MS:=
  cSeq (cSet 4 (c2 oCatL (cVar 4) (cLst (cCons (cTup (cCons (cVar 2) (cCons (cVar 3) cNil))) (cCons (cTup (cCons (cVar 3) (cCons (cVar 2) cNil))) (cCons (cTup (cCons (cTup (cCons (cK (.int 3)) (cCons (cTup (cCons (cK (.int 0)) (cCons (cK (.int 1)) (cCons (cK (.int 2)) (cCons (cK (.int 3)) (cCons (cK (.int 4)) cNil)))))) cNil))) (cCons (cTup (cCons (cK (.int 3)) (cCons (cTup (cCons (cK (.int 4)) (cCons (cK (.int 3)) (cCons (cK (.int 2)) (cCons (cK (.int 1)) (cCons (cK (.int 0)) cNil)))))) cNil))) cNil))) cNil)))))) b_law_hall_5
noncomputable def b_law_hall_3:MS:=
  cSeq (cSet 4 (cLst (cCons (cTup (cCons (cVar 1) (cCons (cVar 1) cNil))) (cCons (cTup (cCons (cK (.int 0)) (cCons (cK (.int 0)) cNil))) (cCons (cTup (cCons (cTup (cCons (cK (.int 1)) (cCons (cTup (cCons (cK (.int 0)) (cCons (cK (.int 1)) (cCons (cK (.int 2)) cNil)))) cNil))) (cCons (cTup (cCons (cK (.int 3)) (cCons (cTup (cCons (cK (.int 0)) (cCons (cK (.int 1)) (cCons (cK (.int 2)) cNil)))) cNil))) cNil))) (cCons (cTup (cCons (cTup (cCons (cK (.int 3)) (cCons (cTup (cCons (cK (.int 0)) (cCons (cK (.int 1)) (cCons (cK (.int 2)) cNil)))) cNil))) (cCons (cTup (cCons (cK (.int 1)) (cCons (cTup (cCons (cK (.int 0)) (cCons (cK (.int 1)) (cCons (cK (.int 2)) cNil)))) cNil))) cNil))) cNil)))))) b_law_hall_4
noncomputable def b_law_hall_2:MS:=
  cSeq (cSet 3 (cTup (cCons (cK (.int 2)) (cCons (cTup (cCons (cTup (cCons (cK (.int 1)) (cCons (cTup (cCons (cK (.int 0)) (cCons (cK (.int 1)) cNil))) cNil))) (cCons (cTup (cCons (cK (.int 1)) (cCons (cTup (cCons (cK (.int 2)) (cCons (cK (.int 3)) cNil))) cNil))) cNil))) cNil)))) b_law_hall_3
noncomputable def b_law_hall_1:MS:=
  cSeq (cSet 2 (cTup (cCons (cK (.int 1)) (cCons (cTup (cCons (cTup (cCons (cK (.int 2)) (cCons (cTup (cCons (cK (.int 0)) (cCons (cK (.int 1)) cNil))) cNil))) (cCons (cTup (cCons (cK (.int 2)) (cCons (cTup (cCons (cK (.int 2)) (cCons (cK (.int 3)) cNil))) cNil))) cNil))) cNil)))) b_law_hall_2
noncomputable def b_law_hall:MS:=
  cSeq (cSet 1 (cTup (cCons (cK (.int 2)) (cCons (cTup (cCons (cK (.int 0)) (cCons (cK (.int 1)) (cCons (cK (.int 2)) cNil)))) cNil)))) b_law_hall_1
noncomputable def m_law_hall:MF:=fnOf 1 7 b_law_hall
theorem has_law_hall(T:Txt P w K mg):Has P w K mg base "_law_hall" ["cell"] 14 (spF K mg m_law_hall):=by
 show Has P w K mg base _ _ _ (spF K mg (fnOf 1 7 b_law_hall))
 refine has_of (k:=13) T.d_law_hall sc_law_hall rfl rfl fun f cdv A outer s H E hr=>?_
 have hu:=hr.units
 refine @WSs.un _ _ _ _ ?_
 refine @wss_cons _ _ _ _ _ _ ?_ (@wss_cons _ _ _ _ _ _ ?_ (@wss_cons _ _ _ _ _ _ ?_ (@wss_cons _ _ _ _ _ _ ?_ (@wss_cons _ _ _ _ _ _ ?_ (@wss_cons _ _ _ _ _ _ ?_ (@wss_cons _ _ _ _ _ _ ?_ (@wss_cons _ _ _ _ _ _ ?_ (@wss_one _ _ _ _ ?_))))))))
 ·exact(ws_set (i:=1) sc_law_hall.nd rfl (Or.inl rfl) (we_tup (wa_cons we_int (wa_cons (we_tup (wa_cons we_int (wa_cons we_int (wa_cons we_int wa_nil)))) wa_nil))))
 ·exact(ws_set (i:=2) sc_law_hall.nd rfl (Or.inl rfl) (we_tup (wa_cons we_int (wa_cons (we_tup (wa_cons (we_tup (wa_cons we_int (wa_cons (we_tup (wa_cons we_int (wa_cons we_int wa_nil))) wa_nil))) (wa_cons (we_tup (wa_cons we_int (wa_cons (we_tup (wa_cons we_int (wa_cons we_int wa_nil))) wa_nil))) wa_nil))) wa_nil))))
 ·exact(ws_set (i:=3) sc_law_hall.nd rfl (Or.inl rfl) (we_tup (wa_cons we_int (wa_cons (we_tup (wa_cons (we_tup (wa_cons we_int (wa_cons (we_tup (wa_cons we_int (wa_cons we_int wa_nil))) wa_nil))) (wa_cons (we_tup (wa_cons we_int (wa_cons (we_tup (wa_cons we_int (wa_cons we_int wa_nil))) wa_nil))) wa_nil))) wa_nil))))
 ·exact(ws_set (i:=4) sc_law_hall.nd rfl (Or.inl rfl) (we_lst (wa_cons (we_tup (wa_cons (we_var 1) (wa_cons (we_var 1) wa_nil))) (wa_cons (we_tup (wa_cons we_int (wa_cons we_int wa_nil))) (wa_cons (we_tup (wa_cons (we_tup (wa_cons we_int (wa_cons (we_tup (wa_cons we_int (wa_cons we_int (wa_cons we_int wa_nil)))) wa_nil))) (wa_cons (we_tup (wa_cons we_int (wa_cons (we_tup (wa_cons we_int (wa_cons we_int (wa_cons we_int wa_nil)))) wa_nil))) wa_nil))) (wa_cons (we_tup (wa_cons (we_tup (wa_cons we_int (wa_cons (we_tup (wa_cons we_int (wa_cons we_int (wa_cons we_int wa_nil)))) wa_nil))) (wa_cons (we_tup (wa_cons we_int (wa_cons (we_tup (wa_cons we_int (wa_cons we_int (wa_cons we_int wa_nil)))) wa_nil))) wa_nil))) wa_nil))))))
 ·exact(ws_set (i:=4) sc_law_hall.nd rfl (Or.inl rfl) (we_op op_cat bCatL (we_var 4) (we_lst (wa_cons (we_tup (wa_cons (we_var 2) (wa_cons (we_var 3) wa_nil))) (wa_cons (we_tup (wa_cons (we_var 3) (wa_cons (we_var 2) wa_nil))) (wa_cons (we_tup (wa_cons (we_tup (wa_cons we_int (wa_cons (we_tup (wa_cons we_int (wa_cons we_int (wa_cons we_int (wa_cons we_int (wa_cons we_int wa_nil)))))) wa_nil))) (wa_cons (we_tup (wa_cons we_int (wa_cons (we_tup (wa_cons we_int (wa_cons we_int (wa_cons we_int (wa_cons we_int (wa_cons we_int wa_nil)))))) wa_nil))) wa_nil))) wa_nil))))))
 ·exact(ws_set (i:=4) sc_law_hall.nd rfl (Or.inl rfl) (we_op op_cat bCatL (we_var 4) (we_lst (wa_cons (we_tup (wa_cons (we_tup (wa_cons we_int (wa_cons (we_tup (wa_cons we_int (wa_cons we_int (wa_cons we_int (wa_cons we_int wa_nil))))) wa_nil))) (wa_cons (we_tup (wa_cons we_int (wa_cons (we_tup (wa_cons we_int (wa_cons we_int (wa_cons we_int (wa_cons we_int wa_nil))))) wa_nil))) wa_nil))) (wa_cons (we_tup (wa_cons (we_tup (wa_cons we_int (wa_cons (we_tup (wa_cons we_int (wa_cons we_int wa_nil))) wa_nil))) (wa_cons (we_tup (wa_cons we_int (wa_cons (we_tup (wa_cons we_int (wa_cons we_int wa_nil))) wa_nil))) wa_nil))) wa_nil)))))
 ·exact(ws_set (i:=4) sc_law_hall.nd rfl (Or.inl rfl) (we_op op_cat bCatL (we_var 4) (we_lst (wa_cons (we_tup (wa_cons (we_tup (wa_cons we_int (wa_cons (we_tup (wa_cons we_int (wa_cons (we_tup (wa_cons we_int (wa_cons (we_tup (wa_cons we_int (wa_cons we_int wa_nil))) wa_nil))) wa_nil))) wa_nil))) (wa_cons (we_tup (wa_cons we_int (wa_cons (we_tup (wa_cons we_int (wa_cons (we_tup (wa_cons we_int (wa_cons (we_tup (wa_cons we_int (wa_cons we_int wa_nil))) wa_nil))) wa_nil))) wa_nil))) wa_nil))) wa_nil))))
 ·exact(ws_unp rfl (pgs_names_cons sc_law_hall.nd rfl (Or.inl rfl) (pgs_names_cons sc_law_hall.nd rfl (Or.inl rfl) pgs_names_nil)) (we_ix ix_seq bIx (we_var 4) (we_op op_mod bMod (we_var 0) we_int) (fun _ _=>rfl)))
 ·exact(ws_ret (we_tup (wa_cons (we_call (has_law_turned T 12) (hr.mono (by omega)) rfl (wa_cons (we_var 5) (wa_cons (we_op op_mod bMod (we_op op_fdivB bDivB (we_var 0) we_int) we_int) wa_nil))) (wa_cons (we_call (has_law_turned T 12) (hr.mono (by omega)) rfl (wa_cons (we_var 6) (wa_cons (we_op op_mod bMod (we_op op_fdivB bDivB (we_var 0) we_int) we_int) wa_nil))) wa_nil))))
noncomputable def l_law_named_0(self:MF):MS:=
  (cSet 1 (c2 oCatL (cVar 1) (cCall self (cCons (cVar 2) cNil))))
noncomputable def b_law_named_3(self:MF):MS:=
  (cRet (cVar 1))
noncomputable def b_law_named_2(self:MF):MS:=
  cSeq (cFor 2 (iT (c2 oIx (cVar 0) (cK (.int 1)))) (l_law_named_0 self)) (b_law_named_3 self)
noncomputable def b_law_named_1(self:MF):MS:=
  cSeq (cSet 1 (cLst cNil)) (b_law_named_2 self)
noncomputable def b_law_named(self:MF):MS:=
  cSeq (cIfS (tNotM (cT (cB fIsi (cCons (cVar 0) (cCons (cK (.ty "tuple")) cNil))))) (cRet (cLst (cCons (cVar 0) cNil))) cPass) (b_law_named_1 self)
noncomputable def m_law_named:Nat→MF
 |0=>fun _=>bad
 |n+1=>fnOf 1 3 (b_law_named (m_law_named n))
theorem has_law_named(T:Txt P w K mg):∀n,Has P w K mg base "_law_named" ["rule"] (n+1) (spF K mg (m_law_named n))
 | 0=>T.d_law_named.none (by rintro vs H Q E ⟨O,ds,r,S',_,_,h,_⟩;cases h)
 |n+1=>by
  have ih:Has P w K mg base "_law_named" ["rule"] (n+1) (spF K mg (m_law_named n)):=has_law_named T n
  show Has P w K mg base _ _ _ (spF K mg (fnOf 1 3 (b_law_named (m_law_named n))))
  refine(has_of (k:=n+1) T.d_law_named sc_law_named rfl rfl fun f cdv A outer s H E hr=>?_).mono (by omega)
  have hu:=hr.units
  refine @WSs.un _ _ _ _ ?_
  refine @wss_cons _ _ _ _ _ _ ?_ (@wss_cons _ _ _ _ _ _ ?_ (@wss_cons _ _ _ _ _ _ ?_ (@wss_one _ _ _ _ ?_)))
  ·exact(ws_if (wt_not (wt_val (we_callB (call_isi T.kt) kIsi rfl T.B.isinstance bt_isinstance (wa_cons (we_var 0) (wa_cons (we_k (pe_bltn (v:=.ty "tuple") rfl T.B.tuple' bt_tuple rfl) fun _ _=>rfl) wa_nil))))) (wss_one (ws_ret (we_lst (wa_cons (we_var 0) wa_nil)))) wss_nil)
  ·exact(ws_set (i:=1) sc_law_named.nd rfl (Or.inl rfl) (we_lst wa_nil))
  ·exact(ws_for (i:=2) PassesOwn.never rfl (wf_tup (we_ix ix_seq bIx (we_var 0) we_int (fun _ _=>rfl))) sc_law_named.nd rfl (Or.inl rfl) (wss_one (ws_set (i:=1) sc_law_named.nd rfl (Or.inl rfl) (we_op op_cat bCatL (we_var 1) (we_call ih (hr.mono (by omega)) rfl (wa_cons (we_var 2) wa_nil))))))
  ·exact(ws_ret (we_var 1))
noncomputable def b_law_members_1:MS:=
  (cRet (cComp 1 [1] (iR1 (cCons (cK (.int 6)) cNil)) (cT (c2 (oIn false) (cVar 0) (cVar 1))) (cVar 0)))
noncomputable def b_law_members:MS:=
  cSeq (cSet 1 (c2 oCatL (cCall (m_law_named 12) (cCons (c2 oIx (cVar 0) (cK (.int 0))) cNil)) (cCall (m_law_named 12) (cCons (c2 oIx (cVar 0) (cK (.int 1))) cNil)))) b_law_members_1
noncomputable def m_law_members:MF:=fnOf 1 2 b_law_members
theorem has_law_members(T:Txt P w K mg):Has P w K mg base "_law_members" ["hall"] 14 (spF K mg m_law_members):=by
 show Has P w K mg base _ _ _ (spF K mg (fnOf 1 2 b_law_members))
 refine has_of (k:=13) T.d_law_members sc_law_members rfl rfl fun f cdv A outer s H E hr=>?_
 have hu:=hr.units
 refine @WSs.un _ _ _ _ ?_
 refine @wss_cons _ _ _ _ _ _ ?_ (@wss_one _ _ _ _ ?_)
 ·exact(ws_set (i:=1) sc_law_members.nd rfl (Or.inr rfl) (we_op op_cat bCatL (we_call (has_law_named T 12) (hr.mono (by omega)) rfl (wa_cons (we_ix ix_seq bIx (we_var 0) we_int (fun _ _=>rfl)) wa_nil)) (we_call (has_law_named T 12) (hr.mono (by omega)) rfl (wa_cons (we_ix ix_seq bIx (we_var 0) we_int (fun _ _=>rfl)) wa_nil))))
 ·exact(ws_ret (we_comp (esc:=(defScope s_law_members)) (EN:=["hall","there"]) (N:=["k","there"]) (n:=1) (cap:=[1]) ⟨rfl,by decide +kernel,by decide +kernel,by decide +kernel,by decide +kernel,rfl,by decide +kernel⟩ (by decide) (wc_range1 rfl T.B.range (wa_cons we_int wa_nil)) rfl (fun _ _ _ _=>⟨Or.inl rfl,rfl⟩) (fun _ _ _ _=>(wfs_one (wt_cmp op_in_seq (bIn false) (we_var 0) (we_var 1) rfl))) (fun _ _ _ _=>(we_var 0))))
noncomputable def l_law_name_0:MS:=
  (cIfS (cT (c2 oEq (cVar 4) (cVar 2))) (cSet 3 (c2 oCatS (cVar 3) (c2 oIx (cK (.str "abcdefghijklmnopqrstuvwxyz")) (c2 oMod (c2 oDivB (cVar 0) (cK (.int 64))) (cK (.int 26)))))) (cSet 3 (c2 oCatS (cVar 3) (cK (.str "m")))))
noncomputable def b_law_name_4:MS:=
  (cRet (cVar 3))
noncomputable def b_law_name_3:MS:=
  cSeq (cFor 4 (iR1 (cCons (cVar 1) cNil)) l_law_name_0) b_law_name_4
noncomputable def b_law_name_2:MS:=
  cSeq (cSet 3 (cK (.str ""))) b_law_name_3
noncomputable def b_law_name_1:MS:=
  cSeq (cSet 2 (c2 oMod (c2 oDivB (cVar 0) (cK (.int 8))) (cVar 1))) b_law_name_2
noncomputable def b_law_name:MS:=
  cSeq (cSet 1 (c2 oAdd (cK (.int 1)) (c2 oMod (cVar 0) (cK (.int 8))))) b_law_name_1
noncomputable def m_law_name:MF:=fnOf 1 5 b_law_name
theorem has_law_name(T:Txt P w K mg):Has P w K mg base "_law_name" ["cell"] 1 (spF K mg m_law_name):=by
 show Has P w K mg base _ _ _ (spF K mg (fnOf 1 5 b_law_name))
 refine has_of (k:=0) T.d_law_name sc_law_name rfl rfl fun f cdv A outer s H E hr=>?_
 have hu:=hr.units
 refine @WSs.un _ _ _ _ ?_
 refine @wss_cons _ _ _ _ _ _ ?_ (@wss_cons _ _ _ _ _ _ ?_ (@wss_cons _ _ _ _ _ _ ?_ (@wss_cons _ _ _ _ _ _ ?_ (@wss_one _ _ _ _ ?_))))
 ·exact(ws_set (i:=1) sc_law_name.nd rfl (Or.inl rfl) (we_op op_add bAdd we_int (we_op op_mod bMod (we_var 0) we_int)))
 ·exact(ws_set (i:=2) sc_law_name.nd rfl (Or.inl rfl) (we_op op_mod bMod (we_op op_fdivB bDivB (we_var 0) we_int) (we_var 1)))
 ·exact(ws_set (i:=3) sc_law_name.nd rfl (Or.inl rfl) we_str)
 ·exact(ws_for (i:=4) PassesOwn.never rfl (wf_range1 rfl T.B.range (wa_cons (we_var 1) wa_nil)) sc_law_name.nd rfl (Or.inl rfl) (wss_one (ws_if (wt_cmp (op_eqD hu) bEq (we_var 4) (we_var 2) (nomark _)) (wss_one (ws_set (i:=3) sc_law_name.nd rfl (Or.inl rfl) (we_op op_add_str bCatS (we_var 3) (we_ix ix_seq bIx we_str (we_op op_mod bMod (we_op op_fdivB bDivB (we_var 0) we_int) we_int) (fun _ _=>rfl))))) (wss_one (ws_set (i:=3) sc_law_name.nd rfl (Or.inl rfl) (we_op op_add_str bCatS (we_var 3) we_str))))))
 ·exact(ws_ret (we_var 3))
noncomputable def b_law_deed_2:MS:=
  (cRet (cTup (cCons (c2 oIx (cLst (cCons (cK (.str "put")) (cCons (cK (.str "add")) (cCons (cK (.str "add")) cNil)))) (c2 oMod (cVar 0) (cK (.int 3)))) (cCons (cCall m_law_name (cCons (c2 oAdd (cVar 1) (c2 oMulB (cK (.int 64)) (c2 oMod (c2 oDivB (cVar 0) (cK (.int 6))) (cK (.int 3))))) cNil)) (cCons (cVar 2) cNil)))))
noncomputable def b_law_deed_1:MS:=
  cSeq (cIfS (cT (c2 oEq (c2 oMod (cVar 0) (cK (.int 5))) (cK (.int 0)))) (cSet 2 (c2 oSub (cK (.int 0)) (cVar 2))) cPass) b_law_deed_2
noncomputable def b_law_deed:MS:=
  cSeq (cSet 2 (c2 oMod (c2 oDivB (cVar 0) (cK (.int 6))) (c2 oPow (cK (.int 10)) (cK (.int 40))))) b_law_deed_1
noncomputable def m_law_deed:MF:=fnOf 2 3 b_law_deed
theorem has_law_deed(T:Txt P w K mg):Has P w K mg base "_law_deed" ["cell","seed"] 2 (spF K mg m_law_deed):=by
 show Has P w K mg base _ _ _ (spF K mg (fnOf 2 3 b_law_deed))
 refine has_of (k:=1) T.d_law_deed sc_law_deed rfl rfl fun f cdv A outer s H E hr=>?_
 have hu:=hr.units
 refine @WSs.un _ _ _ _ ?_
 refine @wss_cons _ _ _ _ _ _ ?_ (@wss_cons _ _ _ _ _ _ ?_ (@wss_one _ _ _ _ ?_))
 ·exact(ws_set (i:=2) sc_law_deed.nd rfl (Or.inl rfl) (we_op op_mod bMod (we_op op_fdivB bDivB (we_var 0) we_int) (we_op op_pow bPow we_int we_int)))
 ·exact(ws_if (wt_cmp (op_eqD hu) bEq (we_op op_mod bMod (we_var 0) we_int) we_int (nomark _)) (wss_one (ws_set (i:=2) sc_law_deed.nd rfl (Or.inl rfl) (we_op op_sub bSub we_int (we_var 2)))) wss_nil)
 ·exact(ws_ret (we_tup (wa_cons (we_ix ix_seq bIx (we_lst (wa_cons we_str (wa_cons we_str (wa_cons we_str wa_nil)))) (we_op op_mod bMod (we_var 0) we_int) (fun _ _=>rfl)) (wa_cons (we_call (has_law_name T) (hr.mono (by omega)) rfl (wa_cons (we_op op_add bAdd (we_var 1) (we_op op_mulB bMulB we_int (we_op op_mod bMod (we_op op_fdivB bDivB (we_var 0) we_int) we_int))) wa_nil)) (wa_cons (we_var 2) wa_nil)))))
noncomputable def b_law_asks:MS:=
  (cRet (cComp 1 [0,2] (iLc (cCall m_law_members (cCons (cVar 1) cNil))) tYes (cTup (cCons (cK (.str "ask")) (cCons (cVar 1) (cCons (cVar 0) (cCons (cK (.int 0)) (cCons (cVar 2) (cCons (cTup cNil) cNil)))))))))
noncomputable def m_law_asks:MF:=fnOf 3 3 b_law_asks
theorem has_law_asks(T:Txt P w K mg):Has P w K mg base "_law_asks" ["me","hall","stamp"] 15 (spF K mg m_law_asks):=by
 show Has P w K mg base _ _ _ (spF K mg (fnOf 3 3 b_law_asks))
 refine has_of (k:=14) T.d_law_asks sc_law_asks rfl rfl fun f cdv A outer s H E hr=>?_
 have hu:=hr.units
 refine @WSs.un _ _ _ _ ?_
 refine @wss_one _ _ _ _ ?_
 ·exact(ws_ret (we_comp (esc:=(defScope s_law_asks)) (EN:=["me","hall","stamp"]) (N:=["keeper","me","stamp"]) (n:=1) (cap:=[0,2]) ⟨rfl,by decide +kernel,by decide +kernel,by decide +kernel,by decide +kernel,rfl,by decide +kernel⟩ (by decide) (wc_list (we_call (has_law_members T) (hr.mono (by omega)) rfl (wa_cons (we_var 1) wa_nil))) rfl (fun _ _ _ _=>⟨Or.inl rfl,rfl⟩) (fun _ _ _ _=>wfs_nil) (fun _ _ _ _=>(we_tup (wa_cons we_str (wa_cons (we_var 1) (wa_cons (we_var 0) (wa_cons we_int (wa_cons (we_var 2) (wa_cons (we_tup wa_nil) wa_nil))))))))))
noncomputable def b_law_stands_2:MS:=
  (cRet (cCall (m_law_same 14) (cCons (cVar 6) (cCons (cLst (cCons (cVar 4) (cCons (cVar 2) (cCons (cVar 3) (cCons (cK (.non)) (cCons (cVar 5) (cCons (cK (.bl false)) cNil))))))) cNil))))
noncomputable def b_law_stands_1:MS:=
  cSeq (cSet 6 (cLst (cCons (cTV (pVar 0) "Asker" ns_Asker m_Asker_stand cNil) (cCons (cTV (pVar 0) "Asker" ns_Asker m_Asker_stamp cNil) (cCons (cTV (pVar 0) "Asker" ns_Asker m_Asker_number cNil) (cCons (cTV (pVar 0) "Asker" ns_Asker m_Asker_outcome cNil) (cCons (cTV (pVar 0) "Asker" ns_Asker m_Asker_place cNil) (cCons (cTV (pVar 0) "Asker" ns_Asker m_Asker_knows_over cNil) cNil)))))))) b_law_stands_2
noncomputable def b_law_stands:MS:=
  cSeq (cSet 5 (cTup (cCons (cK (.int 0)) (cCons (cVar 1) (cCons (cTup (cCons (cTup cNil) (cCons (cTup cNil) (cCons (cTup (cCons (cK (.int 0)) (cCons (cK (.non)) cNil))) (cCons (cK (.non)) cNil))))) cNil))))) b_law_stands_1
noncomputable def m_law_stands:MTV:=fnTV 5 7 b_law_stands
theorem has_law_stands(T:Txt P w K mg):Has P w K mg base "_law_stands" ["one","hall","stamp","number","stand"] 16 (spTV K mg m_law_stands):=by
 show Has P w K mg base _ _ _ (spTV K mg (fnTV 5 7 b_law_stands))
 refine has_tv (k:=15) T.d_law_stands sc_law_stands rfl rfl fun f cdv A outer s H E hr=>?_
 have hu:=hr.units
 refine @WSs.un _ _ _ _ ?_
 refine @wss_cons _ _ _ _ _ _ ?_ (@wss_cons _ _ _ _ _ _ ?_ (@wss_one _ _ _ _ ?_))
 ·exact(ws_set (i:=5) sc_law_stands.nd rfl (Or.inl rfl) (we_tup (wa_cons we_int (wa_cons (we_var 1) (wa_cons (we_tup (wa_cons (we_tup wa_nil) (wa_cons (we_tup wa_nil) (wa_cons (we_tup (wa_cons we_int (wa_cons we_non wa_nil))) (wa_cons we_non wa_nil))))) wa_nil)))))
 ·exact(ws_set (i:=6) sc_law_stands.nd rfl (Or.inl rfl) (we_lst (wa_cons (we_tv0 (has_Asker_stand T) ns_Asker (hr.mono (by omega)) (wp_var 0)) (wa_cons (we_tv0 (has_Asker_stamp T) ns_Asker (hr.mono (by omega)) (wp_var 0)) (wa_cons (we_tv0 (has_Asker_number T) ns_Asker (hr.mono (by omega)) (wp_var 0)) (wa_cons (we_tv0 (has_Asker_outcome T) ns_Asker (hr.mono (by omega)) (wp_var 0)) (wa_cons (we_tv0 (has_Asker_place T) ns_Asker (hr.mono (by omega)) (wp_var 0)) (wa_cons (we_tv0 (has_Asker_knows_over T) ns_Asker (hr.mono (by omega)) (wp_var 0)) wa_nil))))))))
 ·exact(ws_ret (we_call (has_law_same T 14) (hr.mono (by omega)) rfl (wa_cons (we_var 6) (wa_cons (we_lst (wa_cons (we_var 4) (wa_cons (we_var 2) (wa_cons (we_var 3) (wa_cons we_non (wa_cons (we_var 5) (wa_cons we_bl wa_nil))))))) wa_nil))))
noncomputable def b_law_begun:MSr:=
  (rSeq (rOf (cSet 3 (cCall m_law_cell_at (cCons (cVar 1) (cCons (cK (.int 3)) cNil)))))
  (rSeq (rIf (cT (c2 oEq (c2 oMod (cVar 3) (cK (.int 3))) (cK (.int 0)))) (rRetG (gTQ (pVar 0) "Asker" ns_Asker m_Asker_begin (cCons (cK .non) cNil))) rPass)
  (rSeq (rIf (cT (c2 oEq (c2 oMod (cVar 3) (cK (.int 3))) (cK (.int 1)))) (rRetG (gTQ (pVar 0) "Asker" ns_Asker m_Asker_begin (cCons (cK (.non)) cNil))) rPass)
  (rRetG (gTQ (pVar 0) "Asker" ns_Asker m_Asker_begin (cCons (cCall m_law_deed (cCons (c2 oMod (c2 oDivB (cVar 3) (cK (.int 3))) (c2 oPow (cK (.int 10)) (cK (.int 50)))) (cCons (cVar 2) cNil))) cNil))))))
noncomputable def m_law_begun:MTQ:=fnTQ 1 3 4 b_law_begun
theorem has_law_begun(T:Txt P w K mg):Has P w K mg base "_law_begun" ["one","script","seed"] 22 (spTQ K mg m_law_begun):=by
 show Has P w K mg base _ _ _ (spTQ K mg (fnTQ 1 3 4 b_law_begun))
 refine has_tq (k:=21) T.d_law_begun sc_law_begun rfl rfl fun f cdv A outer s H E hr=>?_
 have hu:=hr.units
 exact(rqs_cons (rq_of (ws_set (i:=3) sc_law_begun.nd rfl (Or.inl rfl) (we_call (has_law_cell_at T) (hr.mono (by omega)) rfl (wa_cons (we_var 1) (wa_cons we_int wa_nil)))))
  (rqs_cons (rq_if (wt_cmp (op_eqD hu) bEq (we_op op_mod bMod (we_var 3) we_int) we_int (nomark _)) (rqs_one (rq_retG (wg_tqN (A:=ns_Asker) (has_Asker_begin T) (hr.mono (by omega)) (wp_var 0)))) rqs_nil)
  (rqs_cons (rq_if (wt_cmp (op_eqD hu) bEq (we_op op_mod bMod (we_var 3) we_int) we_int (nomark _)) (rqs_one (rq_retG (wg_tq (has_Asker_begin T).all ns_Asker (hr.mono (by omega)) (wp_var 0) (wa_cons we_non wa_nil)))) rqs_nil)
  (rqs_one (rq_retG (wg_tq (has_Asker_begin T).all ns_Asker (hr.mono (by omega)) (wp_var 0) (wa_cons (we_call (has_law_deed T) (hr.mono (by omega)) rfl (wa_cons (we_op op_mod bMod (we_op op_fdivB bDivB (we_var 3) we_int) (we_op op_pow bPow we_int we_int)) (wa_cons (we_var 2) wa_nil))) wa_nil)))))))
noncomputable def b_law_late_4:MS:=
  (cRet (cTup (cCons (cK (.str "late")) (cCons (c2 oIx (cVar 4) (c2 oMod (c2 oDivB (cVar 3) (cK (.int 3))) (cB fLen (cCons (cVar 4) cNil)))) (cCons (cVar 0) (cCons (cK (.int 0)) (cCons (cVar 2) (cCons (cTup (cCons (cVar 6) cNil)) cNil))))))))
noncomputable def b_law_late_3:MS:=
  cSeq (cIfS (cT (c2 oEq (cVar 5) (cK (.int 0)))) (cSet 6 (cTup (cCons (c2 oIx (cVar 2) (cK (.int 0))) (cCons (c2 oAdd (cVar 0) (c2 oMod (c2 oDivB (cVar 3) (cK (.int 12))) (c2 oSub (cK (.int 6)) (cVar 0)))) cNil)))) cPass) b_law_late_4
noncomputable def b_law_late_2:MS:=
  cSeq (cSet 6 (cTup (cCons (c2 oAdd (c2 oIx (cVar 2) (cK (.int 0))) (cVar 5)) (cCons (c2 oMod (c2 oDivB (cVar 3) (cK (.int 12))) (cK (.int 6))) cNil)))) b_law_late_3
noncomputable def b_law_late_1:MS:=
  cSeq (cSet 5 (c2 oIx (cLst (cCons (cK (.int 0)) (cCons (cK (.int 1)) (cCons (cK (.int 2)) (cCons (c2 oMod (c2 oDivB (cVar 3) (cK (.int 72))) (c2 oPow (cK (.int 10)) (cK (.int 20)))) cNil))))) (c2 oMod (c2 oDivB (cVar 3) (cK (.int 18))) (cK (.int 4))))) b_law_late_2
noncomputable def b_law_late:MS:=
  cSeq (cSet 4 (cCall m_law_members (cCons (cVar 1) cNil))) b_law_late_1
noncomputable def m_law_late:MF:=fnOf 4 7 b_law_late
theorem has_law_late(T:Txt P w K mg):Has P w K mg base "_law_late" ["me","hall","stamp","cell"] 15 (spF K mg m_law_late):=by
 show Has P w K mg base _ _ _ (spF K mg (fnOf 4 7 b_law_late))
 refine has_of (k:=14) T.d_law_late sc_law_late rfl rfl fun f cdv A outer s H E hr=>?_
 have hu:=hr.units
 refine @WSs.un _ _ _ _ ?_
 refine @wss_cons _ _ _ _ _ _ ?_ (@wss_cons _ _ _ _ _ _ ?_ (@wss_cons _ _ _ _ _ _ ?_ (@wss_cons _ _ _ _ _ _ ?_ (@wss_one _ _ _ _ ?_))))
 ·exact(ws_set (i:=4) sc_law_late.nd rfl (Or.inl rfl) (we_call (has_law_members T) (hr.mono (by omega)) rfl (wa_cons (we_var 1) wa_nil)))
 ·exact(ws_set (i:=5) sc_law_late.nd rfl (Or.inl rfl) (we_ix ix_seq bIx (we_lst (wa_cons we_int (wa_cons we_int (wa_cons we_int (wa_cons (we_op op_mod bMod (we_op op_fdivB bDivB (we_var 3) we_int) (we_op op_pow bPow we_int we_int)) wa_nil))))) (we_op op_mod bMod (we_op op_fdivB bDivB (we_var 3) we_int) we_int) (fun _ _=>rfl)))
 ·exact(ws_set (i:=6) sc_law_late.nd rfl (Or.inl rfl) (we_tup (wa_cons (we_op op_add bAdd (we_ix ix_seq bIx (we_var 2) we_int (fun _ _=>rfl)) (we_var 5)) (wa_cons (we_op op_mod bMod (we_op op_fdivB bDivB (we_var 3) we_int) we_int) wa_nil))))
 ·exact(ws_if (wt_cmp (op_eqD hu) bEq (we_var 5) we_int (nomark _)) (wss_one (ws_set (i:=6) sc_law_late.nd rfl (Or.inl rfl) (we_tup (wa_cons (we_ix ix_seq bIx (we_var 2) we_int (fun _ _=>rfl)) (wa_cons (we_op op_add bAdd (we_var 0) (we_op op_mod bMod (we_op op_fdivB bDivB (we_var 3) we_int) (we_op op_sub bSub we_int (we_var 0)))) wa_nil))))) wss_nil)
 ·exact(ws_ret (we_tup (wa_cons we_str (wa_cons (we_ix ix_seq bIx (we_var 4) (we_op op_mod bMod (we_op op_fdivB bDivB (we_var 3) we_int) (we_callB call_len_seq kLen rfl T.B.len bt_len (wa_cons (we_var 4) wa_nil))) (fun _ _=>rfl)) (wa_cons (we_var 0) (wa_cons we_int (wa_cons (we_var 2) (wa_cons (we_tup (wa_cons (we_var 6) wa_nil)) wa_nil))))))))
noncomputable def l_law_0:MS:=
  (cSeq (cMutS 4 uAppend (cCons (cK (.int 0)) cNil))
  (cSeq (cIfS (cT (c2 oEq (c2 oMod (cVar 7) (cK (.int 3))) (cK (.int 0)))) (cSeq (cSet 5 (c2 oAdd (cVar 5) (cK (.int 1))))
  (cSeq (cMutS 6 uAppend (cCons (cTup (cCons (cVar 5) (cCons (cVar 2) cNil))) cNil))
  (cSeq (cOwnG 4 (gTQ (pVar 3) "Asker" ns_Asker m_Asker_bell cNil))
  (cIfS (tNotM (cT (cCall (m_law_same 14) (cCons (cVar 4) (cCons (cCall m_law_asks (cCons (cVar 2) (cCons (cVar 1) (cCons (cTup (cCons (cVar 5) (cCons (cVar 2) cNil))) cNil)))) cNil))))) (cRet (cK (.bl false))) cPass)))) (cSeq (cSet 8 (cCall m_law_late (cCons (cVar 2) (cCons (cVar 1) (cCons (c2 oIx (cVar 6) (c2 oMod (c2 oDivB (cVar 7) (cK (.int 3))) (cB fLen (cCons (cVar 6) cNil)))) (cCons (c2 oMod (cVar 7) (c2 oPow (cK (.int 10)) (cK (.int 60)))) cNil))))))
  (cSeq (cSet 5 (cB fMax2 (cCons (cVar 5) (cCons (c2 oIx (c2 oIx (c2 oIx (cVar 8) (cK (.int 5))) (cK (.int 0))) (cK (.int 0))) cNil))))
  (cSeq (cOwnG 4 (gTQ (pVar 3) "Asker" ns_Asker m_Asker_hear (cCons (cVar 8) cNil)))
  (cIfS (tNotM (cT (cCall (m_law_same 14) (cCons (cVar 4) (cCons (cLst cNil) cNil))))) (cRet (cK (.bl false))) cPass)))))
  (cIfS (tNotM (cT (cTVf 3 m_law_stands (cCons (cVar 1) (cCons (c2 oIx (cVar 6) (c1 oNeg (cK (.int 1)))) (cCons (cK (.int 1)) (cCons (cK (.str "asking")) cNil))))))) (cRet (cK (.bl false))) cPass)))
noncomputable def b_law_9:MS:=
  (cRet (cK (.bl true)))
noncomputable def b_law_8:MS:=
  cSeq (cFor 7 (iL (cSl (cVar 0) (cPart (cK (.int 4))) cNoPart)) l_law_0) b_law_9
noncomputable def b_law_7:MS:=
  cSeq (cIfS (tOrM (tNotM (cT (cCall (m_law_same 14) (cCons (cVar 4) (cCons (cCall m_law_asks (cCons (cVar 2) (cCons (cVar 1) (cCons (cTup (cCons (cK (.int 1)) (cCons (cVar 2) cNil))) cNil)))) cNil))))) (tNotM (cT (cTVf 3 m_law_stands (cCons (cVar 1) (cCons (cTup (cCons (cK (.int 1)) (cCons (cVar 2) cNil))) (cCons (cK (.int 1)) (cCons (cK (.str "asking")) cNil)))))))) (cRet (cK (.bl false))) cPass) b_law_8
noncomputable def b_law_6:MS:=
  cSeq (cOwn 6 (cLst (cCons (cTup (cCons (cK (.int 1)) (cCons (cVar 2) cNil))) cNil))) b_law_7
noncomputable def b_law_5:MS:=
  cSeq (cSet 5 (cK (.int 1))) b_law_6
noncomputable def b_law_4:MS:=
  cSeq (cOwnG 4 (gFQ 3 m_law_begun (cCons (cVar 0) (cCons (c2 oMod (cCall m_law_cell_at (cCons (cVar 0) (cCons (cK (.int 2)) cNil))) (cK (.int 512))) cNil)))) b_law_5
noncomputable def b_law_3:MS:=
  cSeq (cIfG (tgOr (tgNot (tgV (gCall (m_law_same 14) (gaCons (gTQ (pVar 3) "Asker" ns_Asker m_Asker_bell cNil) (gaCons (gOf (cLst cNil)) gaNil))))) (tgE (tNotM (cT (cTVf 3 m_law_stands (cCons (cVar 1) (cCons (cTup (cCons (cK (.int 0)) (cCons (cK (.int 0)) cNil))) (cCons (cK (.int 0)) (cCons (cK (.str "calm")) cNil))))))))) (cRet (cK (.bl false))) cPass) b_law_4
noncomputable def b_law_2:MS:=
  cSeq (cTSet 3 (vMake "Asker" m_Asker___init__ (cCons (cVar 2) (cCons (cVar 1) cNil)))) b_law_3
noncomputable def b_law_1:MS:=
  cSeq (cSet 2 (c2 oMod (cCall m_law_cell_at (cCons (cVar 0) (cCons (cK (.int 1)) cNil))) (cK (.int 6)))) b_law_2
noncomputable def b_law:MS:=
  cSeq (cSet 1 (cCall m_law_hall (cCons (c2 oMod (cCall m_law_cell_at (cCons (cVar 0) (cCons (cK (.int 0)) cNil))) (cK (.int 600))) cNil))) b_law_1
noncomputable def m_law:MF:=fnOf 1 9 b_law
theorem ok_law(T:Txt P w K mg){f:Addr}{fd:FuncData}(F:Fun K "law" "law" s_law f fd):FnOk P w K mg base CX0 23 f fd ["script"] (spF K mg m_law):=by
 show FnOk P w K mg base CX0 _ f fd _ (spF K mg (fnOf 1 9 b_law))
 refine fn_sim (k:=22) F sc_law rfl rfl fun cdv A outer s H E hr=>?_
 have hu:=hr.units
 refine @WSs.un _ _ _ _ ?_
 refine @wss_cons _ _ _ _ _ _ ?_ (@wss_cons _ _ _ _ _ _ ?_ (@wss_cons _ _ _ _ _ _ ?_ (@wss_cons _ _ _ _ _ _ ?_ (@wss_cons _ _ _ _ _ _ ?_ (@wss_cons _ _ _ _ _ _ ?_ (@wss_cons _ _ _ _ _ _ ?_ (@wss_cons _ _ _ _ _ _ ?_ (@wss_cons _ _ _ _ _ _ ?_ (@wss_one _ _ _ _ ?_)))))))))
 ·exact(ws_set (i:=1) sc_law.nd rfl (Or.inl rfl) (we_call (has_law_hall T) (hr.mono (by omega)) rfl (wa_cons (we_op op_mod bMod (we_call (has_law_cell_at T) (hr.mono (by omega)) rfl (wa_cons (we_var 0) (wa_cons we_int wa_nil))) we_int) wa_nil)))
 ·exact(ws_set (i:=2) sc_law.nd rfl (Or.inl rfl) (we_op op_mod bMod (we_call (has_law_cell_at T) (hr.mono (by omega)) rfl (wa_cons (we_var 0) (wa_cons we_int wa_nil))) we_int))
 ·exact(ws_tset (j:=3) sc_law.nd rfl (Or.inl rfl) (wv_make T.c_Asker (has_Asker___init__ T) (hr.mono (by omega)) rfl (wa_cons (we_var 2) (wa_cons (we_var 1) wa_nil))))
 ·exact(ws_ifG (WWg.ct (wwg_or (wtg_not (wtg_val (wg_call (has_law_same T 14) (hr.mono (by omega)) rfl (wga_cons (wg_tq0 (has_Asker_bell T) ns_Asker (hr.mono (by omega)) (wp_var 3)) (wga_cons (wg_of (we_lst wa_nil)) wga_nil))))) (wwg_or1 (wtg_of (wt_not (wt_val (we_tvf (i:=3) (has_law_stands T) (hr.mono (by omega)) rfl (wa_cons (we_var 1) (wa_cons (we_tup (wa_cons we_int (wa_cons we_int wa_nil))) (wa_cons we_int (wa_cons we_str wa_nil)))) rfl (by first | exact Or.inl rfl | exact Or.inr (Or.inl rfl) | exact Or.inr (Or.inr rfl))))))))) (wss_one (ws_ret we_bl)) wss_nil)
 ·exact(ws_ownG (i:=4) sc_law.nd rfl (Or.inl rfl) (wg_fq (i:=3) (has_law_begun T) (hr.mono (by omega)) rfl (wa_cons (we_var 0) (wa_cons (we_op op_mod bMod (we_call (has_law_cell_at T) (hr.mono (by omega)) rfl (wa_cons (we_var 0) (wa_cons we_int wa_nil))) we_int) wa_nil)) rfl (by first | exact Or.inl rfl | exact Or.inr (Or.inl rfl) | exact Or.inr (Or.inr rfl))))
 ·exact(ws_set (i:=5) sc_law.nd rfl (Or.inl rfl) we_int)
 ·exact(ws_own (i:=6) sc_law.nd rfl (Or.inl rfl) (we_lst (wa_cons (we_tup (wa_cons we_int (wa_cons (we_var 2) wa_nil))) wa_nil)))
 ·exact(ws_if (WW.ct (ww_or (wt_not (wt_val (we_call (has_law_same T 14) (hr.mono (by omega)) rfl (wa_cons (we_var 4) (wa_cons (we_call (has_law_asks T) (hr.mono (by omega)) rfl (wa_cons (we_var 2) (wa_cons (we_var 1) (wa_cons (we_tup (wa_cons we_int (wa_cons (we_var 2) wa_nil))) wa_nil)))) wa_nil))))) (ww_or1 (wt_not (wt_val (we_tvf (i:=3) (has_law_stands T) (hr.mono (by omega)) rfl (wa_cons (we_var 1) (wa_cons (we_tup (wa_cons we_int (wa_cons (we_var 2) wa_nil))) (wa_cons we_int (wa_cons we_str wa_nil)))) rfl (by first | exact Or.inl rfl | exact Or.inr (Or.inl rfl) | exact Or.inr (Or.inr rfl)))))))) (wss_one (ws_ret we_bl)) wss_nil)
 ·exact(ws_for (i:=7) PassesOwn.never rfl (wf_list (we_slice (we_var 0) (wo_some we_int) wo_none)) sc_law.nd rfl (Or.inl rfl) (wss_cons (ws_mut (i:=4) PySem.F.slot_list_append PySem.F.type_list_append mt_append mAppend (wa_cons we_int wa_nil) rfl (Or.inl rfl))
  (wss_cons (ws_if (wt_cmp (op_eqD hu) bEq (we_op op_mod bMod (we_var 7) we_int) we_int (nomark _)) (wss_cons (ws_set (i:=5) sc_law.nd rfl (Or.inl rfl) (we_op op_add bAdd (we_var 5) we_int))
  (wss_cons (ws_mut (i:=6) PySem.F.slot_list_append PySem.F.type_list_append mt_append mAppend (wa_cons (we_tup (wa_cons (we_var 5) (wa_cons (we_var 2) wa_nil))) wa_nil) rfl (Or.inl rfl))
  (wss_cons (ws_ownG (i:=4) sc_law.nd rfl (Or.inl rfl) (wg_tq0 (has_Asker_bell T) ns_Asker (hr.mono (by omega)) (wp_var 3)))
  (wss_one (ws_if (wt_not (wt_val (we_call (has_law_same T 14) (hr.mono (by omega)) rfl (wa_cons (we_var 4) (wa_cons (we_call (has_law_asks T) (hr.mono (by omega)) rfl (wa_cons (we_var 2) (wa_cons (we_var 1) (wa_cons (we_tup (wa_cons (we_var 5) (wa_cons (we_var 2) wa_nil))) wa_nil)))) wa_nil))))) (wss_one (ws_ret we_bl)) wss_nil))))) (wss_cons (ws_set (i:=8) sc_law.nd rfl (Or.inl rfl) (we_call (has_law_late T) (hr.mono (by omega)) rfl (wa_cons (we_var 2) (wa_cons (we_var 1) (wa_cons (we_ix ix_seq bIx (we_var 6) (we_op op_mod bMod (we_op op_fdivB bDivB (we_var 7) we_int) (we_callB call_len_seq kLen rfl T.B.len bt_len (wa_cons (we_var 6) wa_nil))) (fun _ _=>rfl)) (wa_cons (we_op op_mod bMod (we_var 7) (we_op op_pow bPow we_int we_int)) wa_nil))))))
  (wss_cons (ws_set (i:=5) sc_law.nd rfl (Or.inl rfl) (we_callB (call_max2 rfl) k2I rfl T.B.max bt_max (wa_cons (we_var 5) (wa_cons (we_ix ix_seq bIx (we_ix ix_seq bIx (we_ix ix_seq bIx (we_var 8) we_int (fun _ _=>rfl)) we_int (fun _ _=>rfl)) we_int (fun _ _=>rfl)) wa_nil))))
  (wss_cons (ws_ownG (i:=4) sc_law.nd rfl (Or.inl rfl) (wg_tq (has_Asker_hear T) ns_Asker (hr.mono (by omega)) (wp_var 3) (wa_cons (we_var 8) wa_nil)))
  (wss_one (ws_if (wt_not (wt_val (we_call (has_law_same T 14) (hr.mono (by omega)) rfl (wa_cons (we_var 4) (wa_cons (we_lst wa_nil) wa_nil))))) (wss_one (ws_ret we_bl)) wss_nil))))))
  (wss_one (ws_if (wt_not (wt_val (we_tvf (i:=3) (has_law_stands T) (hr.mono (by omega)) rfl (wa_cons (we_var 1) (wa_cons (we_ix ix_seq bIx (we_var 6) (we_neg we_int) (fun _ _=>rfl)) (wa_cons we_int (wa_cons we_str wa_nil)))) rfl (by first | exact Or.inl rfl | exact Or.inr (Or.inl rfl) | exact Or.inr (Or.inr rfl))))) (wss_one (ws_ret we_bl)) wss_nil)))))
 ·exact(ws_ret we_bl)
end
end K32
namespace M3
inductive Rl where
 |kp (k:Nat)
 |ch (k:Nat) (ps:List Rl)
mutual
noncomputable def Rl.names:Rl→List Nat
 |.kp k=>[k]
 |.ch _ ps=>Rl.namesL ps
noncomputable def Rl.namesL:List Rl→List Nat
 |[]=>[]
 |r::rs=>r.names++Rl.namesL rs
end
mutual
noncomputable def Rl.deep:Rl→Nat
 |.kp _=>0
 |.ch _ ps=>Rl.deepL ps+1
noncomputable def Rl.deepL:List Rl→Nat
 |[]=>0
 |r::rs=>max r.deep (Rl.deepL rs)
end
mutual
noncomputable def Rl.wf:Rl→Prop
 |.kp k=>k<6
 |.ch k ps=>1≤k∧k≤ps.length∧ps.length≤6∧Rl.wfL ps
noncomputable def Rl.wfL:List Rl→Prop
 |[]=>True
 |r::rs=>r.wf∧Rl.wfL rs
end
mutual
noncomputable def Rl.fills(p:Nat→Bool):Rl→Bool
 |.kp k=>p k
 |.ch k ps=>decide (k≤Rl.cnt p ps)
noncomputable def Rl.cnt(p:Nat→Bool):List Rl→Nat
 |[]=>0
 |r::rs=>(if r.fills p then 1 else 0)+Rl.cnt p rs
end
theorem wfL_iff:∀{ps:List Rl},Rl.wfL ps↔∀r∈ps,r.wf
 | []=>by simp[Rl.wfL]
 | r::rs=>by simp[Rl.wfL,wfL_iff]
theorem deepL_lt:∀{ps:List Rl}{n:Nat},Rl.deepL ps<n→∀r∈ps,r.deep<n
 |r::rs,n,h,x,hx=>by
  simp only[Rl.deepL]at h
  rcases List.mem_cons.mp hx with rfl | hx
  ·omega
  ·exact deepL_lt (ps:=rs) (by omega) x hx
theorem cnt_filter(p:Nat→Bool):∀ps:List Rl,(ps.filter (Rl.fills p)).length=Rl.cnt p ps
 |[]=>rfl
 |r::rs=>by
  rw[List.filter_cons]
  simp only[Rl.cnt]
  cases h:r.fills p with
  |true=>simp[cnt_filter p rs];omega
  |false=>simp[cnt_filter p rs]
mutual
theorem names_lt:∀r:Rl,r.wf→∀k∈r.names,k<6
 | .kp k,h,x,hx=>by simp only[Rl.names,List.mem_singleton]at hx;simp only[Rl.wf]at h;omega
 | .ch k ps,h,x,hx=>by simp only[Rl.wf]at h;exact namesL_lt ps h.2.2.2 x (by simpa only[Rl.names]using hx)
theorem namesL_lt:∀ps:List Rl,Rl.wfL ps→∀k∈Rl.namesL ps,k<6
 | [],_,x,hx=>by simp[Rl.namesL]at hx
 |r::rs,h,x,hx=>by
  simp only[Rl.wfL]at h
  simp only[Rl.namesL,List.mem_append]at hx
  rcases hx with hx | hx
  ·exact names_lt r h.1 x hx
  ·exact namesL_lt rs h.2 x hx
end
theorem namesL_append:∀ps qs:List Rl,Rl.namesL (ps++qs)=Rl.namesL ps++Rl.namesL qs
 |[],_=>rfl
 |r::rs,qs=>by
  show r.names++Rl.namesL (rs++qs)=(r.names++Rl.namesL rs)++Rl.namesL qs
  rw[namesL_append rs qs,List.append_assoc]
end M3
namespace L3
open PySem PySem.Spec L2 M3
mutual
noncomputable def enc:Rl→D
 |.kp k=>.int (k:Nat)
 |.ch k ps=>.tup [.int (k:Nat),.tup (encL ps)]
noncomputable def encL:List Rl→List D
 |[]=>[]
 |r::rs=>enc r::encL rs
end
theorem encL_map:∀ps:List Rl,encL ps=ps.map enc
 |[]=>rfl
 | r::rs=>by rw[List.map_cons,←encL_map rs];rfl
theorem enc_ch(k:Nat)(ps:List Rl):enc (.ch k ps)=.tup [.int (k:Nat),.tup (ps.map enc)]:=by rw[←encL_map];rfl
theorem enc_kp(k:Nat):enc (.kp k)=.int (k:Nat):=rfl
@[simp] theorem slot_enc(r:Rl):slotOf (enc r)=.val (enc r):=by cases r<;>rfl
theorem cut_drop{α:Type}(xs:List α)(k:Nat):cutD xs (some (k:Int)) none=xs.drop k:=by
 unfold cutD
 rw[HT.sIx_nat,HT.sIx_none]
 by_cases h:k≤xs.length
 ·rw[Nat.min_eq_left h]
  exact List.take_of_length_le (by rw[List.length_drop];omega)
 ·rw[Nat.min_eq_right (by omega),List.drop_eq_nil_of_le (Nat.le_refl _),List.drop_eq_nil_of_le (by omega),List.take_nil]
end L3
namespace M1
noncomputable def bitB(m k:Nat):Bool:=m / 2 ^ k % 2==1
noncomputable def keepL(m:Nat):List Nat:=(List.range (if m==0 then 0 else m.log2+1)).filter (bitB m)
noncomputable def b2n(b:Bool)(n:Nat):Nat:=if b then n else 0
noncomputable def msk6(b0 b1 b2 b3 b4 b5:Bool):Nat:=b2n b0 1+b2n b1 2+b2n b2 4+b2n b3 8+b2n b4 16+b2n b5 32
noncomputable def msk(p:Nat→Bool):Nat:=msk6 (p 0) (p 1) (p 2) (p 3) (p 4) (p 5)
theorem msk_or(p:Nat→Bool)(k:Nat)(hk:k<6):msk p ||| 2 ^ k=msk fun j=>p j||j==k:=by
 have all:∀b0 b1 b2 b3 b4 b5:Bool,∀k:Fin 6,msk6 b0 b1 b2 b3 b4 b5 ||| 2 ^ k.val=msk6 (b0||0==k.val) (b1||1==k.val) (b2||2==k.val) (b3||3==k.val) (b4||4==k.val) (b5||5==k.val):=by decide +kernel
 exact all (p 0) (p 1) (p 2) (p 3) (p 4) (p 5) ⟨k,hk⟩
theorem msk_bit(p:Nat→Bool)(k:Nat)(hk:k<6):(msk p / 2 ^ k % 2==1)=p k:=by
 have all:∀b0 b1 b2 b3 b4 b5:Bool,∀k:Fin 6,(msk6 b0 b1 b2 b3 b4 b5 / 2 ^ k.val % 2==1)=[b0,b1,b2,b3,b4,b5].getD k.val false:=by decide +kernel
 have e:=all (p 0) (p 1) (p 2) (p 3) (p 4) (p 5) ⟨k,hk⟩
 rw[show msk p=msk6 (p 0) (p 1) (p 2) (p 3) (p 4) (p 5)from rfl,e]
 have:k=0∨k=1∨k=2∨k=3∨k=4∨k=5:=by omega
 rcases this with rfl | rfl | rfl | rfl | rfl | rfl<;>rfl
theorem msk_lt(p:Nat→Bool):msk p<64:=by
 have all:∀b0 b1 b2 b3 b4 b5:Bool,msk6 b0 b1 b2 b3 b4 b5<64:=by decide +kernel
 exact all _ _ _ _ _ _
noncomputable def bits(m:Nat):Nat:=if m==0 then 0 else m.log2+1
noncomputable def maskOf(ns:List Nat):Nat:=ns.foldl (fun m k=>m ||| 2 ^ k) 0
theorem mask_fold:∀(ns:List Nat)(p:Nat→Bool),(∀n∈ns,n<6)→ns.foldl (fun m k=>m ||| 2 ^ k) (msk p)=msk fun j=>p j||ns.contains j
 | [],p,_=>by simp
 |n::r,p,h=>by
  rw[List.foldl_cons,msk_or p n (h n List.mem_cons_self),mask_fold r _ fun x hx=>h x (List.mem_cons_of_mem _ hx)]
  congr 1
  funext j
  rw[List.contains_cons,Bool.or_assoc]
theorem maskOf_eq(ns:List Nat)(h:∀n∈ns,n<6):maskOf ns=msk fun j=>ns.contains j:=by
 have e:=mask_fold ns (fun _=>false) h
 have z:msk (fun _=>false)=0:=rfl
 rw[z]at e
 show ns.foldl (fun m k=>m ||| 2 ^ k) 0=_
 rw[e]
 simp
end M1
namespace L3
open PySem PySem.Spec L2 M1 M3 M5
noncomputable def nD(k:Nat):D:=.int (k:Int)
theorem nD_eq(k:Nat):nD k=.int (k:Int):=rfl
theorem and_one(x:Int):Builtin.bitAnd x 1=x % 2:=W.kbt_mask x 1
theorem or_nat(a b:Nat):Builtin.bitOr (a:Int) (b:Int)=((a ||| b:Nat):Int):=by
 have h1:decide (0≤Builtin.bitNot (a:Int))=false:=decide_eq_false (by unfold Builtin.bitNot;omega)
 have h2:decide (0≤Builtin.bitNot (b:Int))=false:=decide_eq_false (by unfold Builtin.bitNot;omega)
 have e1:(Builtin.bitNot (Builtin.bitNot (a:Int))).toNat=a:=by unfold Builtin.bitNot;omega
 have e2:(Builtin.bitNot (Builtin.bitNot (b:Int))).toNat=b:=by unfold Builtin.bitNot;omega
 unfold Builtin.bitOr Builtin.bitAnd
 rw[h1,h2]
 dsimp only
 rw[e1,e2]
 unfold Builtin.bitNot
 omega
theorem intBits_eq(m:Nat):Builtin.Int.intBits (m:Int)=M1.bits m:=by
 unfold Builtin.Int.intBits M1.bits
 rw[Int.natAbs_natCast]
 by_cases h:m=0
 ·subst h;rfl
 ·have h':(m:Int)≠0:=by omega
  rw[beq_eq_false_iff_ne.mpr h,beq_eq_false_iff_ne.mpr h']
theorem bits_le(m:Nat)(h:m<64):M1.bits m≤6:=by
 have all:∀m:_root_.Fin 64,M1.bits m.val≤6:=by decide +kernel
 exact all ⟨m,h⟩
theorem keepL_bits(m:Nat):keepL m=(List.range (M1.bits m)).filter (bitB m):=rfl
theorem mask_snoc(ks:List Nat)(k:Nat):M1.maskOf (ks++[k])=M1.maskOf ks ||| 2 ^ k:=by
 unfold M1.maskOf;rw[List.foldl_append];rfl
theorem take_snoc{α:Type}{l:List α}{i:Nat}{x:α}(h:l[i]? = some x):l.take (i+1)=l.take i++[x]:=by
 rw[List.take_add_one,h];rfl
theorem map_get{α β:Type}{f:α→β}{l:List α}{i:Nat}{y:β}(h:(l.map f)[i]? = some y):∃x,l[i]? = some x∧y=f x:=by
 rw[List.getElem?_map]at h
 cases e:l[i]? with
 |none=>rw[e]at h;cases h
 |some x=>rw[e]at h;exact⟨x,rfl,(Option.some.inj h).symm⟩
theorem bit_int(m k:Nat):(Builtin.bitAnd ((m:Int) / 2 ^ k) 1==1)=bitB m k:=by
 rw[and_one]
 unfold bitB
 have e1:((m:Int) / 2 ^ k) % 2=((m / 2 ^ k % 2:Nat):Int):=by
  rw[Int.natCast_emod,Int.natCast_ediv,Int.natCast_pow];rfl
 rw[e1,Bool.eq_iff_iff,beq_iff_eq,beq_iff_eq]
 omega
theorem rngD_n(n:Nat):rngD 0 n=(List.range n).map nD:=by
 unfold rngD
 refine List.map_congr_left fun i _=>?_
 show D.int (0+(i:Int))=.int (i:Int)
 rw[Int.zero_add]
theorem inD_n(k:Nat)(ks:List Nat):inD (nD k) (ks.map nD)=ks.contains k:=by
 unfold inD
 rw[List.any_map,List.contains_eq_any_beq]
 congr 1
 funext j
 show peq (.int (j:Int)) (.int (k:Int))=(k==j)
 rw[Bool.eq_iff_iff,beq_iff_eq]
 simp[peq]
 omega
theorem comp_on{α:Type}{t:En→M Bool}{el:ME}{σ:En}(f:α→D)(p:α→Bool)(g:α→D):∀xs:List α,(∀x∈xs,t (σ.set 0 (.val (f x)))=pure (p x))→(∀x∈xs,p x=true→(el (σ.set 0 (.val (f x))) >>= R.dat)=pure (g x))→
  kLoop t el σ (xs.map f)=pure ((xs.filter p).map g)
 |[],_,_=>rfl
 |x::xs,h1,h2=>by
  have ih:=comp_on f p g xs (fun x hx=>h1 x (List.mem_cons_of_mem _ hx)) fun x hx=>h2 x (List.mem_cons_of_mem _ hx)
  rw[List.map_cons]
  unfold kLoop
  rw[h1 x List.mem_cons_self,pure_bind]
  cases e:p x with
  | false=>rw[if_neg Bool.false_ne_true,ih,List.filter_cons_of_neg (by rw[e];exact Bool.false_ne_true)]
  |true=>
   have h:=h2 x List.mem_cons_self e
   rw[if_pos rfl,←bind_assoc,h,pure_bind,ih,pure_bind,List.filter_cons_of_pos e]
   rfl
theorem comp_all{α:Type}{el:ME}{σ:En}(f:α→D)(g:α→D)(xs:List α)(h:∀x∈xs,(el (σ.set 0 (.val (f x))) >>= R.dat)=pure (g x)):kLoop tYes el σ (xs.map f)=pure (xs.map g):=by
 have:=comp_on (t:=tYes) (el:=el) (σ:=σ) f (fun _=>true) g xs (fun _ _=>rfl) fun x hx _=>h x hx
 rw[this]
 congr 2
 exact List.filter_eq_self.mpr fun _ _=>rfl
end L3
namespace L3
open PySem PySem.Spec L2
mutual
noncomputable def D.wid:D→Bool
 |.tup xs=>decide (xs.length≤1000)&&widAll xs
 |.lst xs=>decide (xs.length≤1000)&&widAll xs
 |.dic _ _=>true
 |.fn _=>true
 |.ty _=>true
 |.non=>true
 |.bl _=>true
 |.int _=>true
 |.str _=>true
noncomputable def widAll:List D→Bool
 |[]=>true
 |x::xs=>x.wid&&widAll xs
end
theorem widAll_iff:∀{xs:List D},widAll xs=true↔∀x∈xs,x.wid=true
 | []=>by simp[widAll]
 | x::xs=>by simp[widAll,widAll_iff]
theorem gdAll_iff:∀{xs:List D}{n:Nat},gdAll xs n=true↔∀x∈xs,x.gd n=true
 | [],_=>by simp[gdAll]
 | x::xs,n=>by simp[gdAll,gdAll_iff]
def Ok(n:Nat)(d:D):Prop:=d.gd n=true∧d.wid=true
theorem ok_non{n:Nat}:Ok n .non:=⟨rfl,rfl⟩
theorem ok_bl{n:Nat}{b:Bool}:Ok n (.bl b):=⟨rfl,rfl⟩
theorem ok_int{n:Nat}{i:Int}:Ok n (.int i):=⟨rfl,rfl⟩
theorem ok_str{n:Nat}{x:Str}(h:PyData.strOk x=true):Ok n (.str x):=⟨h,rfl⟩
theorem ok_tup{n:Nat}{xs:List D}(hl:xs.length≤1000)(h:∀x∈xs,Ok n x):Ok (n+1) (.tup xs):=
 ⟨gdAll_iff.mpr fun x hx=>(h x hx).1,by show(decide (xs.length≤1000)&&widAll xs)=true;rw[decide_eq_true hl,widAll_iff.mpr fun x hx=>(h x hx).2];rfl⟩
theorem ok2{n:Nat}{a b:D}(h1:Ok n a)(h2:Ok n b):Ok (n+1) (.tup [a,b]):=ok_tup (by simp) (by simp only[List.forall_mem_cons];exact⟨h1,h2,fun _ h=>nomatch h⟩)
theorem ok3{n:Nat}{a b c:D}(h1:Ok n a)(h2:Ok n b)(h3:Ok n c):Ok (n+1) (.tup [a,b,c]):=ok_tup (by simp) (by simp only[List.forall_mem_cons];exact⟨h1,h2,h3,fun _ h=>nomatch h⟩)
theorem ok4{n:Nat}{a b c d:D}(h1:Ok n a)(h2:Ok n b)(h3:Ok n c)(h4:Ok n d):Ok (n+1) (.tup [a,b,c,d]):=ok_tup (by simp) (by simp only[List.forall_mem_cons];exact⟨h1,h2,h3,h4,fun _ h=>nomatch h⟩)
theorem ok6{n:Nat}{a b c d e f:D}(h1:Ok n a)(h2:Ok n b)(h3:Ok n c)(h4:Ok n d)(h5:Ok n e)(h6:Ok n f):Ok (n+1) (.tup [a,b,c,d,e,f]):=ok_tup (by simp) (by simp only[List.forall_mem_cons];exact⟨h1,h2,h3,h4,h5,h6,fun _ h=>nomatch h⟩)
@[simp] theorem e_isnw{xs:List D}:R.isN (.vw xs)=false:=rfl
@[simp] theorem e_isnl{xs:List D}:R.isN (.v (.lst xs))=false:=rfl
@[simp] theorem e_isnb{b:Bool}:R.isN (.v (.bl b))=false:=rfl
@[simp] theorem e_lenS{z:Str}:fLenS [.v (.str z)]=if z.length≤sizeLine then pure (.v (.int (z.length:Nat)))else bad:=rfl
@[simp] theorem e_catS{x y:Str}:oCatS (.v (.str x)) (.v (.str y))=if x.length+y.length≤sizeLine then pure (.v (.str (x++y)))else bad:=rfl
theorem eq_bl(b:Bool):oEq (.v (.bl b)) (.v (.bl b))=pure (.v (.bl true)):=by rw[e_eq rfl rfl];simp[peq]
theorem eq_str{x:Str}(h:PyData.strOk x=true):oEq (.v (.str x)) (.v (.str x))=pure (.v (.bl true)):=by rw[e_eq (x:=.v (.str x)) (y:=.v (.str x)) h h];simp[peq]
noncomputable def tx(a:List Nat):Str:=⟨a.toArray⟩
theorem tx_len(a:List Nat):(tx a).length=a.length:=by
 show a.toArray.size=_
 simp
theorem tx_app(a b:List Nat):tx a++tx b=tx (a++b):=by
 show(⟨a.toArray++b.toArray⟩:Str)=_
 unfold tx
 simp
end L3
namespace K32
open PySem PySem.Spec L2 L3 M3
def Good(r:Rl):Prop:=r.wf∧r.deep≤4∧r.names.length≤12
end K32
namespace K32
open PySem PySem.Spec L2 L3 M3 M1 M5
theorem whole_int(i:Int):m_is_whole [.int i]=pure (.v (.bl true)):=by simp[m_is_whole,b_is_whole]
theorem whole_tup(xs:List D):m_is_whole [.tup xs]=pure (.v (.bl false)):=by simp[m_is_whole,b_is_whole]
theorem has_keeper_eq(m k:Nat):m_has_keeper [nD m,nD k]=pure (.v (.bl (bitB m k))):=by
 have e:=bit_int m k
 simp only[m_has_keeper,b_has_keeper,nD_eq]
 simp[e]
theorem mask_of_eq(ks:List Nat)(h:∀k∈ks,k≤1000):m_mask_of [.lst (ks.map nD)]=pure (.v (nD (maskOf ks))):=by
 obtain⟨σ',e,s2,rfl⟩:=for_inv (b:=fun d σ=>l_mask_of_0 (σ.set 2 (.val d))) (ds:=ks.map nD) (σ:=[.vw (ks.map nD),.val (.int 0),.emp])
  (fun i σ=>∃s2,σ=[.vw (ks.map nD),.val (nD (maskOf (ks.take i))),s2]) ⟨_,rfl⟩ (fun i d σ hd ⟨s2,es⟩=>by
   subst es
   obtain⟨k,hk,rfl⟩:=map_get hd
   have hk':=h k (List.mem_of_getElem? hk)
   refine⟨_,.inl (?_:_=pure (Fl.nx [.vw (ks.map nD),.val (nD (maskOf (ks.take (i+1)))),.val (nD k)])),_,rfl⟩
   rw[take_snoc hk,mask_snoc,nD_eq (_ ||| _),←or_nat]
   have k1:(k:Int)≤1000000:=by omega
   simp only[l_mask_of_0,nD_eq]
   simp[k1])
 rw[List.length_map,List.take_length]at e
 simp only[m_mask_of,b_mask_of,b_mask_of_1,b_mask_of_2]
 simp[e]
theorem keepers_of_eq{m:Nat}(h:m<64):m_keepers_of [nD m]=pure (.fr ((keepL m).map nD)):=by
 have hb:=bits_le m h
 have c:kLoop (cT (cCall m_has_keeper (cCons (cVar 1) (cCons (cVar 0) cNil)))) (cVar 0) [.emp,.val (nD m)] ((List.range (bits m)).map nD)=pure (((List.range (bits m)).filter (bitB m)).map nD):=
  comp_on nD (bitB m) nD _ (fun k _=>by simp[has_keeper_eq]) fun k _ _=>by simp
 have r1:-4611686018427387904≤((bits m:Nat):Int)∧((bits m:Nat):Int)<4611686018427387904:=by omega
 have z:bits m<sizeLine:=small1000 (by omega)
 rw[keepL_bits]
 simp only[m_keepers_of,b_keepers_of]
 simp only[nD_eq m]at c ⊢
 simp[intBits_eq,r1,rngD_n,z,c]
theorem namings_enc:∀(n:Nat)(r:Rl),r.deep<n→r.names.length≤1000→m_namings n [enc r]=pure (.fr (r.names.map nD))
 |0,r,h,_=>absurd h (Nat.not_lt_zero _)
 |n+1,.kp k,h,_=>by
  simp only[m_namings,b_namings,enc_kp,Rl.names]
  simp[whole_int,nD_eq]
 |n+1,.ch k ps,h,hl=>by
  simp only[Rl.deep]at h
  simp only[Rl.names]at hl ⊢
  have dl:=deepL_lt (ps:=ps) (n:=n) (by omega)
  rw[enc_ch]
  obtain⟨σ',e,s2,rfl⟩:=for_inv (b:=fun d σ=>l_namings_0 (m_namings n) (σ.set 2 (.val d))) (ds:=ps.map enc) (σ:=[.val (.tup [.int (k:Nat),.tup (ps.map enc)]),.ow false [],.emp])
   (fun i σ=>∃s2,σ=[.val (.tup [.int (k:Nat),.tup (ps.map enc)]),.ow false ((Rl.namesL (ps.take i)).map nD),s2]) ⟨_,rfl⟩ (fun i d σ hd ⟨s2,es⟩=>by
    subst es
    obtain⟨r,hr,rfl⟩:=map_get hd
    have hm:=List.mem_of_getElem? hr
    refine⟨_,.inl (?_:_=pure (Fl.nx [.val (.tup [.int (k:Nat),.tup (ps.map enc)]),.ow false ((Rl.namesL (ps.take (i+1))).map nD),.val (enc r)])),_,rfl⟩
    have ht:=take_snoc hr
    have le:(Rl.namesL (ps.take (i+1))).length≤1000:=by
     have:Rl.namesL ps=Rl.namesL (ps.take (i+1))++Rl.namesL (ps.drop (i+1)):=by rw[←namesL_append,List.take_append_drop]
     rw[this,List.length_append]at hl
     omega
    rw[ht,namesL_append]at le ⊢
    rw[show Rl.namesL [r]=r.names from List.append_nil _]at le ⊢
    rw[List.length_append]at le
    have ih:=namings_enc n r (dl r hm) (by omega)
    have z:(Rl.namesL (ps.take i)).length+r.names.length≤sizeLine:=Nat.le_of_lt (small1000 (by omega))
    simp only[l_namings_0]
    simp[ih,z])
  rw[List.length_map,List.take_length]at e
  simp only[m_namings,b_namings,b_namings_1,b_namings_2,b_namings_3]
  simp[whole_tup,e]
theorem named_eq{r:Rl}(hw:r.wf)(hd:r.deep<12)(hl:r.names.length≤1000):m_named [enc r]=pure (.v (nD (maskOf r.names))):=by
 have h1:=namings_enc 12 r hd hl
 have h2:=mask_of_eq r.names fun k hk=>by have:=names_lt r hw k hk;omega
 simp only[m_named,b_named]
 simp[h1,h2]
theorem fills_eq(m:Nat):∀(n:Nat)(r:Rl),r.deep<n→r.wf→m_fills n [enc r,nD m]=pure (.v (.bl (r.fills (bitB m))))
 |0,r,h,_=>absurd h (Nat.not_lt_zero _)
 |n+1,.kp k,h,hw=>by
  have hk:=has_keeper_eq m k
  simp only[m_fills,b_fills,enc_kp,Rl.fills]
  simp only[nD_eq]at hk ⊢
  simp[whole_int,hk]
 |n+1,.ch k ps,h,hw=>by
  simp only[Rl.deep]at h
  simp only[Rl.wf]at hw
  have dl:=deepL_lt (ps:=ps) (n:=n) (by omega)
  have wl:=wfL_iff.mp hw.2.2.2
  rw[enc_ch]
  have c:kLoop (cT (cCall (m_fills n) (cCons (cVar 0) (cCons (cVar 1) cNil)))) (cVar 0) [.emp,.val (nD m)] (ps.map enc)=pure ((ps.filter (Rl.fills (bitB m))).map enc):=
   comp_on enc (Rl.fills (bitB m)) enc ps (fun r hr=>by simp[fills_eq m n r (dl r hr) (wl r hr)]) fun r _ _=>by simp
  have z:ps.length<sizeLine:=small1000 (by omega)
  have e:decide (((k:Nat):Int)≤(Rl.cnt (bitB m) ps:Nat))=decide (k≤Rl.cnt (bitB m) ps):=decide_eq_decide.mpr (by omega)
  simp only[m_fills,b_fills,b_fills_1,Rl.fills]
  simp only[nD_eq m]at c ⊢
  simp[whole_tup,c,z,cnt_filter,e]
end K32
namespace M5
open M1 M3
noncomputable def evry(a k:Rl):Nat:=maskOf a.names ||| maskOf k.names
theorem mask_append(xs:List Nat):∀ys:List Nat,maskOf (xs++ys)=maskOf xs ||| maskOf ys:=by
 intro ys
 have:∀n,∀ys:List Nat,ys.length=n→maskOf (xs++ys)=maskOf xs ||| maskOf ys:=by
  intro n
  induction n with
  |zero=>intro ys h;rw[List.length_eq_zero_iff.mp h,List.append_nil];exact(Nat.or_zero _).symm
  |succ n ih=>
   intro ys h
   rcases List.eq_nil_or_concat ys with rfl | ⟨l,k,rfl⟩
   ·cases h
   ·rw[List.concat_eq_append]at h ⊢
    rw[List.length_append,List.length_singleton]at h
    rw[←List.append_assoc,L3.mask_snoc,ih l (by omega),L3.mask_snoc,Nat.or_assoc]
 exact this _ _ rfl
theorem evry_eq{a k:Rl}(ha:a.wf)(hk:k.wf):evry a k=msk fun j=>(a.names++k.names).contains j:=by
 unfold evry
 rw[←mask_append,maskOf_eq]
 intro n hn
 rcases List.mem_append.mp hn with h | h
 ·exact names_lt a ha n h
 ·exact names_lt k hk n h
theorem evry_lt{a k:Rl}(ha:a.wf)(hk:k.wf):evry a k<64:=by rw[evry_eq ha hk];exact msk_lt _
end M5
namespace M3
mutual
noncomputable def trn(s:Nat):Rl→Rl
 |.kp k=>.kp ((k+s) % 6)
 |.ch k ps=>.ch k (trnL s ps)
noncomputable def trnL(s:Nat):List Rl→List Rl
 |[]=>[]
 |r::rs=>trn s r::trnL s rs
end
theorem trnL_map(s:Nat):∀ps:List Rl,trnL s ps=ps.map (trn s)
 |[]=>rfl
 | r::rs=>by rw[List.map_cons,←trnL_map s rs];rfl
theorem trn_ch(s k:Nat)(ps:List Rl):trn s (.ch k ps)=.ch k (ps.map (trn s)):=by rw[←trnL_map];rfl
theorem trnL_len(s:Nat)(ps:List Rl):(trnL s ps).length=ps.length:=by rw[trnL_map,List.length_map]
mutual
theorem trn_deep(s:Nat):∀r:Rl,(trn s r).deep=r.deep
 |.kp _=>rfl
 | .ch k ps=>by show Rl.deepL (trnL s ps)+1=Rl.deepL ps+1;rw[trnL_deep s ps]
theorem trnL_deep(s:Nat):∀ps:List Rl,Rl.deepL (trnL s ps)=Rl.deepL ps
 |[]=>rfl
 | r::rs=>by show max (trn s r).deep (Rl.deepL (trnL s rs))=max r.deep (Rl.deepL rs);rw[trn_deep s r,trnL_deep s rs]
end
mutual
theorem trn_names(s:Nat):∀r:Rl,(trn s r).names.length=r.names.length
 |.kp _=>rfl
 | .ch k ps=>by show(Rl.namesL (trnL s ps)).length=(Rl.namesL ps).length;rw[trnL_names s ps]
theorem trnL_names(s:Nat):∀ps:List Rl,(Rl.namesL (trnL s ps)).length=(Rl.namesL ps).length
 |[]=>rfl
 | r::rs=>by show((trn s r).names++Rl.namesL (trnL s rs)).length=(r.names++Rl.namesL rs).length;rw[List.length_append,List.length_append,trn_names s r,trnL_names s rs]
end
mutual
theorem trn_wf(s:Nat):∀r:Rl,r.wf→(trn s r).wf
 | .kp k,_=>Nat.mod_lt _ (by decide)
 |.ch k ps,h=>by
  have h':1≤k∧k≤ps.length∧ps.length≤6∧Rl.wfL ps:=h
  show 1≤k∧k≤(trnL s ps).length∧(trnL s ps).length≤6∧Rl.wfL (trnL s ps)
  rw[trnL_len]
  exact⟨h'.1,h'.2.1,h'.2.2.1,trnL_wf s ps h'.2.2.2⟩
theorem trnL_wf(s:Nat):∀ps:List Rl,Rl.wfL ps→Rl.wfL (trnL s ps)
 |[],_=>trivial
 |r::rs,h=>⟨trn_wf s r h.1,trnL_wf s rs h.2⟩
end
end M3
namespace K32
open PySem PySem.Spec L2 L3 M3 M1 M5
noncomputable def hallD(a k:Rl):D:=.tup [enc a,enc k]
theorem members_eq{a k:Rl}(ha:Good a)(hk:Good k):m_members_mask [hallD a k]=pure (.v (nD (evry a k))):=by
 have h1:=named_eq (r:=a) ha.1 (by have:=ha.2.1;omega) (by have:=ha.2.2;omega)
 have h2:=named_eq (r:=k) hk.1 (by have:=hk.2.1;omega) (by have:=hk.2.2;omega)
 unfold hallD
 simp only[m_members_mask,b_members_mask]
 simp only[nD_eq]at h1 h2 ⊢
 simp[h1,h2,or_nat,evry]
theorem law_named_eq:∀(n:Nat)(r:Rl),r.deep<n→r.names.length≤1000→∃o,m_law_named n [enc r]=pure o∧o.own=some (r.names.map nD)
 |0,r,h,_=>absurd h (Nat.not_lt_zero _)
 |n+1,.kp k,h,_=>by
  refine⟨.fr [nD k],?_,rfl⟩
  simp only[m_law_named,b_law_named,enc_kp]
  simp[nD_eq]
 |n+1,.ch k ps,h,hl=>by
  simp only[Rl.deep]at h
  simp only[Rl.names]at hl ⊢
  have dl:=deepL_lt (ps:=ps) (n:=n) (by omega)
  refine⟨.v (.lst ((Rl.namesL ps).map nD)),?_,rfl⟩
  rw[enc_ch]
  obtain⟨σ',e,s2,rfl⟩:=for_inv (b:=fun d σ=>l_law_named_0 (m_law_named n) (σ.set 2 (.val d))) (ds:=ps.map enc) (σ:=[.val (.tup [.int (k:Nat),.tup (ps.map enc)]),.val (.lst []),.emp])
   (fun i σ=>∃s2,σ=[.val (.tup [.int (k:Nat),.tup (ps.map enc)]),.val (.lst ((Rl.namesL (ps.take i)).map nD)),s2]) ⟨_,rfl⟩ (fun i d σ hd ⟨s2,es⟩=>by
    subst es
    obtain⟨r,hr,rfl⟩:=map_get hd
    have hm:=List.mem_of_getElem? hr
    refine⟨_,.inl (?_:_=pure (Fl.nx [.val (.tup [.int (k:Nat),.tup (ps.map enc)]),.val (.lst ((Rl.namesL (ps.take (i+1))).map nD)),.val (enc r)])),_,rfl⟩
    have ht:=take_snoc hr
    have le:(Rl.namesL (ps.take (i+1))).length≤1000:=by
     have:Rl.namesL ps=Rl.namesL (ps.take (i+1))++Rl.namesL (ps.drop (i+1)):=by rw[←namesL_append,List.take_append_drop]
     rw[this,List.length_append]at hl
     omega
    rw[ht,namesL_append]at le ⊢
    rw[show Rl.namesL [r]=r.names from List.append_nil _]at le ⊢
    rw[List.length_append]at le
    obtain⟨o,ih,ho⟩:=law_named_eq n r (dl r hm) (by omega)
    have z:(Rl.namesL (ps.take i)).length+r.names.length≤sizeLine:=Nat.le_of_lt (small1000 (by omega))
    simp only[l_law_named_0]
    simp[ih,ho,z])
  rw[List.length_map,List.take_length]at e
  simp only[m_law_named,b_law_named,b_law_named_1,b_law_named_2,b_law_named_3]
  simp[e]
theorem in_names(j:Nat)(ks:List Nat):oIn false (.v (nD j)) (.v (.lst (ks.map nD)))=pure (.v (.bl (ks.contains j))):=by
 have fa:(ks.map nD).all D.flat=true:=by rw[List.all_map];exact List.all_eq_true.mpr fun _ _=>rfl
 show(if(nD j).flat=true∧(ks.map nD).all D.flat=true then pure (R.v (D.bl (if false=true then !inD (nD j) (ks.map nD)else inD (nD j) (ks.map nD))))else bad)=_
 rw[if_pos ⟨rfl,fa⟩,if_neg Bool.false_ne_true,inD_n]
theorem keepL_six:∀m:Nat,m<64→keepL m=(List.range 6).filter (bitB m):=by decide +kernel
theorem keepL_names{a k:Rl}(ha:a.wf)(hk:k.wf):keepL (evry a k)=(List.range 6).filter fun j=>(a.names++k.names).contains j:=by
 rw[keepL_six _ (evry_lt ha hk),evry_eq ha hk]
 exact List.filter_congr fun j hj=>msk_bit _ j (List.mem_range.mp hj)
theorem members_of_eq{a k:Rl}(ha:Good a)(hk:Good k):m_members_of [hallD a k]=pure (.fr (((List.range 6).filter fun j=>(a.names++k.names).contains j).map nD)):=by
 have m:=members_eq ha hk
 have e:=keepers_of_eq (evry_lt ha.1 hk.1)
 rw[keepL_names ha.1 hk.1]at e
 have sh:slotOf (hallD a k)=.val (hallD a k):=rfl
 simp only[m_members_of,b_members_of]
 simp[sh,m,e]
noncomputable def mem6(a k:Rl):List Nat:=(List.range 6).filter fun j=>(a.names++k.names).contains j
theorem law_members_eq{a k:Rl}(ha:Good a)(hk:Good k):m_law_members [hallD a k]=pure (.fr ((mem6 a k).map nD)):=by
 obtain⟨o1,e1,h1⟩:=law_named_eq 12 a (by have:=ha.2.1;omega) (by have:=ha.2.2;omega)
 obtain⟨o2,e2,h2⟩:=law_named_eq 12 k (by have:=hk.2.1;omega) (by have:=hk.2.2;omega)
 have z:a.names.length+k.names.length≤sizeLine:=Nat.le_of_lt (small1000 (by have:=ha.2.2;have:=hk.2.2;omega))
 have z6:6<sizeLine:=small1000 (by decide)
 have ct:oCatL o1 o2=pure (.fr ((a.names++k.names).map nD)):=by
  unfold oCatL
  rw[h1,h2]
  simp[z]
 have c:kLoop (cT (c2 (oIn false) (cVar 0) (cVar 1))) (cVar 0) [.emp,.val (.lst ((a.names++k.names).map nD))] ((List.range 6).map nD)=pure ((mem6 a k).map nD):=
  comp_on nD (fun j=>(a.names++k.names).contains j) nD _ (fun j _=>by
   have q:=in_names j (a.names++k.names)
   generalize(a.names++k.names).map nD=L at q ⊢
   generalize(a.names++k.names).contains j=B at q ⊢
   simp[q]) fun j _ _=>by simp
 unfold hallD
 simp only[m_law_members,b_law_members,b_law_members_1]
 generalize(a.names++k.names).map nD=L at ct c
 generalize oCatL=CC at ct ⊢
 simp[e1,e2,ct,rngD_n,z6,c]
theorem law_turned_eq(s:Nat):∀(n:Nat)(r:Rl),r.deep<n→r.wf→m_law_turned n [enc r,.int (s:Nat)]=pure (.v (enc (trn s r)))
 |0,r,h,_=>absurd h (Nat.not_lt_zero _)
 |n+1,.kp k,h,hw=>by
  simp only[m_law_turned,b_law_turned,enc_kp,trn]
  simp
 |n+1,.ch k ps,h,hw=>by
  simp only[Rl.deep]at h
  simp only[Rl.wf]at hw
  have dl:=deepL_lt (ps:=ps) (n:=n) (by omega)
  have wl:=wfL_iff.mp hw.2.2.2
  rw[enc_ch]
  have c:kLoop tYes (cCall (m_law_turned n) (cCons (cVar 0) (cCons (cVar 1) cNil))) [.emp,.val (.int (s:Nat))] (ps.map enc)=pure (ps.map (enc∘trn s)):=
   comp_all enc _ ps (fun r hr=>by simp[law_turned_eq s n r (dl r hr) (wl r hr)])
  have z:ps.length<sizeLine:=small1000 (by omega)
  rw[trn_ch,enc_ch,List.map_map]
  generalize ps.map (enc∘trn s)=Y at c ⊢
  simp only[m_law_turned,b_law_turned,b_law_turned_1]
  generalize m_law_turned n=F at c ⊢
  have zz:(ps.map enc).length<sizeLine:=by rw[List.length_map];exact z
  generalize ps.map enc=Z at c zz ⊢
  simp[c,zz]
theorem trn_good{s:Nat}{r:Rl}(h:Good r):Good (trn s r):=⟨trn_wf s r h.1,by rw[trn_deep];exact h.2.1,by rw[trn_names];exact h.2.2⟩
noncomputable def thr3:Rl:=.ch 2 [.kp 0,.kp 1,.kp 2]
noncomputable def rws:Rl:=.ch 1 [.ch 2 [.kp 0,.kp 1],.ch 2 [.kp 2,.kp 3]]
noncomputable def cols:Rl:=.ch 2 [.ch 1 [.kp 0,.kp 1],.ch 1 [.kp 2,.kp 3]]
noncomputable def hls:List (Rl×Rl):=[(thr3,thr3),(.kp 0,.kp 0),(.ch 1 [.kp 0,.kp 1,.kp 2],.ch 3 [.kp 0,.kp 1,.kp 2]),(.ch 3 [.kp 0,.kp 1,.kp 2],.ch 1 [.kp 0,.kp 1,.kp 2]),
 (rws,cols),(cols,rws),(.ch 3 [.kp 0,.kp 1,.kp 2,.kp 3,.kp 4],.ch 3 [.kp 4,.kp 3,.kp 2,.kp 1,.kp 0]),
 (.ch 2 [.kp 0,.kp 0,.kp 1,.kp 2],.ch 3 [.kp 0,.kp 0,.kp 1,.kp 2]),(.ch 2 [.kp 0,.kp 1],.ch 1 [.kp 0,.kp 1]),
 (.ch 2 [.kp 0,.ch 1 [.kp 1,.kp 2]],.ch 1 [.kp 0,.ch 2 [.kp 1,.kp 2]])]
noncomputable def pD(p:Rl×Rl):D:=hallD p.1 p.2
theorem hls_good:∀p∈hls,Good p.1∧Good p.2:=by
 simp only[hls,List.forall_mem_cons,thr3,rws,cols,Good]
 simp[Rl.wf,Rl.wfL,Rl.deep,Rl.deepL,Rl.names,Rl.namesL]
theorem hall_pre(c:Int):b_law_hall [.val (.int c),.emp,.emp,.emp,.emp,.emp,.emp]=b_law_hall_7 [.val (.int c),.val (enc thr3),.val (enc rws),.val (enc cols),.val (.lst (hls.map pD)),.emp,.emp]:=by
 have z4:(4+3:Nat)≤sizeLine:=Nat.le_of_lt (small1000 (by decide))
 have z7:(7+2:Nat)≤sizeLine:=Nat.le_of_lt (small1000 (by decide))
 have z9:(9+1:Nat)≤sizeLine:=Nat.le_of_lt (small1000 (by decide))
 simp only[b_law_hall,b_law_hall_1,b_law_hall_2,b_law_hall_3,b_law_hall_4,b_law_hall_5,b_law_hall_6]
 generalize b_law_hall_7=B
 simp[z4,z7,z9]
 rfl
theorem law_hall_eq(c:Int):∃a k,m_law_hall [.int c]=pure (.v (hallD a k))∧Good a∧Good k:=by
 have h10:=mod_lt (a:=c) (b:=10) (by decide)
 have h6:=mod_lt (a:=c / 10) (b:=6) (by decide)
 obtain⟨i,hi,hl⟩:∃i:Nat,c % 10=(i:Nat)∧i<10:=⟨(c % 10).toNat,by omega,by omega⟩
 obtain⟨s,hs⟩:∃s:Nat,c / 10 % 6=(s:Nat):=⟨(c / 10 % 6).toNat,by omega⟩
 obtain⟨p,hp⟩:∃p,hls[i]? = some p:=⟨_,List.getElem?_eq_getElem (show i<hls.length from hl)⟩
 obtain⟨ga,gk⟩:=hls_good p (List.mem_of_getElem? hp)
 refine⟨trn s p.1,trn s p.2,?_,trn_good ga,trn_good gk⟩
 have t1:=law_turned_eq s 12 p.1 (by have:=ga.2.1;omega) ga.1
 have t2:=law_turned_eq s 12 p.2 (by have:=gk.2.1;omega) gk.1
 have ix:oIx (.v (.lst (hls.map pD))) (.v (.int (i:Nat)))=pure (.v (pD p)):=by
  show(match atI (hls.map pD) (i:Int)with | some v=>pure (R.v v) | none=>bad)=_
  rw[at_k (v:=pD p) i (by rw[List.getElem?_map,hp];rfl)]
 have b7:b_law_hall_7 [.val (.int c),.val (enc thr3),.val (enc rws),.val (enc cols),.val (.lst (hls.map pD)),.emp,.emp]=pure (.rt (.v (hallD (trn s p.1) (trn s p.2)))):=by
  simp only[b_law_hall_7,b_law_hall_8]
  generalize hls.map pD=L at ix ⊢
  generalize enc thr3=x1
  generalize enc rws=x2
  generalize enc cols=x3
  unfold pD hallD at ix
  unfold hallD
  have u1:slotOf (enc p.1)=.val (enc p.1):=by cases p.1<;>rfl
  have u2:slotOf (enc p.2)=.val (enc p.2):=by cases p.2<;>rfl
  generalize enc p.1=y1 at *
  generalize enc p.2=y2 at *
  generalize enc (trn s p.1)=y3 at *
  generalize enc (trn s p.2)=y4 at *
  simp[hi,hs,ix,t1,t2,u1,u2]
 have pre:=hall_pre c
 rw[b7]at pre
 simp only[m_law_hall]
 generalize b_law_hall=B at pre ⊢
 simp[pre]
theorem chD_tx(l:List Nat):chD (tx l)=l.map fun c=>D.str (ch c):=rfl
theorem size1000{n:Nat}(h:n≤1000):n≤sizeLine:=by rw[sizeLine_eq];omega
noncomputable def ltr(c:Nat):Bool:=decide (97≤c∧c≤122)
theorem abc_cps:("abcdefghijklmnopqrstuvwxyz":Str).cps.toList=(List.range 26).map fun k=>97+k:=by decide +kernel
theorem in_abc(c:Nat):txIn (ch c) "abcdefghijklmnopqrstuvwxyz"=ltr c:=by
 unfold txIn
 rw[show ch c=⟨#[c]⟩from rfl,StrLaws.found_one,abc_cps]
 unfold ltr
 rw[Bool.eq_iff_iff,decide_eq_true_eq,decide_eq_true_eq]
 simp only[List.mem_map,List.mem_range]
 constructor
 ·rintro⟨k,hk,rfl⟩;omega
 ·intro h;exact⟨c-97,by omega,by omega⟩
theorem name_comp(l:List Nat):kLoop tYes (c2 (oInS false) (cVar 0) (cK (.str "abcdefghijklmnopqrstuvwxyz"))) [.emp] (l.map fun c=>D.str (ch c))=pure (l.map fun c=>D.bl (ltr c)):=
 comp_all (fun c=>D.str (ch c)) (fun c=>D.bl (ltr c)) l fun c _=>by simp[in_abc]
structure Nm(l:List Nat):Prop where
 p1:1≤l.length
 p8:l.length≤8
 al:l.all ltr=true
theorem is_name_tx{l:List Nat}(h:Nm l):m_is_name [.str (tx l)]=pure (.v (.bl true)):=by
 have hs:l.length≤sizeLine:=size1000 (by have:=h.p8;omega)
 have hs':l.length<sizeLine:=by rw[sizeLine_eq];have:=h.p8;omega
 have hb:bls (l.map fun c=>D.bl (ltr c))=some (l.map ltr):=bls_map ltr _
 have hc:=name_comp l
 have hall:(l.map ltr).all id=true:=by rw[List.all_map];exact h.al
 have h1i:(1:Int)≤(l.length:Int):=by have:=h.p1;omega
 have h2i:(l.length:Int)≤8:=by have:=h.p8;omega
 simp only[m_is_name,b_is_name,b_is_name_1]
 simp[tx_len,hs,h1i,h2i,chD_tx,hc,hb,hall,hs']
theorem abc_at{i:Int}(h0:0≤i)(h:i<26):∃c,oIx (.v (.str "abcdefghijklmnopqrstuvwxyz")) (.v (.int i))=pure (.v (.str (tx [c])))∧ltr c=true:=by
 obtain⟨c,e⟩:=atI_some (xs:=("abcdefghijklmnopqrstuvwxyz":Str).cps.toList) (i:=i) h0 (by rw[abc_cps];simpa using h)
 refine⟨c,?_,?_⟩
 ·show(match atI ("abcdefghijklmnopqrstuvwxyz":Str).cps.toList i with
   |some c=>if("abcdefghijklmnopqrstuvwxyz":Str).length≤sizeLine then(pure (R.v (.str ⟨#[c]⟩)):M R)else bad
   | none=>bad)=_
  rw[e]
  dsimp only
  rw[if_pos (size1000 (by decide +kernel))]
  rfl
 ·have:=atI_mem e
  rw[abc_cps]at this
  obtain⟨k,hk,rfl⟩:=List.mem_map.mp this
  have:=List.mem_range.mp hk
  simp[ltr];omega
theorem m_txt:("m":Str)=tx [109]:=by decide +kernel
theorem e_txt:("":Str)=tx []:=by decide +kernel
theorem law_name_eq(c:Int):∃a,m_law_name [.int c]=pure (.v (.str (tx a)))∧Nm a:=by
 have h8:=mod_lt (a:=c) (b:=8) (by decide)
 obtain⟨z,hz,hz9⟩:∃z:Nat,1+c % 8=(z:Nat)∧1≤z∧z≤8:=⟨(1+c % 8).toNat,by omega,by omega,by omega⟩
 have h26:=mod_lt (a:=c / 64) (b:=26) (by decide)
 obtain⟨x,e1,hx⟩:=abc_at h26.1 h26.2
 have zp:0<z:=by omega
 obtain⟨σ',e,a,s4,rfl,ho,hl⟩:=for_inv (b:=fun d σ=>l_law_name_0 (σ.set 4 (.val d))) (ds:=rngD 0 z) (σ:=[.val (.int c),.val (.int (z:Nat)),.val (.int (c / 8 % (z:Nat))),.val (.str (tx [])),.emp])
  (fun i σ=>∃(a:List Nat)(s4:Slot),σ=[.val (.int c),.val (.int (z:Nat)),.val (.int (c / 8 % (z:Nat))),.val (.str (tx a)),s4]∧a.all ltr=true∧a.length=i)
  ⟨[],_,rfl,rfl,rfl⟩ (fun i d σ hd ⟨a,s4,es,ho,hl⟩=>by
   subst es
   have hi:i<z:=by
    have:=(List.getElem?_eq_some_iff.mp hd).1
    rwa[show(rngD 0 z).length=z by simp[rngD]]at this
   obtain⟨j,rfl⟩:∃j:Int,d=.int j:=by
    have:=List.mem_of_getElem? hd
    simp only[rngD]at this
    obtain⟨j,_,rfl⟩:=List.mem_map.mp this
    exact⟨_,rfl⟩
   have z2:a.length+1≤sizeLine:=size1000 (by omega)
   by_cases q:j=c / 8 % (z:Nat)
   ·refine⟨_,.inl (?_:_=pure (Fl.nx [.val (.int c),.val (.int (z:Nat)),.val (.int (c / 8 % (z:Nat))),.val (.str (tx (a++[x]))),.val (.int j)])),_,_,rfl,by rw[List.all_append,ho];simpa using hx,by rw[List.length_append,hl];rfl⟩
    simp only[l_law_name_0]
    simp[q,e1,tx_len,tx_app,z2]
   ·refine⟨_,.inl (?_:_=pure (Fl.nx [.val (.int c),.val (.int (z:Nat)),.val (.int (c / 8 % (z:Nat))),.val (.str (tx (a++[109]))),.val (.int j)])),_,_,rfl,by rw[List.all_append,ho];decide,by rw[List.length_append,hl];rfl⟩
    simp only[l_law_name_0,m_txt]
    simp[q,tx_len,tx_app,z2])
 have hl:a.length=z:=by rw[hl];simp[rngD]
 refine⟨a,?_,⟨by omega,by omega,ho⟩⟩
 have z1:(z:Int)<4611686018427387904:=by omega
 simp only[m_law_name,b_law_name,b_law_name_1,b_law_name_2,b_law_name_3,b_law_name_4,e_txt]
 simp[hz,zp,e,z1]
theorem eS{x y:Str}(hx:PyData.strOk x=true)(hy:PyData.strOk y=true):oEq (.v (.str x)) (.v (.str y))=pure (.v (.bl (x==y))):=e_eq (x:=.v (.str x)) (y:=.v (.str y)) hx hy
theorem ok_kname:PyData.strOk "name"=true:=by decide +kernel
theorem ok_knum:PyData.strOk "number"=true:=by decide +kernel
theorem part_name{l:List Nat}(h:Nm l):m_is_part [.str "name",.str (tx l)]=pure (.v (.bl true)):=by
 have f:=is_name_tx h
 have q:=eS ok_kname ok_kname
 rw[show(("name":Str) == "name")=true by simp]at q
 simp only[m_is_part,b_is_part]
 generalize tx l=x at f ⊢
 simp[q,f]
theorem num_eq{n:Int}(h:-(10 ^ 60)<n∧n<10 ^ 60):m_is_number [.int n]=pure (.v (.bl true)):=by
 have w:=whole_int n
 have e:decide ((if n<0 then -n else n)<1000000000000000000000000000000000000000000000000000000000000)=true:=by
  rw[decide_eq_true_eq]
  have h1:=h.1
  have h2:=h.2
  split<;>omega
 simp only[m_is_number,b_is_number]
 rw[←e]
 simp[w]
theorem part_num{n:Int}(h:-(10 ^ 60)<n∧n<10 ^ 60):m_is_part [.str "number",.int n]=pure (.v (.bl true)):=by
 have f:=num_eq h
 have q:=eS ok_knum ok_kname
 rw[show(("number":Str) == "name")=false by decide +kernel]at q
 have q2:=eS ok_knum ok_knum
 rw[show(("number":Str) == "number")=true by simp]at q2
 simp only[m_is_part,b_is_part,b_is_part_1]
 simp[q,q2,f]
theorem form_put:ktab_FORMS.lookup ("put":Str)=some (.tup [.str "name",.str "number"]):=rfl
theorem form_add:ktab_FORMS.lookup ("add":Str)=some (.tup [.str "name",.str "number"]):=rfl
theorem cut_1(x:D)(ps:List D):cutD (x::ps) (some 1) none=ps:=cut_drop (x::ps) 1
structure Deed(d:D):Prop where
 ex:∃(w:Str)(l:List Nat)(n:Int),d=.tup [.str w,.str (tx l),.int n]∧ktab_FORMS.lookup w=some (.tup [.str "name",.str "number"])∧Nm l∧(-(10 ^ 60)<n∧n<10 ^ 60)
theorem is_deed_eq{d:D}(h:Deed d):m_is_deed [d]=pure (.v (.bl true)):=by
 obtain⟨w,l,n,rfl,fl,hl,hn⟩:=h.ex
 have p1:=part_name hl
 have p2:=part_num hn
 have zz:2<sizeLine:=by rw[sizeLine_eq];omega
 generalize tx l=x at p1 ⊢
 have kl:kLoop2 tYes (cCall m_is_part (cCons (cVar 0) (cCons (cVar 1) cNil))) [.emp,.emp] [(.str "name",.str x),(.str "number",.int n)]=pure [.bl true,.bl true]:=by
  simp[kLoop2,p1,p2]
 simp only[m_is_deed,b_is_deed,b_is_deed_1,b_is_deed_2,b_is_deed_3,m_form_of,b_form_of]
 simp[fl,cut_1,kl,bls,zz,zipP,R.walk]
theorem law_deed_eq(c s:Int):∃d,m_law_deed [.int c,.int s]=pure (.v d)∧Deed d:=by
 obtain⟨l,e1,hl⟩:=law_name_eq (s+64*(c / 6 % 3))
 have h40:=mod_lt (a:=c / 6) (b:=10 ^ 40) (by decide)
 have h3:=mod_lt (a:=c) (b:=3) (by decide)
 obtain⟨w,ew,hw⟩:∃w:Str,atI [D.str "put",.str "add",.str "add"] (c % 3)=some (.str w)∧ktab_FORMS.lookup w=some (.tup [.str "name",.str "number"]):=by
  rcases(by omega:c % 3=0∨c % 3=1∨c % 3=2)with h | h | h
  ·exact⟨"put",by rw[h];simp,form_put⟩
  ·exact⟨"add",by rw[h];simp,form_add⟩
  ·exact⟨"add",by rw[h];simp,form_add⟩
 generalize hX:c / 6 % 10 ^ 40=X at h40
 refine⟨.tup [.str w,.str (tx l),.int (if c % 5=0 then 0-X else X)],?_,⟨w,l,_,rfl,hw,hl,by split<;>omega⟩⟩
 simp only[m_law_deed,b_law_deed,b_law_deed_1,b_law_deed_2]
 generalize tx l=x at e1 ⊢
 have hX':c / 6 % 10000000000000000000000000000000000000000=X:=hX
 have cm:CMulB 64 (c / 6 % 3):=.inl ⟨by decide,by decide⟩
 by_cases q:c % 5=0
 ·simp[q,hX',e1,ew,cm]
 ·simp[q,hX',e1,ew,cm]
end K32
namespace K32
open PySem PySem.Spec L2 L3
theorem zipD_get{xs:List D}{i:Nat}{d:D}(h:(zipD xs xs)[i]? = some d):∃x,xs[i]? = some x∧d=.tup [x,x]:=by
 unfold zipD at h
 rw[List.getElem?_map]at h
 cases e:(xs.zip xs)[i]? with
 |none=>rw[e]at h;cases h
 |some p=>
  rw[e]at h
  cases h
  obtain⟨a,b⟩:=List.getElem?_zip_eq_some.mp e
  rw[a]at b
  exact⟨p.1,a,by show D.tup [p.1,p.2]=_;rw[←Option.some.inj b]⟩
theorem same_refl:∀(n:Nat)(d:D),Ok n d→m_law_same (n+1) [d,d]=pure (.v (.bl true)):=by
 have seq:∀(n:Nat)(xs:List D)(s:Slot),(∀x∈xs,m_law_same n [x,x]=pure (.v (.bl true)))→∃σ',fLoop (tupB [2,3] (l_law_same_0 (m_law_same n))) (zipD xs xs) [s,s,.emp,.emp]=pure (.nx σ'):=fun n xs s h=>by
  obtain⟨σ',e,s2,s3,rfl⟩:=for_inv (b:=tupB [2,3] (l_law_same_0 (m_law_same n))) (ds:=zipD xs xs) (σ:=[s,s,.emp,.emp])
   (fun i σ=>∃s2 s3,σ=[s,s,s2,s3]) ⟨_,_,rfl⟩ (fun i d σ hx ⟨s2,s3,es⟩=>by
    subst es
    obtain⟨x,hx',rfl⟩:=zipD_get hx
    have hx:=h x (List.mem_of_getElem? hx')
    refine⟨_,.inl (?_:_=pure (Fl.nx ([s,s,.val x,.val x]))),_,_,rfl⟩
    simp only[l_law_same_0]
    simp[tupB,setsD,hx])
  exact⟨_,e⟩
 intro n
 induction n with
 |zero=>
  intro d h
  cases d with
  |non=>simp[m_law_same,b_law_same,b_law_same_1,fIsi2,R.kind,isiB,kdN]
  |bl b=>simp[m_law_same,b_law_same,b_law_same_1,b_law_same_2,fIsi2,R.kind,isiB,kdN,eq_bl]
  |int i=>simp[m_law_same,b_law_same,b_law_same_1,b_law_same_2,b_law_same_3,fIsi2,R.kind,isiB,kdN]
  |str x=>simp[m_law_same,b_law_same,b_law_same_1,b_law_same_2,b_law_same_3,b_law_same_4,fIsi2,R.kind,isiB,kdN,eq_str h.1]
  | tup xs=>exact absurd h.1 (by intro z;cases z)
  | lst xs=>exact absurd h.1 (by intro z;cases z)
  | dic _ _=>exact absurd h.1 (by intro z;cases z)
  | fn _=>exact absurd h.1 (by intro z;cases z)
  | ty _=>exact absurd h.1 (by intro z;cases z)
 |succ n ih=>
  intro d h
  have parts:∀xs:List D,gdAll xs n=true→(decide (xs.length≤1000)&&widAll xs)=true→(∀x∈xs,m_law_same (n+1) [x,x]=pure (.v (.bl true))):=fun xs h1 h2=>by
   rw[Bool.and_eq_true]at h2
   exact fun x hx=>ih x ⟨gdAll_iff.mp h1 x hx,widAll_iff.mp h2.2 x hx⟩
  cases d with
  |non=>simp[m_law_same,b_law_same,b_law_same_1,fIsi2,R.kind,isiB,kdN]
  |bl b=>simp[m_law_same,b_law_same,b_law_same_1,b_law_same_2,fIsi2,R.kind,isiB,kdN,eq_bl]
  |int i=>simp[m_law_same,b_law_same,b_law_same_1,b_law_same_2,b_law_same_3,fIsi2,R.kind,isiB,kdN]
  |str x=>simp[m_law_same,b_law_same,b_law_same_1,b_law_same_2,b_law_same_3,b_law_same_4,fIsi2,R.kind,isiB,kdN,eq_str h.1]
  |tup xs=>
   obtain⟨σ',S⟩:=seq (n+1) xs (.val (.tup xs)) (parts xs h.1 h.2)
   have n1:oNe (.v (.bl true)) (.v (.bl true))=pure (.v (.bl false)):=by rw[e_ne rfl rfl];simp[peq]
   have n2:oNe (.v (.int xs.length)) (.v (.int xs.length))=pure (.v (.bl false)):=by rw[e_ne rfl rfl];simp[peq]
   rw[m_law_same]
   simp[b_law_same,fIsi2,R.kind,isiB,kdN,S,n1,n2,zipR,R.walk]
  |lst xs=>
   obtain⟨σ',S⟩:=seq (n+1) xs (.vw xs) (parts xs h.1 h.2)
   have n1:oNe (.v (.bl false)) (.v (.bl false))=pure (.v (.bl false)):=by rw[e_ne rfl rfl];simp[peq]
   have n2:oNe (.v (.int xs.length)) (.v (.int xs.length))=pure (.v (.bl false)):=by rw[e_ne rfl rfl];simp[peq]
   rw[m_law_same]
   simp[b_law_same,fIsi2,R.kind,isiB,kdN,S,n1,n2,zipR,R.walk]
  | dic _ _=>exact absurd h.1 (by intro z;cases z)
  | fn _=>exact absurd h.1 (by intro z;cases z)
  | ty _=>exact absurd h.1 (by intro z;cases z)
end K32
namespace K32
open PySem PySem.Spec L2 L3 M3 M1 M5
noncomputable def blankD:D:=.tup [.tup [],.tup [],.tup [.int 0,.non],.non]
noncomputable def stD(s m:Int):D:=.tup [.int s,.int m]
noncomputable def ask(me:Int)(h:D)(gr:Int)(st:D)(wi:Int)(deed:D)(stg:Str):Tr:=
 .ob "Asker" ["me","epoch","hall","opening","over_known","greatest_round","last_stamp","wishes","deed","standing","last_outcome","grants","kept_mask","told_slate"]
  [.lf (.int me),.lf (.int 0),.lf h,.lf blankD,.lf (.bl false),.lf (.int gr),.lf st,.lf (.int wi),.lf deed,.lf (.str stg),.lf .non,.ls [],.lf (.int 0),.lf .non]
noncomputable def askD(me:Int)(st:D)(k:Nat):D:=.tup [.str "ask",.int me,nD k,.int 0,st,.tup []]
theorem init_eq(me:Int)(h:D):m_Asker___init__ [.ob "Asker" [] []] [.int me,h]=pure [ask me h 0 (stD 0 0) 0 .non "calm"]:=by
 simp[m_Asker___init__,b_Asker___init__,b_Asker___init___1,b_Asker___init___2,b_Asker___init___3,b_Asker___init___4,b_Asker___init___5,b_Asker___init___6,b_Asker___init___7,b_Asker___init___8,b_Asker___init___9,b_Asker___init___10,b_Asker___init___11,b_Asker___init___12,b_Asker___init___13,m_blank,b_blank,ask,blankD,stD]
theorem ask_members_eq{h:D}{ms:List Nat}(hm:m_members_of [h]=pure (.fr (ms.map nD)))(hl:ms.length≤6)(me gr:Int)(st:D)(wi:Int)(deed:D)(stg:Str) :
  m_Asker_ask_members [ask me h gr st wi deed stg] []=pure (.fr (ms.map (askD me (stD (gr+1) me))),[ask me h (gr+1) (stD (gr+1) me) wi deed "asking"]):=by
 have z:(ms.map nD).length<sizeLine:=by rw[List.length_map];exact small1000 (by omega)
 have c:kLoop tYes (cCall m_ask_letter (cCons (cLeaf (pAt (pVar 1) "Asker" 0 "me")) (cCons (cVar 0) (cCons (cLeaf (pAt (pVar 1) "Asker" 1 "epoch")) (cCons (cLeaf (pAt (pVar 1) "Asker" 6 "last_stamp")) cNil)))))
   [.emp,.tr .view (ask me h (gr+1) (stD (gr+1) me) wi deed "asking")] (ms.map nD)=pure (ms.map (askD me (stD (gr+1) me))):=
  comp_all nD _ ms fun k _=>by
   unfold askD
   rw[nD_eq]
   simp[ask,m_ask_letter,b_ask_letter,stD]
 unfold ask at c
 simp only[m_Asker_ask_members,fnTQ,b_Asker_ask_members]
 generalize ms.map nD=L at *
 generalize ms.map (askD me (stD (gr+1) me))=Y at *
 unfold stD at c
 simp[ask,stD,hm,c,z,trEnd]
theorem stg_eq{x y:Str}(hx:PyData.strOk x=true)(hy:PyData.strOk y=true):oEq (.v (.str x)) (.v (.str y))=pure (.v (.bl (x==y))):=e_eq (x:=.v (.str x)) (y:=.v (.str y)) hx hy
theorem stg_ne{x y:Str}(hx:PyData.strOk x=true)(hy:PyData.strOk y=true):oNe (.v (.str x)) (.v (.str y))=pure (.v (.bl (!(x==y)))):=e_ne (x:=.v (.str x)) (y:=.v (.str y)) hx hy
theorem ok_calm:PyData.strOk "calm"=true:=by decide +kernel
theorem ok_asking:PyData.strOk "asking"=true:=by decide +kernel
theorem ok_late:PyData.strOk "late"=true:=by decide +kernel
theorem begin_eq{h:D}{ms:List Nat}(hm:m_members_of [h]=pure (.fr (ms.map nD)))(hl:ms.length≤6)(me:Int)(deed:D)(hd:deed=.non∨Deed deed) :
  m_Asker_begin [ask me h 0 (stD 0 0) 0 .non "calm"] [deed]=pure (.fr (ms.map (askD me (stD 1 me))),[ask me h 1 (stD 1 me) 1 deed "asking"]):=by
 have e:=ask_members_eq hm hl me 0 (stD 0 0) 1 deed "calm"
 have q:=stg_ne ok_calm ok_calm
 rw[show(!(("calm":Str) == "calm"))=false by simp]at q
 rw[show(0:Int)+1=1 from rfl]at e
 generalize ms.map (askD me (stD 1 me))=Y at *
 have sl:slotOf deed=.val deed:=by
  rcases hd with rfl | hd
  ·rfl
  ·obtain⟨w,l,n,rfl,_⟩:=hd.ex;rfl
 simp only[m_Asker_begin,fnTQ,b_Asker_begin]
 generalize m_Asker_ask_members=F at e ⊢
 unfold ask at e ⊢
 rcases hd with rfl | hd
 ·simp[sl,q,e,trEnd,ns_Asker]
 ·have dd:=is_deed_eq hd
  have nn:oNotN (.v deed) (.v .non)=pure (.v (.bl true)):=by obtain⟨w,l,n,rfl,_⟩:=hd.ex;rfl
  generalize m_is_deed=G at dd ⊢
  generalize oNotN=NN at nn ⊢
  simp[sl,q,e,nn,dd,trEnd,ns_Asker]
theorem bell_calm(me:Int)(h:D)(gr:Int)(st:D)(wi:Int)(deed:D):m_Asker_bell [ask me h gr st wi deed "calm"] []=pure (.fr [],[ask me h gr st wi deed "calm"]):=by
 have q:=stg_eq ok_calm ok_calm
 rw[show(("calm":Str) == "calm")=true by simp]at q
 simp only[m_Asker_bell,fnTQ,b_Asker_bell]
 simp[ask,q,trEnd]
theorem bell_asking{h:D}{ms:List Nat}(hm:m_members_of [h]=pure (.fr (ms.map nD)))(hl:ms.length≤6)(me gr:Int)(st:D)(wi:Int)(deed:D) :
  m_Asker_bell [ask me h gr st wi deed "asking"] []=pure (.fr (ms.map (askD me (stD (gr+1) me))),[ask me h (gr+1) (stD (gr+1) me) wi deed "asking"]):=by
 have e:=ask_members_eq hm hl me gr st wi deed "asking"
 have q:=stg_eq ok_asking ok_calm
 rw[show(("asking":Str) == "calm")=false by decide +kernel]at q
 generalize ms.map (askD me (stD (gr+1) me))=Y at *
 simp only[m_Asker_bell,fnTQ,b_Asker_bell]
 generalize m_Asker_ask_members=F at e ⊢
 unfold ask at e ⊢
 simp[q,e,trEnd,ns_Asker]
noncomputable def mxI(a b:Int):Int:=if a<b then b else a
noncomputable def lateD(k me:Int)(st:D)(p q:Int):D:=.tup [.str "late",.int k,.int me,.int 0,st,.tup [.tup [.int p,.int q]]]
theorem hear_eq(me:Int)(h:D)(gr:Int)(st:D)(wi:Int)(deed:D)(stg:Str)(k:Int)(s:D)(p r:Int) :
  m_Asker_hear [ask me h gr st wi deed stg] [lateD k me s p r]=pure (.fr [],[ask me h (mxI gr p) st wi deed stg]):=by
 have q:=stg_eq ok_late ok_late
 rw[show(("late":Str) == "late")=true by simp]at q
 have n:oNe (.v (.int me)) (.v (.int me))=pure (.v (.bl false)):=by rw[e_ne rfl rfl];simp[peq]
 simp only[m_Asker_hear,fnTQ,b_Asker_hear]
 simp[ask,lateD,q,n,trEnd,mxI]
theorem ok_lst{n:Nat}{xs:List D}(hl:xs.length≤1000)(h:∀x∈xs,Ok n x):Ok (n+1) (.lst xs):=
 have q:=ok_tup hl h
 ⟨q.1,q.2⟩
theorem ok_enc:∀(m:Nat)(r:Rl),r.deep<m→r.wf→Ok (2*m) (enc r)
 |0,r,h,_=>absurd h (Nat.not_lt_zero _)
 | m+1,.kp k,_,_=>by rw[enc_kp];exact ok_int
 |m+1,.ch k ps,h,hw=>by
  simp only[Rl.deep]at h
  simp only[Rl.wf]at hw
  have dl:=deepL_lt (ps:=ps) (n:=m) (by omega)
  have wl:=wfL_iff.mp hw.2.2.2
  rw[enc_ch]
  exact ok2 (n:=2*m+1) ok_int (ok_tup (by rw[List.length_map];omega) fun p hp=>by
   obtain⟨r,hr,rfl⟩:=List.mem_map.mp hp
   exact ok_enc m r (dl r hr) (wl r hr))
theorem ok_hall{a k:Rl}(ha:Good a)(hk:Good k):Ok 11 (hallD a k):=
 ok2 (ok_enc 5 a (by have:=ha.2.1;omega) ha.1) (ok_enc 5 k (by have:=hk.2.1;omega) hk.1)
theorem stands_eq(me:Int){h:D}(gr:Int){st:D}(wi:Int)(deed:D){stg:Str}(hs:PyData.strOk stg=true)(ho:Ok 11 h)(hst:Ok 12 st)(sh:slotOf h=.val h)(ss:slotOf st=.val st) :
  m_law_stands (ask me h gr st wi deed stg) [h,st,.int wi,.str stg]=pure (.v (.bl true)):=by
 have e:=same_refl 13 (.lst [.str stg,st,.int wi,.non,.tup [.int 0,h,blankD],.bl false]) (ok_lst (by simp) (by
  simp only[List.forall_mem_cons]
  exact⟨ok_str hs,hst,ok_int,ok_non,ok3 ok_int ho (ok4 (n:=10) (ok_tup (n:=9) (by simp) fun _ h=>nomatch h) (ok_tup (n:=9) (by simp) fun _ h=>nomatch h) (ok2 (n:=9) ok_int ok_non) ok_non),ok_bl,fun _ h=>nomatch h⟩))
 simp only[m_law_stands,fnTV,b_law_stands,b_law_stands_1,b_law_stands_2]
 rw[show(13:Nat)+1=14 from rfl]at e
 generalize m_law_same 14=F at e ⊢
 unfold blankD at e
 simp[ask,m_Asker_stand,b_Asker_stand,m_Asker_stamp,b_Asker_stamp,m_Asker_number,b_Asker_number,m_Asker_outcome,b_Asker_outcome,m_Asker_place,b_Asker_place,m_Asker_knows_over,b_Asker_knows_over,fnTV,sh,ss,blankD,e,ns_Asker]
end K32
namespace K32
open PySem PySem.Spec L2 L3
theorem cell_at(ns:List Int)(k:Nat):m_law_cell_at [.lst (ns.map D.int),.int (k:Nat)]=pure (.v (.int (ns.getD k 0))):=by
 simp only[m_law_cell_at,b_law_cell_at,b_law_cell_at_1]
 by_cases h:k<ns.length
 ·simp[h,at_ints h]
 ·simp[h]
end K32
namespace K32
open PySem PySem.Spec L2 L3 M3 M1 M5
mutual
theorem names_ne:∀r:Rl,r.wf→r.names≠[]
 |.kp k,_=>fun h=>nomatch h
 |.ch k ps,h=>by
  have h':1≤k∧k≤ps.length∧ps.length≤6∧Rl.wfL ps:=h
  show Rl.namesL ps≠[]
  exact namesL_ne ps h'.2.2.2 (by omega)
theorem namesL_ne:∀ps:List Rl,Rl.wfL ps→0<ps.length→Rl.namesL ps≠[]
 |[],_,h=>absurd h (Nat.lt_irrefl _)
 |r::rs,h,_=>by
  show r.names++Rl.namesL rs≠[]
  exact fun e=>names_ne r h.1 (List.append_eq_nil_iff.mp e).1
end
theorem mem6_len(a k:Rl):(mem6 a k).length≤6:=by
 have:=List.length_filter_le (fun j=>(a.names++k.names).contains j) (List.range 6)
 simpa[mem6]using this
theorem mem6_pos{a k:Rl}(ha:Good a):0<(mem6 a k).length:=by
 obtain⟨x,hx⟩:=List.exists_mem_of_ne_nil _ (names_ne a ha.1)
 refine List.length_pos_of_mem (a:=x) ?_
 unfold mem6
 rw[List.mem_filter,List.mem_range]
 exact⟨names_lt a ha.1 x hx,List.contains_iff_mem.mpr (List.mem_append_left _ hx)⟩
theorem law_asks_eq{a k:Rl}(ha:Good a)(hk:Good k)(me:Int)(st:D)(ss:slotOf st=.val st):m_law_asks [.int me,hallD a k,st]=pure (.fr ((mem6 a k).map (askD me st))):=by
 have e:=law_members_eq ha hk
 have z:((mem6 a k).map nD).length<sizeLine:=by rw[List.length_map];exact small1000 (by have:=mem6_len a k;omega)
 have sh:slotOf (hallD a k)=.val (hallD a k):=rfl
 have c:kLoop tYes (cTup (cCons (cK (.str "ask")) (cCons (cVar 1) (cCons (cVar 0) (cCons (cK (.int 0)) (cCons (cVar 2) (cCons (cTup cNil) cNil))))))) [.emp,.val (.int me),.val st] ((mem6 a k).map nD)=pure ((mem6 a k).map (askD me st)):=
  comp_all nD _ _ fun j _=>by
   unfold askD
   rw[nD_eq]
   simp
 simp only[m_law_asks,b_law_asks]
 generalize(mem6 a k).map nD=L at *
 generalize(mem6 a k).map (askD me st)=Y at *
 generalize hallD a k=h at *
 simp[sh,ss,e,c,z]
theorem late_eq{a k:Rl}(ha:Good a)(hk:Good k){me:Int}(h0:0≤me)(h6:me<6)(s m c:Int):∃kk p q,m_law_late [.int me,hallD a k,stD s m,.int c]=pure (.v (lateD kk me (stD s m) p q)):=by
 have e:=law_members_eq ha hk
 have lp:=mem6_pos (k:=k) ha
 have l6:=mem6_len a k
 have sh:slotOf (hallD a k)=.val (hallD a k):=rfl
 have m4:=mod_lt (a:=c / 18) (b:=4) (by decide)
 have mL:=mod_lt (a:=c / 3) (b:=((mem6 a k).length:Int)) (by omega)
 obtain⟨x,hx⟩:∃x:Nat,atI ((mem6 a k).map nD) (c / 3 % ((mem6 a k).length:Int))=some (nD x):=by
  obtain⟨v,hv⟩:=atI_some (xs:=(mem6 a k).map nD) mL.1 (by rw[List.length_map];exact mL.2)
  obtain⟨x,_,rfl⟩:=List.mem_map.mp (atI_mem hv)
  exact⟨x,hv⟩
 obtain⟨mo,hmo⟩:∃mo:Int,atI [D.int 0,.int 1,.int 2,.int (c / 72 % 100000000000000000000)] (c / 18 % 4)=some (.int mo):=by
  rcases(by omega:c / 18 % 4=0∨c / 18 % 4=1∨c / 18 % 4=2∨c / 18 % 4=3)with h | h | h | h<;>rw[h]<;>exact⟨_,rfl⟩
 have ln:(((mem6 a k).map nD).length:Int)=((mem6 a k).length:Int):=by rw[List.length_map]
 have nz:0<((mem6 a k).length:Int):=by omega
 generalize((mem6 a k).length:Int)=LL at *
 generalize(mem6 a k).map nD=L at *
 simp only[m_law_late,b_law_late,b_law_late_1,b_law_late_2,b_law_late_3,b_law_late_4]
 rw[nD_eq]at hx
 by_cases q:mo=0
 ·refine⟨(x:Int),s,me+c / 12 % (6-me),?_⟩
  subst q
  generalize hallD a k=h at *
  simp[sh,e,hmo,stD,lateD,ln,hx,nz,h6]
 ·refine⟨(x:Int),s+mo,c / 12 % 6,?_⟩
  generalize hallD a k=h at *
  simp[sh,e,hmo,stD,lateD,ln,hx,nz,q]
theorem begun_eq{a k:Rl}(ha:Good a)(hk:Good k)(ns:List Int)(me seed:Int):∃deed,m_law_begun [ask me (hallD a k) 0 (stD 0 0) 0 .non "calm"] [.lst (ns.map D.int),.int seed]=pure (.fr ((mem6 a k).map (askD me (stD 1 me))),[ask me (hallD a k) 1 (stD 1 me) 1 deed "asking"]):=by
 have hm:m_members_of [hallD a k]=pure (.fr ((mem6 a k).map nD)):=members_of_eq ha hk
 have c3:m_law_cell_at [.lst (ns.map D.int),.int 3]=pure (.v (.int (ns.getD 3 0))):=cell_at ns 3
 generalize ns.getD 3 0=c at c3
 have B:=begin_eq hm (mem6_len a k) me
 generalize(mem6 a k).map (askD me (stD 1 me))=Y at B ⊢
 generalize hallD a k=h at B ⊢
 by_cases q0:c % 3=0
 ·refine⟨.non,?_⟩
  have b:=B .non (.inl rfl)
  simp only[m_law_begun,fnTQ,b_law_begun]
  generalize m_Asker_begin=F at b ⊢
  unfold ask at b ⊢
  simp[c3,q0,b,trEnd,ns_Asker]
 ·by_cases q1:c % 3=1
  ·refine⟨.non,?_⟩
   have b:=B .non (.inl rfl)
   simp only[m_law_begun,fnTQ,b_law_begun]
   generalize m_Asker_begin=F at b ⊢
   unfold ask at b ⊢
   simp[c3,q1,b,trEnd,ns_Asker]
  ·obtain⟨d,e,hd⟩:=law_deed_eq (c / 3 % 100000000000000000000000000000000000000000000000000) seed
   refine⟨d,?_⟩
   have b:=B d (.inr hd)
   simp only[m_law_begun,fnTQ,b_law_begun]
   generalize m_Asker_begin=F at b ⊢
   generalize m_law_deed=G at e ⊢
   unfold ask at b ⊢
   simp[c3,q0,q1,e,b,trEnd,ns_Asker]
theorem ok_st(n:Nat)(s m:Int):Ok (n+1) (stD s m):=ok2 ok_int ok_int
theorem same_asks(ms:List Nat)(hl:ms.length≤6)(me s m:Int):m_law_same 14 [.lst (ms.map (askD me (stD s m))),.lst (ms.map (askD me (stD s m)))]=pure (.v (.bl true)):=
 same_refl 13 _ (ok_lst (by rw[List.length_map];omega) fun x hx=>by
  obtain⟨k,_,rfl⟩:=List.mem_map.mp hx
  exact ok6 (n:=11) (ok_str (by decide +kernel)) ok_int ok_int ok_int (ok_st _ s m) (ok_tup (n:=10) (by simp) fun _ h=>nomatch h))
theorem same_nil:m_law_same 14 [.lst [],.lst []]=pure (.v (.bl true)):=same_refl 13 _ (ok_lst (by simp) fun _ h=>nomatch h)
noncomputable abbrev Lk(ns:List Int)(h:D)(me:Int)(top t:Int)(deed:D)(ls:List D)(xs:List Int)(s7 s8:Slot):En:=
 [.vw (ns.map D.int),.val h,.val (.int me),.tr .own (ask me h top (stD t me) 1 deed "asking"),.ow false ls,.val (.int top),.ow false ((xs++[t]).map fun x=>stD x me),s7,s8]
theorem last_at(xs:List Int)(t me:Int):atI ((xs++[t]).map fun x=>stD x me) (-1)=some (stD t me):=by
 have e:ixN (xs.length+1) (-1)=some xs.length:=by unfold ixN;simp;omega
 unfold atI
 simp[e]
theorem step{a k:Rl}(ha:Good a)(hk:Good k){me:Int}(h0:0≤me)(h6:me<6)(ns:List Int)(top t:Int)(deed:D)(ls:List D)(hls:ls.length≤6)(xs:List Int)(hx:xs.length≤70)(s8:Slot)(c:Int) :
  ∃top' t' ls' xs' s8',ls'.length≤6∧xs'.length≤xs.length+1∧l_law_0 (Lk ns (hallD a k) me top t deed ls xs (.val (.int c)) s8)=pure (.nx (Lk ns (hallD a k) me top' t' deed ls' xs' (.val (.int c)) s8')):=by
 have hm:m_members_of [hallD a k]=pure (.fr ((mem6 a k).map nD)):=members_of_eq ha hk
 have oh:=ok_hall ha hk
 have sh:slotOf (hallD a k)=.val (hallD a k):=rfl
 have zl:ls.length<sizeLine:=small1000 (by omega)
 have zx:(xs++[t]).length<sizeLine:=small1000 (by rw[List.length_append];simp;omega)
 have zx':((xs++[t]).map fun x=>stD x me).length<sizeLine:=by rw[List.length_map];exact zx
 by_cases q:c % 3=0
 ·refine⟨top+1,top+1,(mem6 a k).map (askD me (stD (top+1) me)),xs++[t],s8,by rw[List.length_map];exact mem6_len a k,by simp,?_⟩
  have b:=bell_asking hm (mem6_len a k) me top (stD t me) 1 deed
  have as:=law_asks_eq ha hk me (stD (top+1) me) rfl
  have sm:=same_asks (mem6 a k) (mem6_len a k) me (top+1) me
  have sd:=stands_eq me (top+1) (st:=stD (top+1) me) 1 deed ok_asking oh (ok_st _ _ _) sh rfl
  have la:=last_at (xs++[t]) (top+1) me
  unfold Lk
  simp only[l_law_0]
  rw[show((xs++[t]++[top+1]).map fun x=>stD x me)=((xs++[t]).map fun x=>stD x me)++[stD (top+1) me]by rw[List.map_append];rfl]at la ⊢
  generalize(mem6 a k).map (askD me (stD (top+1) me))=Y at *
  generalize((xs++[t]).map fun x=>stD x me)=Z at *
  generalize m_law_same 14=F1 at *
  generalize m_law_stands=F2 at *
  generalize m_Asker_bell=F3 at *
  generalize m_law_asks=F4 at *
  generalize hallD a k=h at *
  unfold ask at b sd ⊢
  unfold stD at *
  simp[q,zl,zx',b,as,sm,sd,la,ns_Asker]
 ·have mL:=mod_lt (a:=c / 3) (b:=(((xs++[t]).map fun x=>stD x me).length:Int)) (by rw[List.length_map,List.length_append];simp)
  obtain⟨x,hx'⟩:∃x:Int,atI ((xs++[t]).map fun x=>stD x me) (c / 3 % (((xs++[t]).map fun x=>stD x me).length:Int))=some (stD x me):=by
   obtain⟨v,hv⟩:=atI_some (xs:=(xs++[t]).map fun x=>stD x me) mL.1 mL.2
   obtain⟨x,_,rfl⟩:=List.mem_map.mp (atI_mem hv)
   exact⟨x,hv⟩
  obtain⟨kk,p,r,lt⟩:=late_eq ha hk h0 h6 x me (c % 1000000000000000000000000000000000000000000000000000000000000)
  refine⟨mxI top p,t,[],xs,.val (lateD kk me (stD x me) p r),by simp,by omega,?_⟩
  have b:=hear_eq me (hallD a k) top (stD t me) 1 deed "asking" kk (stD x me) p r
  have sm:=same_nil
  have sd:=stands_eq me (mxI top p) (st:=stD t me) 1 deed ok_asking oh (ok_st _ _ _) sh rfl
  have la:=last_at xs t me
  have lp:0<((xs++[t]).map fun x=>stD x me).length:=by rw[List.length_map,List.length_append];simp
  unfold Lk
  simp only[l_law_0]
  generalize((xs++[t]).map fun x=>stD x me)=Z at *
  generalize m_law_same 14=F1 at *
  generalize m_law_stands=F2 at *
  generalize m_Asker_hear=F3 at *
  generalize m_law_late=F4 at *
  generalize hallD a k=h at *
  have qn:¬(c % 3=0):=q
  unfold ask at b sd ⊢
  unfold mxI at b sd ⊢
  unfold stD lateD at *
  simp[qn,zl,lt,b,sm,sd,la,hx',lp,ns_Asker]
theorem law_loop{a k:Rl}(ha:Good a)(hk:Good k){me:Int}(h0:0≤me)(h6:me<6)(ns cs:List Int)(hc:cs.length≤63)(deed:D)(ls:List D)(hls:ls.length≤6) :
  ∃σ',fLoop (fun d σ=>l_law_0 (σ.set 7 (.val d))) (cs.map D.int) (Lk ns (hallD a k) me 1 1 deed ls [] .emp .emp)=pure (.nx σ'):=by
 obtain⟨σ',e,_⟩:=for_inv (b:=fun d σ=>l_law_0 (σ.set 7 (.val d))) (ds:=cs.map D.int) (σ:=Lk ns (hallD a k) me 1 1 deed ls [] .emp .emp)
  (fun i σ=>∃top t ls xs s7 s8,ls.length≤6∧xs.length≤i∧σ=Lk ns (hallD a k) me top t deed ls xs s7 s8) ⟨_,_,_,_,_,_,hls,Nat.le_refl _,rfl⟩ (fun i d σ hd ⟨top,t,ls,xs,s7,s8,q1,q2,es⟩=>by
   subst es
   have hi:i<63:=by
    have:=(List.getElem?_eq_some_iff.mp hd).1
    rw[List.length_map]at this
    omega
   obtain⟨c,_,rfl⟩:=List.mem_map.mp (List.mem_of_getElem? hd)
   obtain⟨top',t',ls',xs',s8',w1,w2,e⟩:=step ha hk h0 h6 ns top t deed ls q1 xs (by omega) s8 c
   exact⟨_,.inl e,top',t',ls',xs',_,s8',w1,by omega,rfl⟩)
 exact⟨σ',e⟩
theorem law_eq(ns:List Int)(hn:ns.length≤63):m_law [.lst (ns.map D.int)]=pure (.v (.bl true)):=by
 have c0:m_law_cell_at [.lst (ns.map D.int),.int 0]=pure (.v (.int (ns.getD 0 0))):=cell_at ns 0
 have c1:m_law_cell_at [.lst (ns.map D.int),.int 1]=pure (.v (.int (ns.getD 1 0))):=cell_at ns 1
 have c2:m_law_cell_at [.lst (ns.map D.int),.int 2]=pure (.v (.int (ns.getD 2 0))):=cell_at ns 2
 generalize ns.getD 0 0=x0 at c0
 generalize ns.getD 1 0=x1 at c1
 generalize ns.getD 2 0=x2 at c2
 have m6:=mod_lt (a:=x1) (b:=6) (by decide)
 obtain⟨a,k,eh,ha,hk⟩:=law_hall_eq (x0 % 600)
 have sh:slotOf (hallD a k)=.val (hallD a k):=rfl
 have oh:=ok_hall ha hk
 have i0:=init_eq (x1 % 6) (hallD a k)
 have b0:=bell_calm (x1 % 6) (hallD a k) 0 (stD 0 0) 0 .non
 have d0:=stands_eq (x1 % 6) 0 (st:=stD 0 0) 0 .non ok_calm oh (ok_st _ _ _) sh rfl
 obtain⟨deed,bg⟩:=begun_eq ha hk ns (x1 % 6) (x2 % 512)
 have as:=law_asks_eq ha hk (x1 % 6) (stD 1 (x1 % 6)) rfl
 have sm:=same_asks (mem6 a k) (mem6_len a k) (x1 % 6) 1 (x1 % 6)
 have d1:=stands_eq (x1 % 6) 1 (st:=stD 1 (x1 % 6)) 1 deed ok_asking oh (ok_st _ _ _) sh rfl
 have cd:cutD (ns.map D.int) (some 4) none=(ns.drop 4).map D.int:=by rw[List.map_drop];exact cut_drop (ns.map D.int) 4
 obtain⟨σ',L⟩:=law_loop ha hk m6.1 m6.2 ns (ns.drop 4) (by rw[List.length_drop];omega) deed ((mem6 a k).map (askD (x1 % 6) (stD 1 (x1 % 6)))) (by rw[List.length_map];exact mem6_len a k)
 have sn:=same_nil
 have zc:(ns.drop 4).length<sizeLine:=small1000 (by rw[List.length_drop];omega)
 generalize hme:x1 % 6=me at m6 i0 b0 d0 bg as sm d1 L
 unfold Lk at L
 simp only[m_law,b_law,b_law_1,b_law_2,b_law_3,b_law_4,b_law_5,b_law_6,b_law_7,b_law_8,b_law_9]
 generalize(mem6 a k).map (askD me (stD 1 me))=Y at *
 generalize m_law_same 14=F1 at *
 generalize m_law_stands=F2 at *
 generalize m_Asker_bell=F3 at *
 generalize m_law_asks=F4 at *
 generalize m_law_begun=F5 at *
 generalize m_Asker___init__=F6 at *
 generalize l_law_0=F7 at *
 generalize m_law_hall=F8 at *
 generalize m_law_cell_at=F9 at *
 generalize hallD a k=h at *
 unfold ask at i0 b0 d0 bg d1 L
 unfold stD at *
 simp only[List.nil_append,List.map_cons,List.map_nil,List.map_drop]at L
 simp[c0,c1,c2,eh,hme,sh,i0,b0,d0,bg,as,sm,d1,cd,L,sn,zc,ns_Asker]
theorem law_true(ns:List Int)(hn:ns.length≤63):∃S',(m_law [.lst (ns.map D.int)]).run []=.ok (.v (.bl true)) S':=⟨[],by rw[law_eq ns hn];rfl⟩
end K32
namespace PySem.W.Fast
def te16710578820938366531:=0
def te6487068004061032599:=0
def te363358319361761238:=0
def te5030518865598097003:=0
def te17323076113447327151:=0
def te6986790084248787018:=0
def te2141180524065107479:=0
def te7366798219114476698:=0
def te6917263605897314796:=0
def te10283533953123608791:=0
def te2373876473673429733:=0
def te16687097593045912860:=0
def te15301873473326125726:=0
def te13297722243196311474:=0
def te12934174452153772171:=0
def te1518979603548481433:=0
def te3595527254915853193:=0
def te7328590463327234562:=0
def te3134340258676826576:=0
def te17747130396761096837:=0
def te17219663980911517738:=0
def te4967587638826020508:=0
def te7871862555794403590:=0
def te3567186391671754519:=0
def te15290702088206722972:=0
def te15779573549779347587:=0
def te13540097011662789406:=0
def te8416130869149222417:=0
def te14483961544162123823:=0
def te13788415155466761222:=0
def te16116173051053546539:=0
def te9126125983318444738:=0
def te7760172287435065692:=0
def te11520009103111630019:=0
def te16598294244937907075:=0
def te3635998533546119009:=0
def te16004898627952298763:=0
def te15883154548523952860:=0
def te7552500111360786734:=0
def te9872311199228653514:=0
def te1732055406165212171:=0
def te10257660925526482166:=0
def te15634988151004915161:=0
def te2002963772623117347:=0
def te15877667621978645703:=0
def te16827909964813771490:=0
def te2521474150061161184:=0
def te5107813314043242675:=0
def te1359360750434940833:=0
def te532657286614218475:=0
def te1819077459977706235:=0
def te17978614886229515559:=0
def te3945278736279688576:=0
def te10707897740950790329:=0
def te798959566105102255:=0
def te131601326663643834:=0
def te15814837652069752195:=0
def te11346943912908093538:=0
def te10707910698477137578:=0
def te12902412983137462092:=0
def te2448873756020557322:=0
def te13082751463542981020:=0
def te6195343993814298650:=0
def te4028417662813633509:=0
def te2187528870109903617:=0
def te14472203757961187234:=0
def te10014812430729296:=0
def te18357485165932095559:=0
def te17242771357535748130:=0
def te6792494112513392725:=0
def te11864073338513552101:=0
def te6651633930684856570:=0
def te3757187546974345096:=0
def te840670497274502383:=0
def te13481064916576989696:=0
def te3506946227320933671:=0
def te17466152444889728847:=0
def te2174663406527338111:=0
def te9709779871853982963:=0
def te4707229442464788191:=0
def te13163667928079218466:=0
def te16620513772493244549:=0
def te15006488112789745770:=0
def te17554765950344185774:=0
def te3783751977334025713:=0
def te1945578306408738474:=0
def te13161966187098956751:=0
def te7709296331786558604:=0
def te9877960437995253937:=0
def te14080935882571023854:=0
def te1032174529889870205:=0
def te11011791843958100562:=0
def te8779006475253113156:=0
def te8271314302188965214:=0
def te16571496462112518240:=0
def te4818243898720918188:=0
def te1167530868623368729:=0
def te1087732469562157620:=0
def te7726302085929978568:=0
def te5521212137477747836:=0
def te9832703665312526278:=0
def te8735289753061886996:=0
def te414136962879886774:=0
def te11016672326888176149:=0
def te16618973574263584985:=0
def te10340084432232204853:=0
def te10819671009517756774:=0
def te12563421261125691987:=0
def te2738446615578456493:=0
def te10798462323996928278:=0
def te8111155999242295203:=0
def te9376668177652742156:=0
def te14363747301938669016:=0
def te9544685873627789569:=0
def te15872125547687952452:=0
def te1925036729907207927:=0
def te17995936977288346164:=0
def te8086167494603073270:=0
def te569140387870648310:=0
def te11829325435711379192:=0
def te1893420922450483504:=0
def te6908443585046776033:=0
def te12100325586692442457:=0
def te9663243345905380001:=0
def te11703972583457020955:=0
def te6108011314044663930:=0
def te11825967157498690551:=0
def te9817665694660315102:=0
def te15247304479672129936:=0
def te3956911004155259468:=0
def te8842716073632539309:=0
def te9975976320936126852:=0
def te14050163435277024082:=0
def te15152396053202789804:=0
def te13078723492322839456:=0
def te646801737531353341:=0
def te14121998171683163165:=0
def te1256171680272532875:=0
def te15162363233114909517:=0
def te14011177322376633622:=0
def te1178052430954634144:=0
def te16199384022442471943:=0
def te13993167858716385575:=0
def te18374184449186749153:=0
def te6434602239222758088:=0
def te17613727882826910777:=0
def te18132395249470498344:=0
def te3211739114619727809:=0
def te17636203480527083394:=0
def te17620515614362345762:=0
def te7037952244052208597:=0
def te9011080360345209555:=0
def te15604590142395805984:=0
def te7688760340605624496:=0
def te16879195110843014323:=0
def te9514150765299005411:=0
def te6403932854497901589:=0
def te5300699408792281602:=0
def te8553984884080107709:=0
def te18221025947646198313:=0
def te15960945103802027977:=0
def te13847940195667620097:=0
def te17939150451417752911:=0
def te17600554159805012066:=0
def te9446742905372922748:=0
def te8554591583097979830:=0
def te11230913999194502757:=0
def te14786494947414397569:=0
def te16449552157151895778:=0
def te13473543212096039657:=0
def te7318134053259455565:=0
def te10939592381540185821:=0
def te12961464188931082457:=0
def te378887613740126208:=0
def te5931199594103222941:=0
def te13258702666306708787:=0
def te1864384635243961035:=0
def te5436269889693284384:=0
def te13655371254381130320:=0
def te13680336152663029090:=0
def te8277886215180569336:=0
def te4349678549993037308:=0
def te17788698211263373763:=0
def te15836707607868903367:=0
def te2282531322597787542:=0
def te9151614081479018972:=0
def te13456923050506081115:=0
def te17508485227962318076:=0
def te7811894268924576304:=0
def te6089196979249747179:=0
def te15385793605372905783:=0
def te7134695954238363473:=0
def te10789309874151713438:=0
def te4516542154465774147:=0
def te15965064110997245730:=0
def te63126309799413080:=0
def te13081813610451680020:=0
def te9131477474654098965:=0
def te15177140466614986797:=0
def te8972350195165878717:=0
def te13314775967595747496:=0
def te15763783175874256103:=0
def te320921370302997014:=0
def te10350127325497320697:=0
def te3817482425355126449:=0
def te1711991611546559699:=0
def te8791909352568800794:=0
def te18263751079030428674:=0
def te17295189606508381954:=0
def te5760146922894907976:=0
def te7534790978291966708:=0
def te15098690549998844706:=0
def te13449928072010603870:=0
def te3231101926896640164:=0
def te13494955082894413783:=0
def te15667505504020994593:=0
def te10565936062259181907:=0
def te5703500813620654955:=0
def te1723755201518860188:=0
def te14396113699026116475:=0
def te2210328887801483100:=0
def te14939065424967027387:=0
def te14059669394586834389:=0
def te2353209013164185194:=0
def te12981655499235163977:=0
def te11440891450470686983:=0
def te2541002998045849040:=0
def te6136692935691037783:=0
def te1949373518671063730:=0
def te10090904536841784147:=0
def te10611421213575701376:=0
def te3800258999257130545:=0
def te15106720296114485212:=0
def te2108223388476793667:=0
def te16640605052418218902:=0
def te1227174609228043424:=0
def te12457082554829657307:=0
def te11873805041707814939:=0
def te13904965171788938780:=0
def te17084140701832247545:=0
def te17390877933647155760:=0
def te6273732739554464090:=0
def te11155119214181283346:=0
def te10071726434650505219:=0
def te17637501936208359138:=0
def te15474358038118785417:=0
def te13953659531263566982:=0
def te8213490300499968244:=0
def te7080649615419480203:=0
def te517447763972918671:=0
def te886883158631570793:=0
def te15102861819480053804:=0
def te11246691369432370529:=0
def te15055148495773759658:=0
def te8686717926923868692:=0
def te9026991170185122963:=0
def te17916022120042786170:=0
def te18352353175211556715:=0
def te8934601065830803997:=0
def te17482698407614488502:=0
def te10227007083093370752:=0
def te15584878419345029373:=0
def te3158174451181907518:=0
def te5451649351926498456:=0
def te8025059642776886516:=0
def te7969289678347750447:=0
def te13014774187474234130:=0
def te1669284023672784038:=0
def te7649008102727215166:=0
def te7352669230330183980:=0
def te3071949698913925441:=0
def te11173544976260813852:=0
def te3078578333251090574:=0
def te5951044755341347005:=0
def te5955658428215280523:=0
def te10641359382217837462:=0
def te14508901958060584548:=0
def te2440945995738639324:=0
def te831235327906069563:=0
def te17914783109604450135:=0
def te5363826533663476661:=0
def te14620343870321078437:=0
def te1584280961331355968:=0
def te4082079456553285002:=0
def te14065903427756372854:=0
def te4808702249408845495:=0
def te10179171751414044618:=0
def te4824567132571885378:=0
def te8685117355094600093:=0
def te16459777412645299265:=0
def te7061486405895733477:=0
def te16785209320019852810:=0
def te11531283429044382804:=0
def te8099253910194645826:=0
def te7291369194519346314:=0
def te15568271438073674423:=0
def te11755949620793838895:=0
def te11897791740824358274:=0
def te7699230656796511498:=0
def te7273710557102763450:=0
def te7587755924654747890:=0
def te9349461426737795279:=0
def te11830791978775036951:=0
def te3731243231340642917:=0
def te758152456270085765:=0
def te17669772860833017733:=0
def te9864788976437014236:=0
def te3446280192281706242:=0
def te3615625803650039302:=0
def te9679697196659540866:=0
def te1897949023326709198:=0
def te17434602528091408448:=0
def te15811932096618631223:=0
def te4833300872168237865:=0
def te2594765289751210153:=0
def te9148908924279944251:=0
def te7284882444276205979:=0
def te7418299904780457957:=0
def te11935520716634156908:=0
def te14790932782905699314:=0
def te2374341249267048165:=0
def te11795775080590415869:=0
def te4773198818745664609:=0
def te17943404692668188438:=0
def te16150499623223437815:=0
def te15308925455846749285:=0
def te3781582094850017778:=0
def te9059321260496675470:=0
def te10473534058687113844:=0
def te7787245163104181535:=0
def te13092714005443813618:=0
def te12779288973082496097:=0
def te11019741295542075084:=0
def te11869224070994809188:=0
def te5302612733510120728:=0
def te15784660244962320583:=0
def te10113825090221119303:=0
def te11145560388289807911:=0
def te17001366232869960671:=0
def te11040993143296891666:=0
def te17147853112159654739:=0
def te13386889936239034072:=0
def te9484157876676252290:=0
def te9580707875447193402:=0
def te10579588229887341905:=0
def te16595003607188604004:=0
def te15091914265338779677:=0
def te10518880948547149991:=0
def te3233130437501959485:=0
def te573158208798236002:=0
def te15227167386584004314:=0
def te10726200567905019447:=0
def te10114927644769362491:=0
def te5464237342179284167:=0
def te7641873968740174165:=0
def te5185908303718272809:=0
def te11924545557277349635:=0
def te2638950970115708117:=0
def te7259197655945539079:=0
def te11582994546610127031:=0
def te6333310898182860131:=0
def te14208383507514729976:=0
def te15739093649456748369:=0
def te2749384996568974354:=0
def te8876045844413422743:=0
def te836441988348925883:=0
def te15454118294007899019:=0
def te17502303053205930889:=0
def te8927273214794546225:=0
def te17169859770909501406:=0
def te3371404429139102999:=0
def te14712283878852766788:=0
def te13092386718433929644:=0
def te8306244251459071350:=0
def te7175203235453281994:=0
def te17115069136738905935:=0
def te6142190004283882715:=0
def te4233979598697388414:=0
def te7416530952121172484:=0
def te322978448148119509:=0
def te14033087119048826796:=0
def te6363618163526866812:=0
def te18361174445375324538:=0
def te11732194211553374975:=0
def te7281109707499767466:=0
def te6745751123607139104:=0
def te16679292300159878251:=0
def te617916113378455756:=0
def te2320615003471087397:=0
def te13821178711789705900:=0
def te17250274453022916536:=0
def te10086901027432184713:=0
def te461404943795671005:=0
def te16180006754733158080:=0
def te16279436700408826374:=0
def te12906799435155746682:=0
def te15170941417507138874:=0
def te13544806778269213899:=0
def te14088309721599733519:=0
def te6487621499334192073:=0
def te8896710946654587543:=0
def te4517153080102745417:=0
def te12014039484855717709:=0
def te4199698353132305011:=0
def te8086676435285973830:=0
def te6354362003083596187:=0
def te1465980248965090717:=0
def te5019776016395561600:=0
def te14487144803828066180:=0
def te4711845784267109075:=0
def te4112060528755670158:=0
def te2155149266031429176:=0
def te979614003757226890:=0
def te17279287949706187294:=0
def te10749658707843531397:=0
def te5204269138434483625:=0
def te2299942465467180293:=0
def te4750587115854837206:=0
def te7679265260212711972:=0
def te14195055227360852745:=0
def te13421590279248826264:=0
def te1883192642262081280:=0
def te3771915097032504172:=0
def te5657147881897446681:=0
def te14247302609824296981:=0
def te14274863389335004493:=0
def te13135179467140247119:=0
def te2996149950404646096:=0
def te1367484263497752498:=0
def te13489912150250600416:=0
def te1974167593328113169:=0
def te16393318705556099535:=0
def te9678155982680332919:=0
def te11589094583960625245:=0
def te14889849845037652677:=0
def te2087494491527880205:=0
def te14108402274760073412:=0
def te3034498865787523384:=0
def te11036928815602471789:=0
def te17341416307809846722:=0
def te16997618304546427572:=0
def te18204541064475165798:=0
def te17335813401675439726:=0
def te13749645301592766906:=0
def te14258283734060992497:=0
def te8524317171039701534:=0
def te12142832528457115182:=0
def te13160403010731022768:=0
def te10040062647184995816:=0
def te12229998214056320253:=0
def te41852883896600107:=0
def te9363784286784238939:=0
def te4198701455450216760:=0
def te605707382534836492:=0
def te7570885934441889761:=0
def te14681872947313666409:=0
def te17751132718596746519:=0
def te3960857622425110544:=0
def te12590506636657415783:=0
def te288996207985894394:=0
def te8201734964791062758:=0
def te1302401592489915805:=0
def te18271085618006911607:=0
def te7715177717295161887:=0
def te3629909793576929258:=0
def te8866424501347834055:=0
def te3598861995807079598:=0
def te788648995401295665:=0
def te13560666676734479461:=0
def te16087138243957179275:=0
def te6379325128515538487:=0
def te16593119406822725270:=0
def te17929035560006417777:=0
def te2081035290467841826:=0
def te5606666785462465231:=0
def te4033360713800915168:=0
def te5747127124550725404:=0
def te12864034298321371316:=0
def te2127834620978421836:=0
def te13805137904244083838:=0
def te15615633107302120951:=0
def te14382998727012182197:=0
def te9488085177979955076:=0
def te15323957079104436318:=0
def te7455709641208728771:=0
def te14748437836064312866:=0
def te17818551766386078247:=0
def te2397612741179795751:=0
def te11838575823876752006:=0
def te1340154522456821529:=0
def te4974604114021356829:=0
def te9753625945625305369:=0
def te533759566522852485:=0
def te17093040085968784357:=0
def te17576077245363470144:=0
def te9629409994794138890:=0
def te12336270070074449097:=0
def te1329029636433738605:=0
def te13950691854895764203:=0
def te13984441775084244392:=0
def te10734735035115825573:=0
def te13368176152279096113:=0
def te4451716905669483054:=0
def te6307194388406928488:=0
def te343074853188246014:=0
def te7626935217854406515:=0
def te5979833551429312646:=0
def te1794344607110594540:=0
def te14317507675090988177:=0
def te4788234253674259141:=0
def te28570832291732470:=0
def te1083905228191937127:=0
def te10964301487862858014:=0
def te11254403558358580210:=0
def te16031811863615889012:=0
def te2756568203933071999:=0
def te7962565085518088322:=0
def te15366250213245238037:=0
def te13382853698768942490:=0
def te14123438216795369601:=0
def te7127501830968739572:=0
def te7114184737133981993:=0
def te16294227354827206622:=0
def te2403512335742270766:=0
def te1505296328246756786:=0
def te11886069600197547427:=0
def te12511781102546803623:=0
def te17962864527702479633:=0
def te11317355649319061387:=0
def te18076849736814459538:=0
def te7630731248772334275:=0
def te3198710974738349880:=0
def te8278622384867524575:=0
def te2437947394418966421:=0
def te5443039122362091399:=0
def te11764708998213188911:=0
def te7046964702574609545:=0
def te11315363627099858229:=0
def te7101939575314406992:=0
def te15053825679857231562:=0
def te7776548598846373002:=0
def te9962942001543390243:=0
def te9607086926352027948:=0
def te8067488775261924627:=0
def te9549803287834149805:=0
def te10205979638539998328:=0
def te7998196402192836829:=0
def te1064233708865606212:=0
def te11267178535848145560:=0
def te3934127012994226769:=0
def te5700390912311572290:=0
def te8007738518983214210:=0
def te18437169141002800805:=0
def te4256389925660116086:=0
def te798315976413041231:=0
def te5880200495149810139:=0
def te8376921680193918112:=0
def te14121650463882718424:=0
def te11962112854691266689:=0
def te10904773679217997507:=0
def te17521893010427622757:=0
def te3943104309934118142:=0
def te5015009593762034616:=0
def te16350242504209610242:=0
def te3287844060624076640:=0
def te3124909093214004050:=0
def te905909912293613296:=0
def te4124357757686764061:=0
def te12859996781060271735:=0
def te16586169201320313176:=0
def te13661962004491182904:=0
def te15958029329360727992:=0
def te3981336526595976821:=0
def te8524927252765351834:=0
def te5723714673052187569:=0
def te8992961227270400107:=0
def te1124962382342571809:=0
def te10779581208762868263:=0
def te4436365496040086204:=0
def te13436163990621497048:=0
def te3338605500078635709:=0
def te9346735201763345979:=0
def te14052292129966678953:=0
def te10131969814333546436:=0
def te7979924973660663040:=0
def te3786016664013076868:=0
def te3365979548115556532:=0
def te7602014832695744713:=0
def te17720516766089217024:=0
def te12364121652987017340:=0
def te9244991466842374995:=0
def te1418480626987505979:=0
def te4747412465029002156:=0
def te13193570322808014142:=0
def te1173950252784069317:=0
def te11730397952793580214:=0
def te13597839371748629783:=0
def te13456291035279894815:=0
def te6195287323419978583:=0
def te5184007296576916548:=0
def te17717761260405041413:=0
def te12053105014873133065:=0
def te11386677332141254638:=0
def te16777786225653202224:=0
def te9704055208352724924:=0
def te4338665049513167837:=0
def te18125210371415313086:=0
def te14576814354956143581:=0
def te6534141392434788354:=0
def te16355388118082100276:=0
def te11515149677310159144:=0
def te10610801615531680411:=0
def te14555307216483758382:=0
def te4343689078600312096:=0
def te9797739985635908931:=0
def te9498959047974675816:=0
def te4224864769647371010:=0
def te16609726342459964631:=0
def te3270281950056640364:=0
def te10582752739318401065:=0
def te5940062176052126348:=0
def te11923902436375440660:=0
def te1868811221589046469:=0
def te1311110778900823797:=0
def te11590182381892521344:=0
def te8687099171700208792:=0
def te10663889033214959128:=0
def te7020222590643844303:=0
def te16715136547433565234:=0
def te2365665939674862456:=0
def te3108973600161548789:=0
def te2197806552089152482:=0
def te17877317858735590791:=0
def te6545458950106461222:=0
def te5017157995482392995:=0
def te3099206013772093346:=0
def te13172439585582825828:=0
def te18374251695566532146:=0
def te10133422720880147393:=0
def te4297868599967198262:=0
def te13310230779830605560:=0
def te2081976681277515876:=0
def te13553329571529738310:=0
def te12640070654617829369:=0
def te11909316538682012349:=0
def te141502115048688759:=0
def te15548966416241569943:=0
def te2992818037705971596:=0
def te8743382639247592364:=0
def te17732674342467108130:=0
def te7356985611645460596:=0
def te16461939215229082902:=0
def te16316056728699756059:=0
def te8485039104160860170:=0
def te6713072165970061975:=0
end PySem.W.Fast
open PySem PySem.W PyProof.Rows
set_option maxHeartbeats 0 in
theorem PySem.Challenge.cw_oneslate_k32_an_asker_asks_holds : PySem.Challenge.rw_oneslate_k32_an_asker_asks.Holds := by
 w_on;o_law;k_head;(case hw=>w_witness2)
 k_fill
 letI:L2.TabP:=⟨fun _=>False,fun _=>""⟩
 refine L3.walk (l:=PySem.Challenge.rw_oneslate_k32_an_asker_asks) (k:=23) rfl rfl ⟨rfl,by decide,by decide⟩ (fun _ h=>h) (fun w h Y=>PySem.W.km_in_of Y) ?F
 case F=>
  intro w mg fa h KX G hmg
  have c_Asker:L3.ClsT (L2.KOf KX) mg "Asker" K32.ns_Asker:=by
   dsimp only[L2.KOf]
   refine' L3.clsT_mk KX G ?a ?pg ?hd ?po ?sa ?mk ?kc ?na
   (case a=>k_is);(case pg=>k_is);(case hd=>k_is);(case po=>k_is);(case sa=>k_is);(case mk=>k_is);(case kc=>k_is)
   case na=>
    simp only[List.forall_mem_cons]
    refine⟨by k_is,by k_is,by k_is,by k_is,by k_is,by k_is,by k_is,by k_is,by k_is,by k_is,by k_is,by k_is,by k_is,by k_is,fun _ h=>nomatch h⟩
  have d_is_whole:L2.Df (L2.KOf KX) mg "is_whole" K32.s_is_whole ["thing"]:=by
   dsimp only[L2.KOf]
   refine' L3.df_mk KX G ?a ?l ?c ?k (fun _ _ _ _ _ _=>L3.us1 fun _=>rfl)
   (case a=>k_is);(case l=>k_is);(case c=>k_is);(case k=>k_is)
  have d_has_keeper:L2.Df (L2.KOf KX) mg "has_keeper" K32.s_has_keeper ["mask","keeper"]:=by
   dsimp only[L2.KOf]
   refine' L3.df_mk KX G ?a ?l ?c ?k (fun _ _ _ _ _ _=>L3.us2 fun _ _=>rfl)
   (case a=>k_is);(case l=>k_is);(case c=>k_is);(case k=>k_is)
  have d_mask_of:L2.Df (L2.KOf KX) mg "mask_of" K32.s_mask_of ["keepers"]:=by
   dsimp only[L2.KOf]
   refine' L3.df_mk KX G ?a ?l ?c ?k (fun _ _ _ _ _ _=>L3.us1 fun _=>rfl)
   (case a=>k_is);(case l=>k_is);(case c=>k_is);(case k=>k_is)
  have d_keepers_of:L2.Df (L2.KOf KX) mg "keepers_of" K32.s_keepers_of ["mask"]:=by
   dsimp only[L2.KOf]
   refine' L3.df_mk KX G ?a ?l ?c ?k (fun _ _ _ _ _ _=>L3.us1 fun _=>rfl)
   (case a=>k_is);(case l=>k_is);(case c=>k_is);(case k=>k_is)
  have d_masks_within:L2.Df (L2.KOf KX) mg "masks_within" K32.s_masks_within ["mask"]:=by
   dsimp only[L2.KOf]
   refine' L3.df_mk KX G ?a ?l ?c ?k (fun _ _ _ _ _ _=>L3.us1 fun _=>rfl)
   (case a=>k_is);(case l=>k_is);(case c=>k_is);(case k=>k_is)
  have d_is_keeper:L2.Df (L2.KOf KX) mg "is_keeper" K32.s_is_keeper ["thing"]:=by
   dsimp only[L2.KOf]
   refine' L3.df_mk KX G ?a ?l ?c ?k (fun _ _ _ _ _ _=>L3.us1 fun _=>rfl)
   (case a=>k_is);(case l=>k_is);(case c=>k_is);(case k=>k_is)
  have d_is_pair:L2.Df (L2.KOf KX) mg "is_pair" K32.s_is_pair ["thing"]:=by
   dsimp only[L2.KOf]
   refine' L3.df_mk KX G ?a ?l ?c ?k (fun _ _ _ _ _ _=>L3.us1 fun _=>rfl)
   (case a=>k_is);(case l=>k_is);(case c=>k_is);(case k=>k_is)
  have d_is_choice:L2.Df (L2.KOf KX) mg "is_choice" K32.s_is_choice ["thing"]:=by
   dsimp only[L2.KOf]
   refine' L3.df_mk KX G ?a ?l ?c ?k (fun _ _ _ _ _ _=>L3.us1 fun _=>rfl)
   (case a=>k_is);(case l=>k_is);(case c=>k_is);(case k=>k_is)
  have d_is_built:L2.Df (L2.KOf KX) mg "is_built" K32.s_is_built ["thing","deep"]:=by
   dsimp only[L2.KOf]
   refine' L3.df_mk KX G ?a ?l ?c ?k (fun _ _ _ _ _ _=>L3.us2 fun _ _=>rfl)
   (case a=>k_is);(case l=>k_is);(case c=>k_is);(case k=>k_is)
  have d_namings:L2.Df (L2.KOf KX) mg "namings" K32.s_namings ["rule"]:=by
   dsimp only[L2.KOf]
   refine' L3.df_mk KX G ?a ?l ?c ?k (fun _ _ _ _ _ _=>L3.us1 fun _=>rfl)
   (case a=>k_is);(case l=>k_is);(case c=>k_is);(case k=>k_is)
  have d_is_rule:L2.Df (L2.KOf KX) mg "is_rule" K32.s_is_rule ["thing"]:=by
   dsimp only[L2.KOf]
   refine' L3.df_mk KX G ?a ?l ?c ?k (fun _ _ _ _ _ _=>L3.us1 fun _=>rfl)
   (case a=>k_is);(case l=>k_is);(case c=>k_is);(case k=>k_is)
  have d_named:L2.Df (L2.KOf KX) mg "named" K32.s_named ["rule"]:=by
   dsimp only[L2.KOf]
   refine' L3.df_mk KX G ?a ?l ?c ?k (fun _ _ _ _ _ _=>L3.us1 fun _=>rfl)
   (case a=>k_is);(case l=>k_is);(case c=>k_is);(case k=>k_is)
  have d_fills:L2.Df (L2.KOf KX) mg "fills" K32.s_fills ["rule","mask"]:=by
   dsimp only[L2.KOf]
   refine' L3.df_mk KX G ?a ?l ?c ?k (fun _ _ _ _ _ _=>L3.us2 fun _ _=>rfl)
   (case a=>k_is);(case l=>k_is);(case c=>k_is);(case k=>k_is)
  have d_is_least:L2.Df (L2.KOf KX) mg "is_least" K32.s_is_least ["mask","filling"]:=by
   dsimp only[L2.KOf]
   refine' L3.df_mk KX G ?a ?l ?c ?k (fun _ _ _ _ _ _=>L3.us2 fun _ _=>rfl)
   (case a=>k_is);(case l=>k_is);(case c=>k_is);(case k=>k_is)
  have d_least_masks:L2.Df (L2.KOf KX) mg "least_masks" K32.s_least_masks ["rule"]:=by
   dsimp only[L2.KOf]
   refine' L3.df_mk KX G ?a ?l ?c ?k (fun _ _ _ _ _ _=>L3.us1 fun _=>rfl)
   (case a=>k_is);(case l=>k_is);(case c=>k_is);(case k=>k_is)
  have d_first_apart:L2.Df (L2.KOf KX) mg "first_apart" K32.s_first_apart ["mask","others"]:=by
   dsimp only[L2.KOf]
   refine' L3.df_mk KX G ?a ?l ?c ?k (fun _ _ _ _ _ _=>L3.us2 fun _ _=>rfl)
   (case a=>k_is);(case l=>k_is);(case c=>k_is);(case k=>k_is)
  have d_parting:L2.Df (L2.KOf KX) mg "parting" K32.s_parting ["asking","keeping"]:=by
   dsimp only[L2.KOf]
   refine' L3.df_mk KX G ?a ?l ?c ?k (fun _ _ _ _ _ _=>L3.us2 fun _ _=>rfl)
   (case a=>k_is);(case l=>k_is);(case c=>k_is);(case k=>k_is)
  have d_is_hall:L2.Df (L2.KOf KX) mg "is_hall" K32.s_is_hall ["thing"]:=by
   dsimp only[L2.KOf]
   refine' L3.df_mk KX G ?a ?l ?c ?k (fun _ _ _ _ _ _=>L3.us1 fun _=>rfl)
   (case a=>k_is);(case l=>k_is);(case c=>k_is);(case k=>k_is)
  have d_members_mask:L2.Df (L2.KOf KX) mg "members_mask" K32.s_members_mask ["hall"]:=by
   dsimp only[L2.KOf]
   refine' L3.df_mk KX G ?a ?l ?c ?k (fun _ _ _ _ _ _=>L3.us1 fun _=>rfl)
   (case a=>k_is);(case l=>k_is);(case c=>k_is);(case k=>k_is)
  have d_members_of:L2.Df (L2.KOf KX) mg "members_of" K32.s_members_of ["hall"]:=by
   dsimp only[L2.KOf]
   refine' L3.df_mk KX G ?a ?l ?c ?k (fun _ _ _ _ _ _=>L3.us1 fun _=>rfl)
   (case a=>k_is);(case l=>k_is);(case c=>k_is);(case k=>k_is)
  have d_is_name:L2.Df (L2.KOf KX) mg "is_name" K32.s_is_name ["thing"]:=by
   dsimp only[L2.KOf]
   refine' L3.df_mk KX G ?a ?l ?c ?k (fun _ _ _ _ _ _=>L3.us1 fun _=>rfl)
   (case a=>k_is);(case l=>k_is);(case c=>k_is);(case k=>k_is)
  have d_is_number:L2.Df (L2.KOf KX) mg "is_number" K32.s_is_number ["thing"]:=by
   dsimp only[L2.KOf]
   refine' L3.df_mk KX G ?a ?l ?c ?k (fun _ _ _ _ _ _=>L3.us1 fun _=>rfl)
   (case a=>k_is);(case l=>k_is);(case c=>k_is);(case k=>k_is)
  have d_is_fence:L2.Df (L2.KOf KX) mg "is_fence" K32.s_is_fence ["thing"]:=by
   dsimp only[L2.KOf]
   refine' L3.df_mk KX G ?a ?l ?c ?k (fun _ _ _ _ _ _=>L3.us1 fun _=>rfl)
   (case a=>k_is);(case l=>k_is);(case c=>k_is);(case k=>k_is)
  have d_form_of:L2.Df (L2.KOf KX) mg "form_of" K32.s_form_of ["word"]:=by
   dsimp only[L2.KOf]
   refine' L3.df_mk KX G ?a ?l ?c ?k (fun _ _ _ _ _ _=>L3.us1 fun _=>rfl)
   (case a=>k_is);(case l=>k_is);(case c=>k_is);(case k=>k_is)
  have d_is_part:L2.Df (L2.KOf KX) mg "is_part" K32.s_is_part ["kind","thing"]:=by
   dsimp only[L2.KOf]
   refine' L3.df_mk KX G ?a ?l ?c ?k (fun _ _ _ _ _ _=>L3.us2 fun _ _=>rfl)
   (case a=>k_is);(case l=>k_is);(case c=>k_is);(case k=>k_is)
  have d_is_deed:L2.Df (L2.KOf KX) mg "is_deed" K32.s_is_deed ["thing"]:=by
   dsimp only[L2.KOf]
   refine' L3.df_mk KX G ?a ?l ?c ?k (fun _ _ _ _ _ _=>L3.us1 fun _=>rfl)
   (case a=>k_is);(case l=>k_is);(case c=>k_is);(case k=>k_is)
  have d_blank:L2.Df (L2.KOf KX) mg "blank" K32.s_blank []:=by
   dsimp only[L2.KOf]
   refine' L3.df_mk KX G ?a ?l ?c ?k (fun _ _ _ _ _ _=>L3.us0 rfl)
   (case a=>k_is);(case l=>k_is);(case c=>k_is);(case k=>k_is)
  have d_ask_letter:L2.Df (L2.KOf KX) mg "ask_letter" K32.s_ask_letter ["asker","keeper","epoch","stamp"]:=by
   dsimp only[L2.KOf]
   refine' L3.df_mk KX G ?a ?l ?c ?k (fun _ _ _ _ _ _=>L3.us4 fun _ _ _ _=>rfl)
   (case a=>k_is);(case l=>k_is);(case c=>k_is);(case k=>k_is)
  have d_Asker___init__:L3.DfM (L2.KOf KX) mg "Asker" "__init__" "Asker.__init__" K32.s_Asker___init__ ["self","me","hall"]:=by
   dsimp only[L2.KOf]at c_Asker ⊢
   refine' L3.dfm_mk KX G c_Asker ?a ?f ?i ?l ?c ?k (fun _ _ _ _ _ _=>L3.us3 fun _ _ _=>rfl)
   (case a=>k_is);(case f=>k_is);(case i=>k_is);(case l=>k_is);(case c=>k_is);(case k=>k_is)
  have d_Asker_begin:L3.DfMN (L2.KOf KX) mg "Asker" "begin" "Asker.begin" K32.s_Asker_begin ["self","deed"]:=by
   dsimp only[L2.KOf]at c_Asker ⊢
   refine' L3.dfmn_mk KX G c_Asker ?a ?f ?i ?l ?t ?c ?k rfl (fun _ _ _ _ _ _=>L3.us2 fun _ _=>⟨_,rfl,rfl⟩) (fun _ _ _ _ _ _=>L3.us1 fun _=>⟨_,rfl,rfl⟩)
   (case a=>k_is);(case f=>k_is);(case i=>k_is);(case l=>k_is);(case t=>k_is);(case c=>k_is);(case k=>k_is)
  have d_Asker_bell:L3.DfM (L2.KOf KX) mg "Asker" "bell" "Asker.bell" K32.s_Asker_bell ["self"]:=by
   dsimp only[L2.KOf]at c_Asker ⊢
   refine' L3.dfm_mk KX G c_Asker ?a ?f ?i ?l ?c ?k (fun _ _ _ _ _ _=>L3.us1 fun _=>rfl)
   (case a=>k_is);(case f=>k_is);(case i=>k_is);(case l=>k_is);(case c=>k_is);(case k=>k_is)
  have d_Asker_hear:L3.DfM (L2.KOf KX) mg "Asker" "hear" "Asker.hear" K32.s_Asker_hear ["self","letter"]:=by
   dsimp only[L2.KOf]at c_Asker ⊢
   refine' L3.dfm_mk KX G c_Asker ?a ?f ?i ?l ?c ?k (fun _ _ _ _ _ _=>L3.us2 fun _ _=>rfl)
   (case a=>k_is);(case f=>k_is);(case i=>k_is);(case l=>k_is);(case c=>k_is);(case k=>k_is)
  have d_Asker_outcome:L3.DfM (L2.KOf KX) mg "Asker" "outcome" "Asker.outcome" K32.s_Asker_outcome ["self"]:=by
   dsimp only[L2.KOf]at c_Asker ⊢
   refine' L3.dfm_mk KX G c_Asker ?a ?f ?i ?l ?c ?k (fun _ _ _ _ _ _=>L3.us1 fun _=>rfl)
   (case a=>k_is);(case f=>k_is);(case i=>k_is);(case l=>k_is);(case c=>k_is);(case k=>k_is)
  have d_Asker_number:L3.DfM (L2.KOf KX) mg "Asker" "number" "Asker.number" K32.s_Asker_number ["self"]:=by
   dsimp only[L2.KOf]at c_Asker ⊢
   refine' L3.dfm_mk KX G c_Asker ?a ?f ?i ?l ?c ?k (fun _ _ _ _ _ _=>L3.us1 fun _=>rfl)
   (case a=>k_is);(case f=>k_is);(case i=>k_is);(case l=>k_is);(case c=>k_is);(case k=>k_is)
  have d_Asker_stand:L3.DfM (L2.KOf KX) mg "Asker" "stand" "Asker.stand" K32.s_Asker_stand ["self"]:=by
   dsimp only[L2.KOf]at c_Asker ⊢
   refine' L3.dfm_mk KX G c_Asker ?a ?f ?i ?l ?c ?k (fun _ _ _ _ _ _=>L3.us1 fun _=>rfl)
   (case a=>k_is);(case f=>k_is);(case i=>k_is);(case l=>k_is);(case c=>k_is);(case k=>k_is)
  have d_Asker_stamp:L3.DfM (L2.KOf KX) mg "Asker" "stamp" "Asker.stamp" K32.s_Asker_stamp ["self"]:=by
   dsimp only[L2.KOf]at c_Asker ⊢
   refine' L3.dfm_mk KX G c_Asker ?a ?f ?i ?l ?c ?k (fun _ _ _ _ _ _=>L3.us1 fun _=>rfl)
   (case a=>k_is);(case f=>k_is);(case i=>k_is);(case l=>k_is);(case c=>k_is);(case k=>k_is)
  have d_Asker_place:L3.DfM (L2.KOf KX) mg "Asker" "place" "Asker.place" K32.s_Asker_place ["self"]:=by
   dsimp only[L2.KOf]at c_Asker ⊢
   refine' L3.dfm_mk KX G c_Asker ?a ?f ?i ?l ?c ?k (fun _ _ _ _ _ _=>L3.us1 fun _=>rfl)
   (case a=>k_is);(case f=>k_is);(case i=>k_is);(case l=>k_is);(case c=>k_is);(case k=>k_is)
  have d_Asker_knows_over:L3.DfM (L2.KOf KX) mg "Asker" "knows_over" "Asker.knows_over" K32.s_Asker_knows_over ["self"]:=by
   dsimp only[L2.KOf]at c_Asker ⊢
   refine' L3.dfm_mk KX G c_Asker ?a ?f ?i ?l ?c ?k (fun _ _ _ _ _ _=>L3.us1 fun _=>rfl)
   (case a=>k_is);(case f=>k_is);(case i=>k_is);(case l=>k_is);(case c=>k_is);(case k=>k_is)
  have d_Asker_ask_members:L3.DfM (L2.KOf KX) mg "Asker" "ask_members" "Asker.ask_members" K32.s_Asker_ask_members ["self"]:=by
   dsimp only[L2.KOf]at c_Asker ⊢
   refine' L3.dfm_mk KX G c_Asker ?a ?f ?i ?l ?c ?k (fun _ _ _ _ _ _=>L3.us1 fun _=>rfl)
   (case a=>k_is);(case f=>k_is);(case i=>k_is);(case l=>k_is);(case c=>k_is);(case k=>k_is)
  have d_law_cell_at:L2.Df (L2.KOf KX) mg "_law_cell_at" K32.s_law_cell_at ["script","k"]:=by
   dsimp only[L2.KOf]
   refine' L3.df_mk KX G ?a ?l ?c ?k (fun _ _ _ _ _ _=>L3.us2 fun _ _=>rfl)
   (case a=>k_is);(case l=>k_is);(case c=>k_is);(case k=>k_is)
  have d_law_same:L2.Df (L2.KOf KX) mg "_law_same" K32.s_law_same ["found","due"]:=by
   dsimp only[L2.KOf]
   refine' L3.df_mk KX G ?a ?l ?c ?k (fun _ _ _ _ _ _=>L3.us2 fun _ _=>rfl)
   (case a=>k_is);(case l=>k_is);(case c=>k_is);(case k=>k_is)
  have d_law_turned:L2.Df (L2.KOf KX) mg "_law_turned" K32.s_law_turned ["rule","shift"]:=by
   dsimp only[L2.KOf]
   refine' L3.df_mk KX G ?a ?l ?c ?k (fun _ _ _ _ _ _=>L3.us2 fun _ _=>rfl)
   (case a=>k_is);(case l=>k_is);(case c=>k_is);(case k=>k_is)
  have d_law_hall:L2.Df (L2.KOf KX) mg "_law_hall" K32.s_law_hall ["cell"]:=by
   dsimp only[L2.KOf]
   refine' L3.df_mk KX G ?a ?l ?c ?k (fun _ _ _ _ _ _=>L3.us1 fun _=>rfl)
   (case a=>k_is);(case l=>k_is);(case c=>k_is);(case k=>k_is)
  have d_law_named:L2.Df (L2.KOf KX) mg "_law_named" K32.s_law_named ["rule"]:=by
   dsimp only[L2.KOf]
   refine' L3.df_mk KX G ?a ?l ?c ?k (fun _ _ _ _ _ _=>L3.us1 fun _=>rfl)
   (case a=>k_is);(case l=>k_is);(case c=>k_is);(case k=>k_is)
  have d_law_members:L2.Df (L2.KOf KX) mg "_law_members" K32.s_law_members ["hall"]:=by
   dsimp only[L2.KOf]
   refine' L3.df_mk KX G ?a ?l ?c ?k (fun _ _ _ _ _ _=>L3.us1 fun _=>rfl)
   (case a=>k_is);(case l=>k_is);(case c=>k_is);(case k=>k_is)
  have d_law_name:L2.Df (L2.KOf KX) mg "_law_name" K32.s_law_name ["cell"]:=by
   dsimp only[L2.KOf]
   refine' L3.df_mk KX G ?a ?l ?c ?k (fun _ _ _ _ _ _=>L3.us1 fun _=>rfl)
   (case a=>k_is);(case l=>k_is);(case c=>k_is);(case k=>k_is)
  have d_law_deed:L2.Df (L2.KOf KX) mg "_law_deed" K32.s_law_deed ["cell","seed"]:=by
   dsimp only[L2.KOf]
   refine' L3.df_mk KX G ?a ?l ?c ?k (fun _ _ _ _ _ _=>L3.us2 fun _ _=>rfl)
   (case a=>k_is);(case l=>k_is);(case c=>k_is);(case k=>k_is)
  have d_law_asks:L2.Df (L2.KOf KX) mg "_law_asks" K32.s_law_asks ["me","hall","stamp"]:=by
   dsimp only[L2.KOf]
   refine' L3.df_mk KX G ?a ?l ?c ?k (fun _ _ _ _ _ _=>L3.us3 fun _ _ _=>rfl)
   (case a=>k_is);(case l=>k_is);(case c=>k_is);(case k=>k_is)
  have d_law_stands:L2.Df (L2.KOf KX) mg "_law_stands" K32.s_law_stands ["one","hall","stamp","number","stand"]:=by
   dsimp only[L2.KOf]
   refine' L3.df_mk KX G ?a ?l ?c ?k (fun _ _ _ _ _ _=>L3.us5 fun _ _ _ _ _=>rfl)
   (case a=>k_is);(case l=>k_is);(case c=>k_is);(case k=>k_is)
  have d_law_begun:L2.Df (L2.KOf KX) mg "_law_begun" K32.s_law_begun ["one","script","seed"]:=by
   dsimp only[L2.KOf]
   refine' L3.df_mk KX G ?a ?l ?c ?k (fun _ _ _ _ _ _=>L3.us3 fun _ _ _=>rfl)
   (case a=>k_is);(case l=>k_is);(case c=>k_is);(case k=>k_is)
  have d_law_late:L2.Df (L2.KOf KX) mg "_law_late" K32.s_law_late ["me","hall","stamp","cell"]:=by
   dsimp only[L2.KOf]
   refine' L3.df_mk KX G ?a ?l ?c ?k (fun _ _ _ _ _ _=>L3.us4 fun _ _ _ _=>rfl)
   (case a=>k_is);(case l=>k_is);(case c=>k_is);(case k=>k_is)
  have d_law:L2.Df (L2.KOf KX) mg "law" K32.s_law ["script"]:=by
   dsimp only[L2.KOf]
   refine' L3.df_mk KX G ?a ?l ?c ?k (fun _ _ _ _ _ _=>L3.us1 fun _=>rfl)
   (case a=>k_is);(case l=>k_is);(case c=>k_is);(case k=>k_is)
  have g_LAST_KEEPER:∃u,mg "LAST_KEEPER"=some u∧L2.RelV (.int 5) u:=by
   refine' ⟨_,PySem.W.mg_of KX G ?a,?b⟩
   (case a=>k_is);(case b=>exact⟨_,rfl⟩)
  have g_MOST_PARTS:∃u,mg "MOST_PARTS"=some u∧L2.RelV (.int 6) u:=by
   refine' ⟨_,PySem.W.mg_of KX G ?a,?b⟩
   (case a=>k_is);(case b=>exact⟨_,rfl⟩)
  have g_MOST_NAMED:∃u,mg "MOST_NAMED"=some u∧L2.RelV (.int 12) u:=by
   refine' ⟨_,PySem.W.mg_of KX G ?a,?b⟩
   (case a=>k_is);(case b=>exact⟨_,rfl⟩)
  have g_MOST_DEEP:∃u,mg "MOST_DEEP"=some u∧L2.RelV (.int 4) u:=by
   refine' ⟨_,PySem.W.mg_of KX G ?a,?b⟩
   (case a=>k_is);(case b=>exact⟨_,rfl⟩)
  have g_SMALL_LETTERS:∃u,mg "SMALL_LETTERS"=some u∧L2.RelV (.str "abcdefghijklmnopqrstuvwxyz") u:=by
   refine' ⟨_,PySem.W.mg_of KX G ?a,?b⟩
   (case a=>k_is);(case b=>exact⟨_,rfl⟩)
  have g_MOST_LETTERS:∃u,mg "MOST_LETTERS"=some u∧L2.RelV (.int 8) u:=by
   refine' ⟨_,PySem.W.mg_of KX G ?a,?b⟩
   (case a=>k_is);(case b=>exact⟨_,rfl⟩)
  have k_FORMS:L3.KTab PySem.Challenge.rw_oneslate_k32_an_asker_asks.prog w (L2.KOf KX) mg "FORMS" K32.ktab_FORMS:=by
   dsimp only[L2.KOf]
   refine' L3.ktab_mk KX G ?a ?s ?l ?k ?f
   (case a=>k_is);(case s=>decide);(case l=>k_is)
   case k=>
    intro e he
    rcases List.mem_cons.mp he with rfl | he
    ·exact⟨"put",rfl,rfl⟩
    rcases List.mem_cons.mp he with rfl | he
    ·exact⟨"add",rfl,rfl⟩
    rcases List.mem_cons.mp he with rfl | he
    ·exact⟨"swap",rfl,rfl⟩
    rcases List.mem_cons.mp he with rfl | he
    ·exact⟨"take",rfl,rfl⟩
    rcases List.mem_cons.mp he with rfl | he
    ·exact⟨"renew",rfl,rfl⟩
    rcases List.mem_cons.mp he with rfl | he
    ·exact⟨"free",rfl,rfl⟩
    rcases List.mem_cons.mp he with rfl | he
    ·exact⟨"sure",rfl,rfl⟩
    rcases List.mem_cons.mp he with rfl | he
    ·exact⟨"move",rfl,rfl⟩
    rcases List.mem_cons.mp he with rfl | he
    ·exact⟨"end",rfl,rfl⟩
    cases he
   case f=>exact⟨_,_,rfl,⟨_,rfl⟩,(L3.krep_strs (xs:=["name","number"]) (by k_is) (by decide +kernel) (by exact⟨_,_,rfl,⟨_,_,rfl,rfl⟩⟩)),⟨_,_,rfl,⟨_,rfl⟩,(L3.krep_strs (xs:=["name","number"]) (by k_is) (by decide +kernel) (by exact⟨_,_,rfl,⟨_,_,rfl,rfl⟩⟩)),⟨_,_,rfl,⟨_,rfl⟩,(L3.krep_strs (xs:=["name","number","number"]) (by k_is) (by decide +kernel) (by exact⟨_,_,rfl,⟨_,_,rfl,⟨_,_,rfl,rfl⟩⟩⟩)),⟨_,_,rfl,⟨_,rfl⟩,(L3.krep_strs (xs:=["fence"]) (by k_is) (by decide +kernel) (by exact⟨_,_,rfl,rfl⟩)),⟨_,_,rfl,⟨_,rfl⟩,(L3.krep_strs (xs:=["fence"]) (by k_is) (by decide +kernel) (by exact⟨_,_,rfl,rfl⟩)),⟨_,_,rfl,⟨_,rfl⟩,(L3.krep_strs (xs:=["fence"]) (by k_is) (by decide +kernel) (by exact⟨_,_,rfl,rfl⟩)),⟨_,_,rfl,⟨_,rfl⟩,(L3.krep_strs (xs:=["fence","name","number"]) (by k_is) (by decide +kernel) (by exact⟨_,_,rfl,⟨_,_,rfl,⟨_,_,rfl,rfl⟩⟩⟩)),⟨_,_,rfl,⟨_,rfl⟩,(L3.krep_strs (xs:=["hall"]) (by k_is) (by decide +kernel) (by exact⟨_,_,rfl,rfl⟩)),⟨_,_,rfl,⟨_,rfl⟩,(L3.krep_strs (xs:=[]) (by k_is) (by decide +kernel) (by exact rfl)),rfl⟩⟩⟩⟩⟩⟩⟩⟩⟩
  have kt:L2.Kit (L2.KOf KX):=L2.kit_all _
  have Bx:L3.Bl3 mg:=by
   refine' ⟨PySem.W.mg_none_of KX G ?z0,PySem.W.mg_none_of KX G ?z1,PySem.W.mg_none_of KX G ?z2,PySem.W.mg_none_of KX G ?z3,PySem.W.mg_none_of KX G ?z4,PySem.W.mg_none_of KX G ?z5,PySem.W.mg_none_of KX G ?z6,PySem.W.mg_none_of KX G ?z7,PySem.W.mg_none_of KX G ?z8,PySem.W.mg_none_of KX G ?z9,PySem.W.mg_none_of KX G ?z10,PySem.W.mg_none_of KX G ?z11,PySem.W.mg_none_of KX G ?z12,PySem.W.mg_none_of KX G ?z13,PySem.W.mg_none_of KX G ?z14,PySem.W.mg_none_of KX G ?z15,PySem.W.mg_none_of KX G ?z16,PySem.W.mg_none_of KX G ?z17,PySem.W.mg_none_of KX G ?z18⟩
   (case z0=>k_is);(case z1=>k_is);(case z2=>k_is);(case z3=>k_is);(case z4=>k_is);(case z5=>k_is);(case z6=>k_is);(case z7=>k_is);(case z8=>k_is);(case z9=>k_is);(case z10=>k_is);(case z11=>k_is);(case z12=>k_is);(case z13=>k_is);(case z14=>k_is);(case z15=>k_is);(case z16=>k_is);(case z17=>k_is);(case z18=>k_is)
  exact L3.all_mk hmg d_law (fun _ _ _ _ _ _ _=>rfl) K32.law_true (fun base f fd F=>K32.ok_law ⟨d_is_whole,d_has_keeper,d_mask_of,d_keepers_of,d_masks_within,d_is_keeper,d_is_pair,d_is_choice,d_is_built,d_namings,d_is_rule,d_named,d_fills,d_is_least,d_least_masks,d_first_apart,d_parting,d_is_hall,d_members_mask,d_members_of,d_is_name,d_is_number,d_is_fence,d_form_of,d_is_part,d_is_deed,d_blank,d_ask_letter,d_Asker___init__,d_Asker_begin,d_Asker_bell,d_Asker_hear,d_Asker_outcome,d_Asker_number,d_Asker_stand,d_Asker_stamp,d_Asker_place,d_Asker_knows_over,d_Asker_ask_members,d_law_cell_at,d_law_same,d_law_turned,d_law_hall,d_law_named,d_law_members,d_law_name,d_law_deed,d_law_asks,d_law_stands,d_law_begun,d_law_late,d_law,c_Asker,g_LAST_KEEPER,g_MOST_PARTS,g_MOST_NAMED,g_MOST_DEEP,g_SMALL_LETTERS,g_MOST_LETTERS,k_FORMS,Bx,kt⟩ F)
